import PyProof.Rows.All
import Wide.All
import OpenK.AllK
import Wide.FinOn
import HandS.ForMost
import HandS.ForExc
import HandS.Iter
import HandS.ExcOwn
import HandS.TryOnly
import HandS.TryMany
import HandS.TupAny
import HandS.Zip
import HandS.Wide
import HandS.IsInst
import HandS.Style
import HandS.TupLe
import HandS.Lambda
import HandS.Conv
import HandS.Flow
import HandS.DictComp
import HandS.Small
import KE.DataEq
import HandS.CallSlots
import HandS.RaiseMore
import HandS.TupMul
import HandS.WideBits
import HandS.Defaults
import HandS.HeadHook2
import HandS.EndTab
import HandS.HeadWalk
import KE.KNestM
import HandS.Dict
import PyProof.StrOps2
import HandS.Deep
import HandS.More
import HandS.SortInts
import PyProof.Rows.SortStr
import PyProof.Rows.StrMeet
import HandS.SetKeys
import HandS.SetBool
import HandS.Set
import HandS.StrMore
import KE.DataMinKey
import HandS.SortKw
import HandS.Nested
import KE.SortData
import PySem.Challenge.RW_shardstack_k23_shares_by_weight
section
set_option Elab.async false
set_option linter.all false
set_option maxRecDepth 100000
/-! Deep values over the hand layer: a mirror of expressions and statements by plain functions. -/
namespace DD
open PySem L2

/-- a value to its depth; ref: the l-th of the objects that may change; con: a named constant (a class, a def); fls: a list that nobody writes -/
inductive D where
  | non | bl (b : Bool) | int (i : Int) | str (x : Str) | tup (xs : List D) | ref (l : Nat) | con (c : Nat) | fls (xs : List D)
/-- an object that may change -/
inductive O where
  | lst (xs : List D) | dct (kvs : List (Key × D)) | ins (c : Nat) (fs : List (Str × D)) | lam (i : Nat) | fdct (kvs : List (Key × D))
abbrev AH := List O
abbrev SL := List (Option D)
/-- the written part, the constants by number, the tables of code objects -/
structure LamI where
  q : Str
  params : Arguments
  body : Expr
  scope : Scope
structure G where
  K : PySem.W.Frag
  cl : Nat → Addr
  T : List (Addr × Str)
  L : Nat → Option LamI := fun _ => none
  C : Nat → List (Str × Addr) := fun _ => []
/-- a lambda; cl: the cells that it captures -/
def LamO (f : Addr) (q : Str) (params : Arguments) (body : Expr) (scope : Scope) (cl : List (Str × Addr)) (pm : Value) (c : Addr) (ct : Value) : HO := .ext fun h => h.get? f = some (PySem.W.kla_obj "<lambda>" q params body scope cl pm c ct)

/-- a list that nobody writes -/
def FzL (K : PySem.W.Frag) (H : Hp) (a : Addr) (xs : List V) : Prop := (∃ o, H a = some (.frz o (.lst xs))) ∨
    ∃ (o : Obj) (its : Array Value) (n : Nat), K.lookup a = some o ∧ o.cls = .type "list" ∧ o.dict = none ∧ o.data = .seq its n ∧ its.size ≤ sizeLine ∧ Vals xs its.toList
mutual
inductive Den (g : G) (α : List Addr) (H : Hp) : D → V → Prop
  | non : Den g α H .non .non
  | bl (b : Bool) : Den g α H (.bl b) (.bl b)
  | int (i : Int) : Den g α H (.int i) (.int i)
  | str (x : Str) : Den g α H (.str x) (.str x)
  | tup {a : Addr} {ds : List D} {vs : List V} : SqT g.K H a vs → DenL g α H ds vs → Den g α H (.tup ds) (.ref a)
  | ref {l : Nat} {a : Addr} : α[l]? = some a → Den g α H (.ref l) (.ref a)
  | con {c : Nat} : Den g α H (.con c) (.ref (g.cl c))
  | fls {a : Addr} {ds : List D} {vs : List V} : FzL g.K H a vs → DenL g α H ds vs → Den g α H (.fls ds) (.ref a)
inductive DenL (g : G) (α : List Addr) (H : Hp) : List D → List V → Prop
  | nil : DenL g α H [] []
  | cons {d : D} {ds : List D} {v : V} {vs : List V} : Den g α H d v → DenL g α H ds vs → DenL g α H (d :: ds) (v :: vs)
end

/-- what stays of (α, H) in (α', H') -/
structure Ext (α : List Addr) (H : Hp) (α' : List Addr) (H' : Hp) : Prop where
  pre : ∀ (l : Nat) (a : Addr), α[l]? = some a → α'[l]? = some a
  tup : ∀ b xs, Rd H b (.tup xs) → Rd H' b (.tup xs)
  frl : ∀ b o u, H b = some (.frz o u) → H' b = some (.frz o u)
  ext : ∀ c p, H c = some (.ext p) → H' c = some (.ext p)
/-- what values and objects lean on -/
structure ExtW (α : List Addr) (H : Hp) (α' : List Addr) (H' : Hp) : Prop where
  pre : ∀ (l : Nat) (a : Addr), α[l]? = some a → α'[l]? = some a
  tup : ∀ b xs, Rd H b (.tup xs) → Rd H' b (.tup xs)
  frl : ∀ b o xs, H b = some (.frz o (.lst xs)) → H' b = some (.frz o (.lst xs))
  cod : ∀ c q, H c = some (LamX.CodeO c q) → H' c = some (LamX.CodeO c q)

section
variable {g : G} {α α' α'' : List Addr} {H H' H'' : Hp} {d : D} {v : V} {ds es : List D} {vs ws : List V}
theorem Ext.refl : Ext α H α H := ⟨fun _ _ h => h, fun _ _ h => h, fun _ _ _ h => h, fun _ _ h => h⟩
theorem Ext.trans (a : Ext α H α' H') (b : Ext α' H' α'' H'') : Ext α H α'' H'' :=
  ⟨fun l x h => b.pre l x (a.pre l x h), fun c xs h => b.tup c xs (a.tup c xs h), fun c o xs h => b.frl c o xs (a.frl c o xs h), fun c q h => b.ext c q (a.ext c q h)⟩
theorem Ext.w (e : Ext α H α' H') : ExtW α H α' H' := ⟨e.pre, e.tup, fun b o xs => e.frl b o (.lst xs), fun c q h => e.ext c _ h⟩
theorem ExtW.sqT {K : PySem.W.Frag} {a : Addr} {xs : List V} (e : ExtW α H α' H') (h : SqT K H a xs) : SqT K H' a xs := by
  rcases h with h | h
  · exact .inl (e.tup _ _ h)
  · exact .inr h
theorem ExtW.fzL {K : PySem.W.Frag} {a : Addr} {xs : List V} (e : ExtW α H α' H') (h : FzL K H a xs) : FzL K H' a xs := by
  rcases h with ⟨o, h⟩ | h
  · exact .inl ⟨o, e.frl _ _ _ h⟩
  · exact .inr h
theorem FzL.seq {K : PySem.W.Frag} {a : Addr} {xs : List V} (h : FzL K H a xs) : SqL K H a xs := by
  rcases h with ⟨o, h⟩ | h
  · exact .inl (.inr ⟨o, h⟩)
  · exact .inr h
mutual
theorem Den.extW (e : ExtW α H α' H') : ∀ (d : D) (v : V), Den g α H d v → Den g α' H' d v
  | .non, _, h => by cases h; exact .non
  | .bl _, _, h => by cases h; exact .bl _
  | .int _, _, h => by cases h; exact .int _
  | .str _, _, h => by cases h; exact .str _
  | .tup ds, _, h => by
    cases h with
    | tup hs hl => exact .tup (e.sqT hs) (DenL.extW e ds _ hl)
  | .ref _, _, h => by
    cases h with
    | ref hl => exact .ref (e.pre _ _ hl)
  | .con _, _, h => by cases h; exact .con
  | .fls ds, _, h => by
    cases h with
    | fls hs hl => exact .fls (e.fzL hs) (DenL.extW e ds _ hl)
theorem DenL.extW (e : ExtW α H α' H') : ∀ (ds : List D) (vs : List V), DenL g α H ds vs → DenL g α' H' ds vs
  | [], _, h => by cases h; exact .nil
  | d :: ds, _, h => by
    cases h with
    | cons h1 h2 => exact .cons (Den.extW e d _ h1) (DenL.extW e ds _ h2)
end
theorem Ext.sqT {K : PySem.W.Frag} {a : Addr} {xs : List V} (e : Ext α H α' H') (h : SqT K H a xs) : SqT K H' a xs := e.w.sqT h
theorem Ext.fzL {K : PySem.W.Frag} {a : Addr} {xs : List V} (e : Ext α H α' H') (h : FzL K H a xs) : FzL K H' a xs := e.w.fzL h
theorem Den.ext (e : Ext α H α' H') (d : D) (v : V) (h : Den g α H d v) : Den g α' H' d v := Den.extW e.w d v h
theorem DenL.ext (e : Ext α H α' H') (ds : List D) (vs : List V) (h : DenL g α H ds vs) : DenL g α' H' ds vs := DenL.extW e.w ds vs h
theorem DenL.length : ∀ {ds : List D} {vs : List V}, DenL g α H ds vs → ds.length = vs.length
  | [], _, h => by cases h; rfl
  | d :: ds, _, h => by
    cases h with
    | cons h1 h2 => simp [DenL.length h2]
theorem DenL.append : ∀ {ds es : List D} {vs ws : List V}, DenL g α H ds vs → DenL g α H es ws → DenL g α H (ds ++ es) (vs ++ ws)
  | [], _, _, _, h, k => by cases h; exact k
  | d :: ds, _, _, _, h, k => by
    cases h with
    | cons h1 h2 => exact .cons h1 (DenL.append h2 k)
theorem DenL.take : ∀ (n : Nat) {ds : List D} {vs : List V}, DenL g α H ds vs → DenL g α H (ds.take n) (vs.take n)
  | 0, _, _, _ => by simp only [List.take_zero]; exact .nil
  | n + 1, [], _, h => by cases h; exact .nil
  | n + 1, d :: ds, _, h => by
    cases h with
    | cons h1 h2 => exact .cons h1 (DenL.take n h2)
theorem DenL.drop : ∀ (n : Nat) {ds : List D} {vs : List V}, DenL g α H ds vs → DenL g α H (ds.drop n) (vs.drop n)
  | 0, _, _, h => h
  | n + 1, [], _, h => by cases h; exact .nil
  | n + 1, d :: ds, _, h => by
    cases h with
    | cons h1 h2 => exact DenL.drop n h2
theorem DenL.get : ∀ {ds : List D} {vs : List V} {i : Nat} {d : D}, DenL g α H ds vs → ds[i]? = some d → ∃ v, vs[i]? = some v ∧ Den g α H d v
  | [], _, _, _, h, e => by simp at e
  | d :: ds, _, 0, _, h, e => by
    cases h with
    | cons h1 h2 => simp at e; subst e; exact ⟨_, rfl, h1⟩
  | d :: ds, _, i + 1, _, h, e => by
    cases h with
    | cons h1 h2 =>
      obtain ⟨v, q, r⟩ := DenL.get (i := i) h2 (by simpa using e)
      exact ⟨v, by simpa using q, r⟩
theorem DenL.set : ∀ {ds : List D} {vs : List V} (i : Nat) {d : D} {v : V}, DenL g α H ds vs → Den g α H d v → DenL g α H (ds.set i d) (vs.set i v)
  | [], _, _, _, _, h, k => by cases h; exact .nil
  | d :: ds, _, 0, _, _, h, k => by
    cases h with
    | cons h1 h2 => exact .cons k h2
  | d :: ds, _, i + 1, _, _, h, k => by
    cases h with
    | cons h1 h2 => exact .cons h1 (DenL.set i h2 k)
theorem DenL.eraseIdx : ∀ {ds : List D} {vs : List V} (i : Nat), DenL g α H ds vs → DenL g α H (ds.eraseIdx i) (vs.eraseIdx i)
  | [], _, _, h => by cases h; exact .nil
  | d :: ds, _, 0, h => by
    cases h with
    | cons h1 h2 => exact h2
  | d :: ds, _, i + 1, h => by
    cases h with
    | cons h1 h2 => exact .cons h1 (DenL.eraseIdx i h2)
theorem DenL.snoc (h : DenL g α H ds vs) (k : Den g α H d v) : DenL g α H (ds ++ [d]) (vs ++ [v]) := h.append (.cons k .nil)
end

/-- what the mirrors write -/
def MutS : HO → Prop
  | .lst _ => True
  | .dK _ => True
  | .ins _ _ _ => True
  | _ => False
theorem MutS.mut {u : HO} (m : MutS u) : Mut (some u) := by cases u <;> first | exact True.intro | exact m.elim
/-- an object of the abstract heap at an address -/
def RepO (g : G) (α : List Addr) (H : Hp) (a : Addr) : O → Prop
  | .lst ds => ∃ vs, H a = some (.lst vs) ∧ DenL g α H ds vs
  | .dct kvs => ∃ ws : List (Key × V), H a = some (.dK ws) ∧ ws.map (·.1) = kvs.map (·.1) ∧ DenL g α H (kvs.map (·.2)) (ws.map (·.2))
  | .fdct kvs => ∃ (o : Obj) (ws : List (Key × V)), H a = some (.frz o (.dK ws)) ∧ ws.map (·.1) = kvs.map (·.1) ∧ DenL g α H (kvs.map (·.2)) (ws.map (·.2))
  | .lam i => ∃ I pm c ct, g.L i = some I ∧ H a = some (LamO a I.q I.params I.body I.scope (g.C i) pm c ct) ∧ H c = some (LamX.CodeO c I.q)
  | .ins c fs => ∃ dx, ∃ ws : List (Str × V), H a = some (.ins (g.cl c) dx ws) ∧ ws.map (·.1) = fs.map (·.1) ∧ DenL g α H (fs.map (·.2)) (ws.map (·.2))
structure Rep (g : G) (α : List Addr) (h : AH) (H : Hp) : Prop where
  len : α.length = h.length
  nd : α.Nodup
  tabs : LamX.Tabs g.T H
  ob : ∀ (l : Nat) (o : O) (a : Addr), h[l]? = some o → α[l]? = some a → RepO g α H a o
/-- slots -/
structure DenS (g : G) (α : List Addr) (H : Hp) (τ : SL) (σ : St) : Prop where
  len : τ.length = σ.length
  at_ : ∀ (i : Nat) (d : D), τ[i]? = some (some d) → ∃ v, σ[i]? = some (some v) ∧ Den g α H d v

section
variable {g : G} {α α' α'' : List Addr} {H H' H'' : Hp} {d : D} {v : V} {ds es : List D} {vs ws : List V} {h : AH} {a : Addr} {o : O} {l : Nat}
theorem DenS.ext {τ : SL} {σ : St} (s : DenS g α H τ σ) (e : Ext α H α' H') : DenS g α' H' τ σ :=
  ⟨s.len, fun i d q => let ⟨v, h1, h2⟩ := s.at_ i d q; ⟨v, h1, Den.ext e _ _ h2⟩⟩
theorem DenS.set {τ : SL} {σ : St} (s : DenS g α H τ σ) (i : Nat) (k : Den g α H d v) : DenS g α H (τ.set i (some d)) (σ.set i (some v)) := by
  refine ⟨by simp [s.len], fun j e q => ?_⟩
  by_cases hj : i = j
  · subst hj
    by_cases hi : i < τ.length
    · rw [List.getElem?_set_self hi] at q
      cases q
      exact ⟨v, by rw [List.getElem?_set_self (by rw [← s.len]; exact hi)], k⟩
    · rw [List.getElem?_eq_none (by simp; omega)] at q
      cases q
  · rw [List.getElem?_set_ne hj] at q
    obtain ⟨w, h1, h2⟩ := s.at_ j e q
    exact ⟨w, by rw [List.getElem?_set_ne hj]; exact h1, h2⟩
theorem Rep.addr (r : Rep g α h H) (e : h[l]? = some o) : ∃ a, α[l]? = some a ∧ RepO g α H a o := by
  obtain ⟨hl, _⟩ := List.getElem?_eq_some_iff.mp e
  have hl' : l < α.length := by rw [r.len]; exact hl
  exact ⟨α[l], List.getElem?_eq_getElem hl', r.ob l o _ e (List.getElem?_eq_getElem hl')⟩
theorem nodup_at {β : Type} : ∀ {l : List β} {i j : Nat} {x : β}, l.Nodup → l[i]? = some x → l[j]? = some x → i = j
  | [], i, j, x, _, h, _ => by simp at h
  | b :: l, 0, 0, x, _, _, _ => rfl
  | b :: l, 0, j + 1, x, n, h1, h2 => by
    simp at h1 h2
    subst h1
    exact absurd (List.mem_of_getElem? h2) (List.nodup_cons.mp n).1
  | b :: l, i + 1, 0, x, n, h1, h2 => by
    simp at h1 h2
    subst h2
    exact absurd (List.mem_of_getElem? h1) (List.nodup_cons.mp n).1
  | b :: l, i + 1, j + 1, x, n, h1, h2 => by
    have := nodup_at (i := i) (j := j) (List.nodup_cons.mp n).2 (by simpa using h1) (by simpa using h2)
    omega
theorem Rep.inj (r : Rep g α h H) {i j : Nat} (h1 : α[i]? = some a) (h2 : α[j]? = some a) : i = j := nodup_at r.nd h1 h2
theorem RepO.extW (x : RepO g α H a o) (e : ExtW α H α' H') (k : H' a = H a ) : RepO g α' H' a o := by
  cases o with
  | lst ds => obtain ⟨vs, h1, h2⟩ := x; exact ⟨vs, k.trans h1, DenL.extW e _ _ h2⟩
  | dct kvs => obtain ⟨ws, h1, h2, h3⟩ := x; exact ⟨ws, k.trans h1, h2, DenL.extW e _ _ h3⟩
  | ins c fs => obtain ⟨dx, ws, h1, h2, h3⟩ := x; exact ⟨dx, ws, k.trans h1, h2, DenL.extW e _ _ h3⟩
  | lam i => obtain ⟨I, pm, c, ct, h0, h1, h2⟩ := x; exact ⟨I, pm, c, ct, h0, k.trans h1, e.cod _ _ h2⟩
  | fdct kvs => obtain ⟨o, ws, h1, h2, h3⟩ := x; exact ⟨o, ws, k.trans h1, h2, DenL.extW e _ _ h3⟩
theorem RepO.ext (x : RepO g α H a o) (e : Ext α H α' H') (k : H' a = H a ) : RepO g α' H' a o := x.extW e.w k
/-- no table of code objects -/
def NotT (u : HO) : Prop := ∀ ps, u ≠ .tbl ps
theorem RepO.some_of (x : RepO g α H a o) : ∃ u, H a = some u ∧ NotT u := by
  cases o with
  | lst ds => obtain ⟨vs, h1, h2⟩ := x; exact ⟨_, h1, fun ps z => by cases z⟩
  | dct kvs => obtain ⟨ws, h1, h2, h3⟩ := x; exact ⟨_, h1, fun ps z => by cases z⟩
  | ins c fs => obtain ⟨dx, ws, h1, h2, h3⟩ := x; exact ⟨_, h1, fun ps z => by cases z⟩
  | lam i => obtain ⟨I, pm, c, ct, h0, h1, h2⟩ := x; exact ⟨_, h1, fun ps z => by unfold LamO at z; cases z⟩
  | fdct kvs => obtain ⟨o, ws, h1, h2, h3⟩ := x; exact ⟨_, h1, fun ps z => by cases z⟩
end

/-! ### outcomes -/
inductive EO where
  | ok (d : D) (h : AH) | exc (c : Nat) (h : AH) | bad
abbrev EM := SL → AH → EO
inductive SO where
  | nx (τ : SL) (h : AH) | rt (d : D) (h : AH) | bk (τ : SL) (h : AH) | ct (τ : SL) (h : AH) | exc (c : Nat) (τ : SL) (h : AH) | bad
abbrev SM := SL → AH → SO
def EO.bind : EO → (D → AH → EO) → EO
  | .ok d h, f => f d h
  | .exc c h, _ => .exc c h
  | .bad, _ => .bad

def PostE (g : G) (W : WX) (α : List Addr) (H : Hp) (σ : St) (Q : VK) : EO → Prop
  | .ok d h' => ∀ α' H' v, Ext α H α' H' → Rep g α' h' H' → Den g α' H' d v → Q v H'
  | .exc c h' => ∀ α' H', Ext α H α' H' → Rep g α' h' H' → W (.ref (g.cl c)) none σ H'
  | .bad => False
def tE (g : G) (W : WX) (m : EM) : TE := fun σ H Q => ∃ α h τ, Rep g α h H ∧ DenS g α H τ σ ∧ PostE g W α H σ Q (m τ h)

section
variable {g : G} {W : WX} {α α' α'' : List Addr} {H H' H'' : Hp} {σ : St} {Q Q' : VK} {o : EO} {f : D → AH → EO}
theorem PostE.mono (p : PostE g W α H σ Q o) (e : Ext α H α' H') : PostE g W α' H' σ Q o := by
  cases o with
  | ok d h => exact fun α2 H2 v e2 r d => p α2 H2 v (e.trans e2) r d
  | exc c h => exact fun α2 H2 e2 r => p α2 H2 (e.trans e2) r
  | bad => exact p
theorem PostE.imp (p : PostE g W α H σ Q o) (k : ∀ v H', Q v H' → Q' v H') : PostE g W α H σ Q' o := by
  cases o with
  | ok d h => exact fun α2 H2 v e2 r d => k _ _ (p α2 H2 v e2 r d)
  | exc c h => exact p
  | bad => exact p
theorem PostE.bind (p : PostE g W α H σ Q (o.bind f)) :
    PostE g W α H σ (fun v H1 => ∃ α1 d h1, Ext α H α1 H1 ∧ Rep g α1 h1 H1 ∧ Den g α1 H1 d v ∧ PostE g W α1 H1 σ Q (f d h1)) o := by
  cases o with
  | ok d h => exact fun α2 H2 v e2 r dd => ⟨α2, d, h, e2, r, dd, PostE.mono p e2⟩
  | exc c h => exact p
  | bad => exact p
end

theorem PE.imp {X : Cx} {e : Expr} {t t' : TE} (h : PE X e t) (k : ∀ σ H Q, t' σ H Q → t σ H Q) : PE X e t' :=
  ⟨fun pins s σ H Q I q => h.run pins s σ H Q I (k σ H Q q)⟩
theorem PT.imp {X : Cx} {e : Expr} {t t' : TT} (h : PT X e t) (k : ∀ σ H Q, t' σ H Q → t σ H Q) : PT X e t' :=
  ⟨fun pins s σ H Q I q => h.run pins s σ H Q I (k σ H Q q)⟩
theorem PS.imp {X : Cx} {e : Stmt} {t t' : TS} (h : PS X e t) (k : ∀ D σ H, t' D σ H → t D σ H) : PS X e t' :=
  ⟨fun pins s σ H Q I q => h.run pins s σ H Q I (k Q σ H q)⟩
theorem PSs.imp {X : Cx} {e : List Stmt} {t t' : TS} (h : PSs X e t) (k : ∀ D σ H, t' D σ H → t D σ H) : PSs X e t' :=
  ⟨fun pins s σ H Q I q => h.run pins s σ H Q I (k Q σ H q)⟩

/-! ### new objects, written objects -/
section
variable {g : G} {α α' α'' : List Addr} {H H' H'' : Hp} {d : D} {v : V} {ds es : List D} {vs ws : List V} {h : AH} {a p : Addr} {o : O} {l : Nat} {u u' : HO}
/-- a new thing at p -/
theorem Ext.new (hp : H p = none) : Ext α H α (upd H p u) := by
  refine ⟨fun _ _ h => h, fun b xs r => ?_, fun b o xs e => by rw [upd_ne (ne_of_none e hp)]; exact e, fun c q e => by rw [upd_ne (ne_of_none e hp)]; exact e⟩
  rcases r with r | ⟨ob, r⟩
  · exact .inl (by rw [upd_ne (ne_of_none r hp)]; exact r)
  · exact .inr ⟨ob, by rw [upd_ne (ne_of_none r hp)]; exact r⟩
theorem tabs_new {T : List (Addr × Str)} (t : LamX.Tabs T H) (hp : H p = none) : LamX.Tabs T (upd H p u) := t.ext fun b o e => by rw [upd_ne (ne_of_none e hp)]; exact e
theorem tabs_put {T : List (Addr × Str)} (t : LamX.Tabs T H) (ha : H a = some u) (m : MutS u) : LamX.Tabs T (upd H a u') := fun q hq => by
  obtain ⟨ps, h1, h2, h3⟩ := t q hq
  have n1 : q.1 ≠ a := fun z => by rw [z, ha] at h1; cases h1; exact m
  refine ⟨ps, by rw [upd_ne n1]; exact h1, h2, fun pos cv hc => ?_⟩
  obtain ⟨c, e1, e2⟩ := h3 pos cv hc
  refine ⟨c, e1, ?_⟩
  have n2 : c ≠ a := fun z => by
    rw [z, ha] at e2
    have e3 := Option.some.inj e2
    unfold LamX.CodeO at e3
    rw [e3] at m
    exact m
  rw [upd_ne n2]
  exact e2
theorem Ext.put (ha : H a = some u) (m' : MutS u) : Ext α H α (upd H a u') := by
  have m := m'.mut
  have nt : ∀ b x, H b = some x → ¬ Mut (some x) → b ≠ a := fun b x e nm z => by subst z; rw [ha] at e; cases e; exact nm m
  refine ⟨fun _ _ h => h, fun b xs r => ?_, fun b o xs e => by rw [upd_ne (nt b _ e (fun z => z))]; exact e, fun c q e => ?_⟩
  · rcases r with r | ⟨ob, r⟩
    · exact .inl (by rw [upd_ne (nt b _ r (fun z => z))]; exact r)
    · exact .inr ⟨ob, by rw [upd_ne (nt b _ r (fun z => z))]; exact r⟩
  · have n2 : c ≠ a := fun z => by
      rw [z, ha] at e
      have e3 := Option.some.inj e
      rw [e3] at m'
      exact m'
    rw [upd_ne n2]
    exact e
theorem Ext.app (b : List Addr) : Ext α H (α ++ b) H := ⟨fun l a e => by
  obtain ⟨hl, _⟩ := List.getElem?_eq_some_iff.mp e
  rw [List.getElem?_append_left hl]; exact e, fun _ _ h => h, fun _ _ _ h => h, fun _ _ h => h⟩
/-- an immutable thing is laid: the abstract heap is as it was -/
theorem Rep.new (r : Rep g α h H) (hp : H p = none) : Rep g α h (upd H p u) := by
  refine ⟨r.len, r.nd, tabs_new r.tabs hp, fun l o a h1 h2 => ?_⟩
  have x := r.ob l o a h1 h2
  obtain ⟨z, e, _⟩ := x.some_of
  exact x.ext (Ext.new hp) (upd_ne (ne_of_none e hp))
theorem Rep.ne_new (r : Rep g α h H) (hp : H p = none) : p ∉ α := fun hm => by
  obtain ⟨i, hi, e⟩ := List.getElem_of_mem hm
  have h1 : α[i]? = some p := by rw [List.getElem?_eq_getElem hi, e]
  have hl : i < h.length := by rw [← r.len]; exact hi
  obtain ⟨z, e2, _⟩ := (r.ob i _ p (List.getElem?_eq_getElem hl) h1).some_of
  rw [hp] at e2; cases e2
/-- a thing that may change is laid at p -/
theorem Rep.push (r : Rep g α h H) (hp : H p = none) (x : RepO g (α ++ [p]) (upd H p u) p o) : Rep g (α ++ [p]) (h ++ [o]) (upd H p u) ∧ Ext α H (α ++ [p]) (upd H p u) := by
  have e : Ext α H (α ++ [p]) (upd H p u) := (Ext.new hp).trans (Ext.app _)
  refine ⟨⟨by simp [r.len], ?_, tabs_new r.tabs hp, fun l o' a h1 h2 => ?_⟩, e⟩
  · rw [List.nodup_append]
    refine ⟨r.nd, by simp, fun b hb c hc => ?_⟩
    rw [List.mem_singleton] at hc
    subst hc
    intro q
    subst q
    exact r.ne_new hp hb
  · by_cases hl : l < h.length
    · rw [List.getElem?_append_left hl] at h1
      rw [List.getElem?_append_left (by rw [r.len]; exact hl)] at h2
      have y := r.ob l o' a h1 h2
      obtain ⟨z, e3, _⟩ := y.some_of
      exact y.ext e (upd_ne (ne_of_none e3 hp))
    · have hle : l < (h ++ [o]).length := (List.getElem?_eq_some_iff.mp h1).1
      have : l = h.length := by rw [List.length_append, List.length_singleton] at hle; omega
      subst this
      rw [List.getElem?_append_right (Nat.le_refl _), Nat.sub_self] at h1
      rw [← r.len, List.getElem?_append_right (Nat.le_refl _), Nat.sub_self] at h2
      cases h1
      cases h2
      exact x
/-- what stands at l is written -/
theorem Rep.write (r : Rep g α h H) (hl : α[l]? = some a) (ha : H a = some u) (m : MutS u) (x : RepO g α (upd H a u') a o) : Rep g α (h.set l o) (upd H a u') ∧ Ext α H α (upd H a u') := by
  have e : Ext α H α (upd H a u') := Ext.put ha m
  refine ⟨⟨by simp [r.len], r.nd, tabs_put r.tabs ha m, fun j o' b h1 h2 => ?_⟩, e⟩
  by_cases hj : l = j
  · subst hj
    rw [hl] at h2
    cases h2
    have hlt : l < h.length := by rw [← r.len]; exact (List.getElem?_eq_some_iff.mp hl).1
    rw [List.getElem?_set_self hlt] at h1
    cases h1
    exact x
  · rw [List.getElem?_set_ne hj] at h1
    have y := r.ob j o' b h1 h2
    refine y.ext e (upd_ne fun q => hj ?_)
    subst q
    exact (r.inj h2 hl).symm
end
end DD
end

section
set_option Elab.async false
set_option linter.all false
set_option maxRecDepth 100000
/-! Expressions. -/
namespace DD
open PySem L2
open PyProof.Rows (b2i)

/-! ### mirrors of expressions -/
def varM (i : Nat) : EM := fun τ h => match τ[i]? with
  | some (some d) => .ok d h
  | _ => .bad
def cM (d : D) : EM := fun _ h => .ok d h
def binM (a b : EM) (f : D → D → AH → EO) : EM := fun τ h => (a τ h).bind fun x h1 => (b τ h1).bind fun y h2 => f x y h2
def unM (a : EM) (f : D → AH → EO) : EM := fun τ h => (a τ h).bind fun x h1 => f x h1

section
variable {X : Cx} {g : G} {W : WX} {a b c e : Expr} {ma mb mc : EM} {pos : Pos} {σ : St} {H : Hp} {Q : VK}

theorem tE_var {i : Nat} (p : tE g W (varM i) σ H Q) : tVar i σ H Q := by
  obtain ⟨α, h, τ, r, s, p⟩ := p
  unfold varM at p
  split at p
  · rename_i d e
    obtain ⟨v, h1, h2⟩ := s.at_ i d e
    exact ⟨v, h1, p α H v .refl r h2⟩
  · exact p.elim
theorem tE_c {d : D} {v : V} (hd : ∀ α H, Den g α H d v) (p : tE g W (cM d) σ H Q) : tC v σ H Q := by
  obtain ⟨α, h, τ, r, s, p⟩ := p
  exact p α H v .refl r (hd α H)
theorem de_var {i : Nat} (h : PE X e (tVar i)) : PE X e (tE g W (varM i)) := PE.imp h fun _ _ _ => tE_var
theorem de_c {d : D} {v : V} (hd : ∀ α H, Den g α H d v) (h : PE X e (tC v)) : PE X e (tE g W (cM d)) := PE.imp h fun _ _ _ => tE_c hd

/-- an operation by values keeps what f says -/
def RS2 (g : G) (W : WX) (r : R2) (f : D → D → AH → EO) : Prop :=
  ∀ (α : List Addr) (h : AH) (H : Hp) (σ : St) (x y : V) (dx dy : D) (Q : VK), Rep g α h H → Den g α H dx x → Den g α H dy y → PostE g W α H σ Q (f dx dy h) → r x y H Q
def RS1 (g : G) (W : WX) (r : V → Hp → VK → Prop) (f : D → AH → EO) : Prop :=
  ∀ (α : List Addr) (h : AH) (H : Hp) (σ : St) (x : V) (dx : D) (Q : VK), Rep g α h H → Den g α H dx x → PostE g W α H σ Q (f dx h) → r x H Q
theorem tE_bin {r : R2} {f : D → D → AH → EO} (rs : RS2 g W r f) (p : tE g W (binM ma mb f) σ H Q) : tOp r (tE g W ma) (tE g W mb) σ H Q := by
  obtain ⟨α, h, τ, R, s, p⟩ := p
  refine ⟨α, h, τ, R, s, PostE.imp (PostE.bind p) ?_⟩
  rintro v H1 ⟨α1, d, h1, E1, R1, D1, p1⟩
  refine ⟨α1, h1, τ, R1, s.ext E1, PostE.imp (PostE.bind p1) ?_⟩
  rintro w H2 ⟨α2, d2, h2, E2, R2, D2, p2⟩
  exact rs α2 h2 H2 σ v w d d2 Q R2 (Den.ext E2 _ _ D1) D2 p2
theorem tE_un {r : V → Hp → VK → Prop} {f : D → AH → EO} (rs : RS1 g W r f) (p : tE g W (unM ma f) σ H Q) : tUn r (tE g W ma) σ H Q := by
  obtain ⟨α, h, τ, R, s, p⟩ := p
  refine ⟨α, h, τ, R, s, PostE.imp (PostE.bind p) ?_⟩
  rintro v H1 ⟨α1, d, h1, E1, R1, D1, p1⟩
  exact rs α1 h1 H1 σ v d Q R1 D1 p1
theorem de_op {op : Operator} {r : R2} {f : D → D → AH → EO} (ho : OpR X (binaryOp op) r) (rs : RS2 g W r f) (ha : PE X a (tE g W ma)) (hb : PE X b (tE g W mb)) : PE X (.BinOp a op b pos) (tE g W (binM ma mb f)) :=
  PE.imp (pe_op ho ha hb) fun _ _ _ => tE_bin rs
theorem de_un {op : UnaryOp} {r : V → Hp → VK → Prop} {f : D → AH → EO} (ho : UnR X (unaryOp op) r) (rs : RS1 g W r f) (ha : PE X a (tE g W ma)) : PE X (.UnaryOp op a pos) (tE g W (unM ma f)) :=
  PE.imp (pe_un ho ha) fun _ _ _ => tE_un rs
theorem de_cmp {op : CmpOp} {r : R2} {f : D → D → AH → EO} (ho : OpR X (compareOp op) r) (rs : RS2 g W r f) (ha : PE X a (tE g W ma)) (hb : PE X b (tE g W mb)) (hm : behindInMarks op b = false) : PE X (.Compare a [op] [b] pos) (tE g W (binM ma mb f)) :=
  PE.imp (pe_cmpR ho ha hb hm) fun _ _ _ => tE_bin rs
theorem de_ix {r : R2} {f : D → D → AH → EO} (ho : IxR X r) (rs : RS2 g W r f) (ha : PE X a (tE g W ma)) (hb : PE X b (tE g W mb)) (hm : PlainIx b) : PE X (.Subscript a b pos) (tE g W (binM ma mb f)) :=
  PE.imp (pe_ix ho ha hb hm) fun _ _ _ => tE_bin rs

/-! ### ints -/
def iiM (C : Int → Int → Bool) (k : Int → Int → D) : D → D → AH → EO
  | .int i, .int j, h => if C i j = true then .ok (k i j) h else .bad
  | _, _, _ => .bad
theorem rs_rI {C : Int → Int → Prop} {Cb : Int → Int → Bool} {gv : Int → Int → V} {k : Int → Int → D} (hC : ∀ i j, Cb i j = true → C i j) (hd : ∀ i j α H, Den g α H (k i j) (gv i j)) : RS2 g W (rI C gv) (iiM Cb k) := by
  intro α h H σ x y dx dy Q R hx hy p
  cases hx <;> cases hy <;> try exact False.elim p
  rename_i i j
  simp only [iiM] at p
  by_cases hc : Cb i j = true
  · rw [if_pos hc] at p
    exact ⟨i, j, rfl, rfl, hC i j hc, p α H _ .refl R (hd i j α H)⟩
  · rw [if_neg hc] at p
    exact p.elim
theorem rs_rI0 {gv : Int → Int → V} {k : Int → Int → D} (hd : ∀ i j α H, Den g α H (k i j) (gv i j)) : RS2 g W (rI0 gv) (iiM (fun _ _ => true) k) := by
  intro α h H σ x y dx dy Q R hx hy p
  cases hx <;> cases hy <;> try exact False.elim p
  rename_i i j
  exact ⟨i, j, rfl, rfl, p α H _ .refl R (hd i j α H)⟩
theorem den_int {i j : Int} {α : List Addr} : Den g α H (.int i) (.int i) := .int i
theorem den_bl {i : Bool} {α : List Addr} : Den g α H (.bl i) (.bl i) := .bl i
abbrev ltM : D → D → AH → EO := iiM (fun _ _ => true) fun i j => .bl (decide (i < j))
abbrev leM : D → D → AH → EO := iiM (fun _ _ => true) fun i j => .bl (decide (i ≤ j))
abbrev gtM : D → D → AH → EO := iiM (fun _ _ => true) fun i j => .bl (decide (j < i))
abbrev geM : D → D → AH → EO := iiM (fun _ _ => true) fun i j => .bl (decide (j ≤ i))
abbrev subM : D → D → AH → EO := iiM (fun _ _ => true) fun i j => .int (i - j)
def CMb (i j : Int) : Bool := (decide (-(2 ^ 64) < i) && decide (i < 2 ^ 64)) || (decide (-(2 ^ 64) < j) && decide (j < 2 ^ 64))
def CDb (i j : Int) : Bool := decide (0 < j) && decide (j < 2 ^ 128)
def CPb (i j : Int) : Bool := decide (0 ≤ j) && decide (j ≤ 1000000) && decide (i.natAbs < 2 ^ 64)
abbrev fdivM : D → D → AH → EO := iiM CDb fun i j => .int (i / j)
abbrev modM : D → D → AH → EO := iiM (fun _ j => decide (0 < j)) fun i j => .int (i % j)
abbrev powM : D → D → AH → EO := iiM CPb fun i j => .int (i ^ j.toNat)
theorem rs_lt : RS2 g W (rI0 fun i j => .bl (decide (i < j))) ltM := rs_rI0 fun _ _ _ _ => .bl _
theorem rs_le : RS2 g W (rI0 fun i j => .bl (decide (i ≤ j))) leM := rs_rI0 fun _ _ _ _ => .bl _
theorem rs_gt : RS2 g W (rI0 fun i j => .bl (decide (j < i))) gtM := rs_rI0 fun _ _ _ _ => .bl _
theorem rs_ge : RS2 g W (rI0 fun i j => .bl (decide (j ≤ i))) geM := rs_rI0 fun _ _ _ _ => .bl _
theorem rs_sub : RS2 g W (rI0 fun i j => .int (i - j)) subM := rs_rI0 fun _ _ _ _ => .int _
theorem rs_mod : RS2 g W (rI (fun _ j => 0 < j) fun i j => .int (i % j)) modM := rs_rI (fun _ _ h => of_decide_eq_true h) fun _ _ _ _ => .int _
theorem cdiv_ok (i j : Int) (h : CDb i j = true) : CDivW i j := by
  unfold CDb at h
  rw [Bool.and_eq_true, decide_eq_true_eq, decide_eq_true_eq] at h
  exact wide_div h.1 (b := 128) (by omega) (by decide) (by decide)
theorem rs_fdiv : RS2 g W (rI CDivW fun i j => .int (i / j)) fdivM := rs_rI cdiv_ok fun _ _ _ _ => .int _
theorem cpow_ok (i j : Int) (h : CPb i j = true) : CPow i j := by
  unfold CPb at h
  rw [Bool.and_eq_true, Bool.and_eq_true, decide_eq_true_eq, decide_eq_true_eq, decide_eq_true_eq] at h
  exact ⟨h.1.1, h.1.2, h.2⟩
theorem rs_pow : RS2 g W (rI CPow fun i j => .int (i ^ j.toNat)) powM := rs_rI cpow_ok fun _ _ _ _ => .int _

/-! ### + -/
def addM : D → D → AH → EO
  | .int i, .int j, h => .ok (.int (i + j)) h
  | .int i, .bl k, h => .ok (.int (i + b2i k)) h
  | .str x, .str y, h => if x.length + y.length ≤ sizeLine then .ok (.str (x ++ y)) h else .bad
  | .tup xs, .tup ys, h => if xs.length + ys.length ≤ sizeLine then .ok (.tup (xs ++ ys)) h else .bad
  | .ref i, .ref j, h => match h[i]?, h[j]? with
    | some (.lst xs), some (.lst ys) => if xs.length + ys.length ≤ sizeLine then .ok (.ref h.length) (h ++ [.lst (xs ++ ys)]) else .bad
    | _, _ => .bad
  | _, _, _ => .bad
def rAddAny (K : PySem.W.Frag) : R2 := fun x y H Q =>
  (∃ i j, x = .int i ∧ y = .int j ∧ Q (.int (i + j)) H) ∨ (∃ i k, x = .int i ∧ y = .bl k ∧ Q (.int (i + b2i k)) H) ∨
  (∃ i j, x = .str i ∧ y = .str j ∧ i.length + j.length ≤ sizeLine ∧ Q (.str (i ++ j)) H) ∨ rCatA K x y H Q ∨ rCat x y H Q
theorem op_addAny : OpR X (binaryOp .Add) (rAddAny X.K) := OpR.or op_add (OpR.or op_add_ib (OpR.or op_add_str (OpR.or op_catA op_cat)))
theorem rs_add : RS2 g W (rAddAny g.K) addM := by
  intro α h H σ x y dx dy Q R hx hy p
  cases hx <;> cases hy <;> try exact False.elim p
  · rename_i i k
    exact .inr (.inl ⟨i, k, rfl, rfl, p α H _ .refl R (.int _)⟩)
  · rename_i i j
    exact .inl ⟨i, j, rfl, rfl, p α H _ .refl R (.int _)⟩
  · rename_i i j
    simp only [addM] at p
    split at p
    · rename_i hl
      exact .inr (.inr (.inl ⟨i, j, rfl, rfl, hl, p α H _ .refl R (.str _)⟩))
    · exact p.elim
  · rename_i a ds vs h1 h2 b es ws h3 h4
    simp only [addM] at p
    split at p
    · rename_i hl
      refine .inr (.inr (.inr (.inl ⟨a, b, vs, ws, rfl, rfl, h1, h3, by rw [← h2.length, ← h4.length]; exact hl, fun e => ?_, fun e1 e2 => ?_, fun e1 e2 q hq => ?_⟩)))
      · subst e
        cases h2
        exact p α H _ .refl R (.tup h3 h4)
      · subst e2
        cases h4
        exact p α H _ .refl R (by simpa using Den.tup h1 h2)
      · refine p α _ _ (Ext.new hq) (R.new hq) (.tup (SqT.of upd_same) ?_)
        exact (DenL.ext (Ext.new hq) _ _ h2).append (DenL.ext (Ext.new hq) _ _ h4)
    · exact p.elim
  · rename_i l1 a1 e1 l2 a2 e2
    simp only [addM] at p
    split at p
    · rename_i xs ys h1 h2
      split at p
      · rename_i hl
        obtain ⟨vs, q1, q2⟩ := R.ob _ _ _ h1 e1
        obtain ⟨ws, q3, q4⟩ := R.ob _ _ _ h2 e2
        refine .inr (.inr (.inr (.inr ⟨a1, a2, vs, ws, rfl, rfl, q1, q3, by rw [← q2.length, ← q4.length]; exact hl, fun z hz => ?_⟩)))
        have E := (Ext.new (u := .lst (vs ++ ws)) hz).trans (Ext.app (α := α) [z])
        have x : RepO g (α ++ [z]) (upd H z (.lst (vs ++ ws))) z (.lst (xs ++ ys)) := ⟨_, upd_same, (DenL.ext E _ _ q2).append (DenL.ext E _ _ q4)⟩
        obtain ⟨R', E'⟩ := R.push hz x
        exact p _ _ _ E' R' (.ref (by rw [← R.len]; simp))
      · exact p.elim
    · exact p.elim
end
end DD
end

section
set_option Elab.async false
set_option linter.all false
set_option maxRecDepth 100000
namespace DD
open PySem L2
open PyProof.Rows (b2i)

/-! ### data to compare -/
mutual
def toP : D → PyData
  | .non => .none
  | .bl b => .bool b
  | .int i => .int i
  | .str x => .str x
  | .tup xs => .tuple (toPs xs)
  | .ref _ => .none
  | .con _ => .none
  | .fls _ => .none
def toPs : List D → List PyData
  | [] => []
  | d :: ds => toP d :: toPs ds
end
mutual
/-- no list, no object within -/
def plD : D → Bool
  | .non => true
  | .bl _ => true
  | .int _ => true
  | .str _ => true
  | .tup xs => plDs xs
  | .ref _ => false
  | .con _ => false
  | .fls _ => false
def plDs : List D → Bool
  | [] => true
  | d :: ds => plD d && plDs ds
end
mutual
def depD : D → Nat
  | .tup xs => depDs xs + 1
  | .non => 0
  | .bl _ => 0
  | .int _ => 0
  | .str _ => 0
  | .ref _ => 0
  | .con _ => 0
  | .fls _ => 0
def depDs : List D → Nat
  | [] => 0
  | d :: ds => max (depD d) (depDs ds)
end
mutual
/-- x == y -/
def eqD : D → D → Bool
  | .non, .non => true
  | .bl a, .bl b => a == b
  | .bl a, .int j => (if a then 1 else 0) == j
  | .int i, .bl b => i == (if b then 1 else 0)
  | .int i, .int j => i == j
  | .str x, .str y => x == y
  | .tup xs, .tup ys => eqDs xs ys
  | _, _ => false
def eqDs : List D → List D → Bool
  | [], [] => true
  | x :: xs, y :: ys => eqD x y && eqDs xs ys
  | _, _ => false
end
mutual
theorem eqD_toP : ∀ (x y : D), plD x = true → plD y = true → PyData.eqv (toP x) (toP y) = eqD x y
  | .non, y, _, h => by cases y <;> simp_all [toP, eqD, PyData.eqv, plD]
  | .bl _, y, _, h => by cases y <;> simp_all [toP, eqD, PyData.eqv, plD]
  | .int _, y, _, h => by cases y <;> simp_all [toP, eqD, PyData.eqv, plD]
  | .str _, y, _, h => by cases y <;> simp_all [toP, eqD, PyData.eqv, plD]
  | .tup xs, y, h0, h => by
    cases y with
    | tup ys =>
      simp only [toP, eqD, PyData.eqv]
      exact eqDs_toP xs ys (by simpa [plD] using h0) (by simpa [plD] using h)
    | _ => simp_all [toP, eqD, PyData.eqv, plD]
  | .ref _, _, h, _ => by simp [plD] at h
  | .con _, _, h, _ => by simp [plD] at h
  | .fls _, _, h, _ => by simp [plD] at h
theorem eqDs_toP : ∀ (xs ys : List D), plDs xs = true → plDs ys = true → PyData.eqvAll (toPs xs) (toPs ys) = eqDs xs ys
  | [], [], _, _ => by simp [toPs, eqDs, PyData.eqvAll]
  | [], _ :: _, _, _ => by simp [toPs, eqDs, PyData.eqvAll]
  | _ :: _, [], _, _ => by simp [toPs, eqDs, PyData.eqvAll]
  | x :: xs, y :: ys, h1, h2 => by
    simp only [plDs, Bool.and_eq_true] at h1 h2
    simp only [toPs, eqDs, PyData.eqvAll]
    rw [eqD_toP x y h1.1 h2.1, eqDs_toP xs ys h1.2 h2.2]
end
mutual
theorem depD_toP : ∀ (x : D), (toP x).depth = depD x
  | .non => by simp [toP, depD, PyData.depth]
  | .bl _ => by simp [toP, depD, PyData.depth]
  | .int _ => by simp [toP, depD, PyData.depth]
  | .str _ => by simp [toP, depD, PyData.depth]
  | .ref _ => by simp [toP, depD, PyData.depth]
  | .con _ => by simp [toP, depD, PyData.depth]
  | .fls _ => by simp [toP, depD, PyData.depth]
  | .tup xs => by simp only [toP, depD, PyData.depth]; rw [depDs_toP xs]
theorem depDs_toP : ∀ (xs : List D), PyData.depthAll (toPs xs) = depDs xs
  | [] => by simp [toPs, depDs, PyData.depthAll]
  | x :: xs => by simp only [toPs, depDs, PyData.depthAll]; rw [depD_toP x, depDs_toP xs]
end
mutual
theorem plain_toP : ∀ (x : D), (toP x).plain = true
  | .non => by simp [toP, PyData.plain]
  | .bl _ => by simp [toP, PyData.plain]
  | .int _ => by simp [toP, PyData.plain]
  | .str _ => by simp [toP, PyData.plain]
  | .ref _ => by simp [toP, PyData.plain]
  | .con _ => by simp [toP, PyData.plain]
  | .fls _ => by simp [toP, PyData.plain]
  | .tup xs => by simp only [toP, PyData.plain]; exact plains_toP xs
theorem plains_toP : ∀ (xs : List D), PyData.plainAll (toPs xs) = true
  | [] => by simp [toPs, PyData.plainAll]
  | x :: xs => by simp only [toPs, PyData.plainAll]; rw [plain_toP x, plains_toP xs]; rfl
end
section
variable {g : G} {α : List Addr} {H : Hp}
mutual
theorem toP_den : ∀ (d : D) (v : V), Den g α H d v → plD d = true → Dp g.K H v (toP d)
  | .non, _, h, _ => by cases h; exact .non
  | .bl _, _, h, _ => by cases h; exact .bl _
  | .int _, _, h, _ => by cases h; exact .int _
  | .str _, _, h, _ => by cases h; exact .str _
  | .tup ds, _, h, q => by
    cases h with
    | tup hs hl => exact .tup hs (toPs_den ds _ hl (by simpa [plD] using q))
  | .ref _, _, _, q => by simp [plD] at q
  | .con _, _, _, q => by simp [plD] at q
  | .fls _, _, _, q => by simp [plD] at q
theorem toPs_den : ∀ (ds : List D) (vs : List V), DenL g α H ds vs → plDs ds = true → DpAll g.K H vs (toPs ds)
  | [], _, h, _ => by cases h; exact .nil
  | d :: ds, _, h, q => by
    cases h with
    | cons h1 h2 =>
      simp only [plDs, Bool.and_eq_true] at q
      exact .cons (toP_den d _ h1 q.1) (toPs_den ds _ h2 q.2)
end
end
/-- lists by their items, all else by itself -/
def eqB (h : AH) (x y : D) : Option Bool := match x, y with
  | .ref i, .ref j => match h[i]?, h[j]? with
    | some (.lst xs), some (.lst ys) => if (plDs xs && plDs ys && decide (min (depDs xs) (depDs ys) < 64)) = true then some (eqDs xs ys) else none
    | _, _ => none
  | a, b => if (plD a && plD b && decide (min (depD a) (depD b) ≤ 64)) = true then some (eqD a b) else none
def eqM (x y : D) (h : AH) : EO := match eqB h x y with
  | some b => .ok (.bl b) h
  | none => .bad
def neM (x y : D) (h : AH) : EO := match eqB h x y with
  | some b => .ok (.bl (!b)) h
  | none => .bad
def rEqAny (K : PySem.W.Frag) : R2 := fun x y H Q => ∃ d e, Dp K H x d ∧ Dp K H y e ∧ d.plain = true ∧ e.plain = true ∧ min d.depth e.depth ≤ 64 ∧ Q (.bl (PyData.eqv d e)) H
def rNeAny (K : PySem.W.Frag) : R2 := fun x y H Q => ∃ d e, Dp K H x d ∧ Dp K H y e ∧ d.plain = true ∧ e.plain = true ∧ min d.depth e.depth ≤ 64 ∧ Q (.bl (!PyData.eqv d e)) H
section
variable {X : Cx} {g : G} {W : WX} {a b c e : Expr} {ma mb mc : EM} {pos : Pos} {σ : St} {H : Hp} {Q : VK}
theorem op_eqAny (hu : X.A.units + 64 < cLine) : OpR X (compareOp .Eq) (rEqAny X.K) := by
  intro pins s σ H x y v u Q I rx ry h
  obtain ⟨d, e, hd, he, pd, pe, hz, q⟩ := h
  obtain ⟨as, r1⟩ := Dp.reads I d x v hd rx
  obtain ⟨bs, r2⟩ := Dp.reads I e y u he ry
  exact SeqAt.eq_plain r1 r2 pd pe (by omega) ⟨.bl _, H, I, rfl, q⟩
theorem op_neAny (hu : X.A.units + 64 < cLine) : OpR X (compareOp .NotEq) (rNeAny X.K) := by
  intro pins s σ H x y v u Q I rx ry h
  obtain ⟨d, e, hd, he, pd, pe, hz, q⟩ := h
  obtain ⟨as, r1⟩ := Dp.reads I d x v hd rx
  obtain ⟨bs, r2⟩ := Dp.reads I e y u he ry
  exact SeqAt.ne_plain r1 r2 pd pe (by omega) ⟨.bl _, H, I, rfl, q⟩
theorem eqB_den {α : List Addr} {h : AH} {x y : V} {dx dy : D} {k : Bool} (R : Rep g α h H) (hx : Den g α H dx x) (hy : Den g α H dy y) (q : eqB h dx dy = some k) : ∃ d e, Dp g.K H x d ∧ Dp g.K H y e ∧ d.plain = true ∧ e.plain = true ∧ min d.depth e.depth ≤ 64 ∧ PyData.eqv d e = k := by
  unfold eqB at q
  split at q
  · split at q
    · rename_i xs ys h1 h2
      split at q
      · rename_i hc
        simp only [Bool.and_eq_true, decide_eq_true_eq] at hc
        cases q
        cases hx with
        | ref ha =>
          cases hy with
          | ref hb =>
            obtain ⟨vs, a1, a2⟩ := R.ob _ _ _ h1 ha
            obtain ⟨ws, b1, b2⟩ := R.ob _ _ _ h2 hb
            refine ⟨.list (toPs xs), .list (toPs ys), .lst (SqL.of a1) (toPs_den xs _ a2 hc.1.1), .lst (SqL.of b1) (toPs_den ys _ b2 hc.1.2), by simp only [PyData.plain]; exact plains_toP xs, by simp only [PyData.plain]; exact plains_toP ys, ?_, ?_⟩
            · simp only [PyData.depth, depDs_toP]
              omega
            · simp only [PyData.eqv]
              exact eqDs_toP xs ys hc.1.1 hc.1.2
      · cases q
    · cases q
  · split at q
    · rename_i hc
      simp only [Bool.and_eq_true, decide_eq_true_eq] at hc
      cases q
      exact ⟨toP dx, toP dy, toP_den _ _ hx hc.1.1, toP_den _ _ hy hc.1.2, plain_toP _, plain_toP _, by rw [depD_toP, depD_toP]; exact hc.2, eqD_toP _ _ hc.1.1 hc.1.2⟩
    · cases q
theorem rs_eq : RS2 g W (rEqAny g.K) eqM := by
  intro α h H σ x y dx dy Q R hx hy p
  unfold eqM at p
  split at p
  · rename_i k hk
    obtain ⟨d, e, h1, h2, h3, h4, h5, h6⟩ := eqB_den R hx hy hk
    exact ⟨d, e, h1, h2, h3, h4, h5, by rw [h6]; exact p α H _ .refl R (.bl _)⟩
  · exact p.elim
theorem rs_ne : RS2 g W (rNeAny g.K) neM := by
  intro α h H σ x y dx dy Q R hx hy p
  unfold neM at p
  split at p
  · rename_i k hk
    obtain ⟨d, e, h1, h2, h3, h4, h5, h6⟩ := eqB_den R hx hy hk
    exact ⟨d, e, h1, h2, h3, h4, h5, by rw [h6]; exact p α H _ .refl R (.bl _)⟩
  · exact p.elim

/-! ### is -/
def isC : D → D → Option Bool
  | .non, .non => some true
  | .bl a, .bl b => some (decide (a = b))
  | _, .non => some false
  | .non, .bl _ => some false
  | .int _, .bl _ => some false
  | .str _, .bl _ => some false
  | .tup _, .bl _ => some false
  | .ref _, .bl _ => some false
  | _, _ => none
def isM (x y : D) (h : AH) : EO := match isC x y with
  | some b => .ok (.bl b) h
  | none => .bad
def isnotM (x y : D) (h : AH) : EO := match isC x y with
  | some b => .ok (.bl (!b)) h
  | none => .bad
theorem is_bool_gen {M : Model} {A : Around} {E : Value → Shared → Prop} {s : Shared} {c : Bool} {Q : Value → Shared → Prop} {v : Value} (hv : ∀ id, v ≠ .builtin id) (h : Q (.bool (v == .bool c)) s) : wpAny M A (compareOp .Is v (.bool c)) Q E s := by
  cases v <;> first | exact wpAny_pure h | exact absurd rfl (hv _)
theorem isnot_bool_gen {M : Model} {A : Around} {E : Value → Shared → Prop} {s : Shared} {c : Bool} {Q : Value → Shared → Prop} {v : Value} (hv : ∀ id, v ≠ .builtin id) (h : Q (.bool (!(v == .bool c))) s) : wpAny M A (compareOp .IsNot v (.bool c)) Q E s := by
  cases v <;> first | exact wpAny_pure h | exact absurd rfl (hv _)
def rIsB2 : R2 := fun x y H Q => ∃ b : Bool, y = .bl b ∧ Q (.bl (decide (x = .bl b))) H
def rIsnB2 : R2 := fun x y H Q => ∃ b : Bool, y = .bl b ∧ Q (.bl (!decide (x = .bl b))) H
theorem op_isB2 : OpR X (compareOp .Is) rIsB2 := by
  intro pins s σ H x y v u Q I rx ry h
  obtain ⟨b, rfl, q⟩ := h
  cases ry
  refine is_bool_gen (by intro id e; subst e; cases x <;> simp [RelV] at rx) (fin_bl I q ?_)
  cases x <;> first
    | (cases rx; rename_i k; cases k <;> cases b <;> rfl)
    | (cases rx; rfl)
    | (obtain ⟨t, rfl⟩ := rx; rfl)
theorem op_isnB2 : OpR X (compareOp .IsNot) rIsnB2 := by
  intro pins s σ H x y v u Q I rx ry h
  obtain ⟨b, rfl, q⟩ := h
  cases ry
  refine isnot_bool_gen (by intro id e; subst e; cases x <;> simp [RelV] at rx) (fin_bl I q ?_)
  cases x <;> first
    | (cases rx; rename_i k; cases k <;> cases b <;> rfl)
    | (cases rx; rfl)
    | (obtain ⟨t, rfl⟩ := rx; rfl)
def rIsAny : R2 := fun x y H Q => (y = .non ∧ Q (.bl (decide (x = .non))) H) ∨ rIsB2 x y H Q
def rIsnAny : R2 := fun x y H Q => (y = .non ∧ Q (.bl (!decide (x = .non))) H) ∨ rIsnB2 x y H Q
theorem op_isAny : OpR X (compareOp .Is) rIsAny := OpR.or op_isN op_isB2
theorem op_isnAny : OpR X (compareOp .IsNot) rIsnAny := OpR.or op_notN op_isnB2
theorem rs_is : RS2 g W rIsAny isM := by
  intro α h H σ x y dx dy Q R hx hy p
  cases hx <;> cases hy <;> simp only [isM, isC] at p <;> first
    | exact False.elim p
    | (refine .inl ⟨rfl, ?_⟩; have := p α H _ .refl R (.bl _); simpa using this)
    | (refine .inr ⟨_, rfl, ?_⟩; have := p α H _ .refl R (.bl _); simpa using this)
theorem rs_isn : RS2 g W rIsnAny isnotM := by
  intro α h H σ x y dx dy Q R hx hy p
  cases hx <;> cases hy <;> simp only [isnotM, isC] at p <;> first
    | exact False.elim p
    | (refine .inl ⟨rfl, ?_⟩; have := p α H _ .refl R (.bl _); simpa using this)
    | (refine .inr ⟨_, rfl, ?_⟩; have := p α H _ .refl R (.bl _); simpa using this)

/-! ### tests -/
/-- a test, by a mirror that gives a truth -/
abbrev tT (g : G) (W : WX) (m : EM) : TT := tB (tE g W m)
def andM (a b : EM) : EM := fun τ h => (a τ h).bind fun d h1 => match d with
  | .bl true => b τ h1
  | .bl false => .ok (.bl false) h1
  | _ => .bad
def orM (a b : EM) : EM := fun τ h => (a τ h).bind fun d h1 => match d with
  | .bl false => b τ h1
  | .bl true => .ok (.bl true) h1
  | _ => .bad
def notM (a : EM) : EM := fun τ h => (a τ h).bind fun d h1 => match d with
  | .bl b => .ok (.bl (!b)) h1
  | _ => .bad
def ifM (c a b : EM) : EM := fun τ h => (c τ h).bind fun d h1 => match d with
  | .bl true => a τ h1
  | .bl false => b τ h1
  | _ => .bad
/-- truth of a value -/
def truM (d : D) (h : AH) : EO := match d with
  | .non => .ok (.bl false) h
  | .bl b => .ok (.bl b) h
  | .int i => .ok (.bl (i != 0)) h
  | .tup xs => .ok (.bl (!xs.isEmpty)) h
  | .str y => if y.length ≤ sizeLine then .ok (.bl ((y.length : Int) != 0)) h else .bad
  | .ref l => match h[l]? with
    | some (.lst xs) => .ok (.bl (!xs.isEmpty)) h
    | some (.dct xs) => .ok (.bl (!xs.isEmpty)) h
    | _ => .bad
  | _ => .bad
theorem tE_start {f : D → AH → EO} (p : tE g W (fun τ h => (ma τ h).bind f) σ H Q) : tE g W ma σ H fun v H1 => ∃ α1 d h1 τ, Rep g α1 h1 H1 ∧ DenS g α1 H1 τ σ ∧ Den g α1 H1 d v ∧ PostE g W α1 H1 σ Q (f d h1) := by
  obtain ⟨α, h, τ, R, s, p⟩ := p
  refine ⟨α, h, τ, R, s, PostE.imp (PostE.bind p) ?_⟩
  rintro v H1 ⟨α1, d, h1, E1, R1, D1, p1⟩
  exact ⟨α1, d, h1, τ, R1, s.ext E1, D1, p1⟩
/-- .. where what follows leans on the slots too -/
theorem tE_startS {f : SL → D → AH → EO} (p : tE g W (fun τ h => (ma τ h).bind (f τ)) σ H Q) : tE g W ma σ H fun v H1 => ∃ α1 d h1 τ, Rep g α1 h1 H1 ∧ DenS g α1 H1 τ σ ∧ Den g α1 H1 d v ∧ PostE g W α1 H1 σ Q (f τ d h1) := by
  obtain ⟨α, h, τ, R, s, p⟩ := p
  refine ⟨α, h, τ, R, s, PostE.imp (PostE.bind p) ?_⟩
  rintro v H1 ⟨α1, d, h1, E1, R1, D1, p1⟩
  exact ⟨α1, d, h1, τ, R1, s.ext E1, D1, p1⟩
theorem tE_and (p : tE g W (andM ma mb) σ H Q) : tAndV (tE g W ma) (tE g W mb) σ H Q := by
  obtain ⟨α, h, τ, R, s, p⟩ := tE_startS (f := fun τ d h1 => match d with | .bl true => mb τ h1 | .bl false => .ok (.bl false) h1 | _ => .bad) p
  refine ⟨α, h, τ, R, s, PostE.imp p ?_⟩
  rintro v H1 ⟨α1, d, h1, τ1, R1, s1, D1, p1⟩
  cases D1 <;> try exact False.elim p1
  rename_i b
  refine ⟨b, rfl, ?_⟩
  cases b
  · exact iteF (p1 α1 H1 _ .refl R1 (.bl _))
  · exact iteT ⟨α1, h1, τ1, R1, s1, p1⟩
theorem tE_or (p : tE g W (orM ma mb) σ H Q) : tOrV (tE g W ma) (tE g W mb) σ H Q := by
  obtain ⟨α, h, τ, R, s, p⟩ := tE_startS (f := fun τ d h1 => match d with | .bl false => mb τ h1 | .bl true => .ok (.bl true) h1 | _ => .bad) p
  refine ⟨α, h, τ, R, s, PostE.imp p ?_⟩
  rintro v H1 ⟨α1, d, h1, τ1, R1, s1, D1, p1⟩
  cases D1 <;> try exact False.elim p1
  rename_i b
  refine ⟨b, rfl, ?_⟩
  cases b
  · exact iteF ⟨α1, h1, τ1, R1, s1, p1⟩
  · exact iteT (p1 α1 H1 _ .refl R1 (.bl _))
theorem tE_not (p : tE g W (notM ma) σ H Q) : tNotV (tE g W ma) σ H Q := by
  obtain ⟨α, h, τ, R, s, p⟩ := tE_start p
  refine ⟨α, h, τ, R, s, PostE.imp p ?_⟩
  rintro v H1 ⟨α1, d, h1, τ1, R1, s1, D1, p1⟩
  cases D1 <;> try exact False.elim p1
  rename_i b
  exact ⟨b, rfl, p1 α1 H1 _ .refl R1 (.bl _)⟩
theorem tT_if {Q : VK} (p : tE g W (ifM mc ma mb) σ H Q) : tIf (tT g W mc) (tE g W ma) (tE g W mb) σ H Q := by
  obtain ⟨α, h, τ, R, s, p⟩ := tE_startS (f := fun τ d h1 => match d with | .bl true => ma τ h1 | .bl false => mb τ h1 | _ => .bad) p
  refine ⟨α, h, τ, R, s, PostE.imp p ?_⟩
  rintro v H1 ⟨α1, d, h1, τ1, R1, s1, D1, p1⟩
  cases D1 <;> try exact False.elim p1
  rename_i b
  refine ⟨b, rfl, ?_⟩
  cases b
  · exact iteF ⟨α1, h1, τ1, R1, s1, p1⟩
  · exact iteT ⟨α1, h1, τ1, R1, s1, p1⟩
theorem de_and {rest : List Expr} (ha : PE X a (tE g W ma)) (hb : PE X (.BoolOp .And (b :: rest) pos) (tE g W mb)) : PE X (.BoolOp .And (a :: b :: rest) pos) (tE g W (andM ma mb)) := PE.imp (pe_and ha hb) fun _ _ _ => tE_and
theorem de_or {rest : List Expr} (ha : PE X a (tE g W ma)) (hb : PE X (.BoolOp .Or (b :: rest) pos) (tE g W mb)) : PE X (.BoolOp .Or (a :: b :: rest) pos) (tE g W (orM ma mb)) := PE.imp (pe_or ha hb) fun _ _ _ => tE_or
theorem de_not (ha : PE X a (tE g W ma)) : PE X (.UnaryOp .Not a pos) (tE g W (notM ma)) := PE.imp (pe_not ha) fun _ _ _ => tE_not
theorem de_if (hc : PT X c (tT g W mc)) (ha : PE X a (tE g W ma)) (hb : PE X b (tE g W mb)) : PE X (.IfExp c a b pos) (tE g W (ifM mc ma mb)) := PE.imp (pe_ifExp hc ha hb) fun _ _ _ => tT_if
theorem dt_val (ha : PE X a (tE g W ma)) (he : ∀ whole, isTrue a X.env whole = (do let v ← whole; standAt a.pos; holding [v] (truthy v)) := by intro _; rfl) : PT X a (tT g W ma) := pt_val ha he
/-- any value's truth -/
theorem dt_tru (ha : PE X a (tE g W ma)) (hK : g.K = X.K) (he : ∀ whole, isTrue a X.env whole = (do let v ← whole; standAt a.pos; holding [v] (truthy v)) := by intro _; rfl) : PT X a (tT g W (unM ma truM)) := by
  refine PT.imp (pt_truth ha he) fun σ H Q p => ?_
  obtain ⟨α, h, τ, R, s, p⟩ := tE_start (f := truM) p
  refine ⟨α, h, τ, R, s, PostE.imp p ?_⟩
  rintro v H1 ⟨α1, d, h1, τ1, R1, s1, D1, p1⟩
  have fin : ∀ {k : Bool}, PostE g W α1 H1 σ (fun x H' => ∃ c, x = V.bl c ∧ Q c H') (.ok (.bl k) h1) → Q k H1 := fun {k} p => by
    obtain ⟨c, e, q⟩ := p α1 H1 (.bl k) .refl R1 (.bl k)
    cases e
    exact q
  rw [← hK]
  cases D1 with
  | non => exact ⟨_, rfl, fin p1⟩
  | bl b => exact ⟨_, rfl, fin p1⟩
  | int i => exact ⟨_, rfl, fin p1⟩
  | str x =>
    simp only [truM] at p1
    split at p1
    · rename_i hl
      exact ⟨_, ⟨hl, rfl⟩, fin p1⟩
    · exact p1.elim
  | tup hs hl =>
    rename_i ds vs
    have e : (!ds.isEmpty) = !vs.isEmpty := by cases hl <;> rfl
    exact ⟨_, .inr (.inl ⟨_, hs, rfl⟩), by rw [← e]; exact fin p1⟩
  | ref hl =>
    simp only [truM] at p1
    split at p1
    · rename_i xs hx
      obtain ⟨vs, a1, a2⟩ := R1.ob _ _ _ hx hl
      have e : (!xs.isEmpty) = !vs.isEmpty := by cases a2 <;> rfl
      exact ⟨_, .inl ⟨_, SqL.of a1, rfl⟩, by rw [← e]; exact fin p1⟩
    · rename_i xs hx
      obtain ⟨ws, a1, a2, a3⟩ := R1.ob _ _ _ hx hl
      have e : (!xs.isEmpty) = !ws.isEmpty := by cases xs <;> cases ws <;> simp at a2 <;> rfl
      exact ⟨_, .inr (.inr ⟨_, a1, rfl⟩), by rw [← e]; exact fin p1⟩
    · exact p1.elim
  | con => exact p1.elim
  | fls _ _ => exact p1.elim
theorem tT_and {tA tB' : EM} {Q : Bool → Hp → Prop} (p : tT g W (andM tA tB') σ H Q) : tAnd (tT g W tA) (tT g W tB') σ H Q := by
  obtain ⟨α, h, τ, R, s, p⟩ := tE_startS (f := fun τ d h1 => match d with | .bl true => tB' τ h1 | .bl false => .ok (.bl false) h1 | _ => .bad) p
  refine ⟨α, h, τ, R, s, PostE.imp p ?_⟩
  rintro v H1 ⟨α1, d, h1, τ1, R1, s1, D1, p1⟩
  cases D1 <;> try exact False.elim p1
  rename_i b
  refine ⟨b, rfl, ?_⟩
  cases b
  · refine iteF ?_
    obtain ⟨c, e, q⟩ := p1 α1 H1 _ .refl R1 (.bl _)
    cases e
    exact q
  · exact iteT ⟨α1, h1, τ1, R1, s1, p1⟩
theorem tT_or {tA tB' : EM} {Q : Bool → Hp → Prop} (p : tT g W (orM tA tB') σ H Q) : tOr (tT g W tA) (tT g W tB') σ H Q := by
  obtain ⟨α, h, τ, R, s, p⟩ := tE_startS (f := fun τ d h1 => match d with | .bl false => tB' τ h1 | .bl true => .ok (.bl true) h1 | _ => .bad) p
  refine ⟨α, h, τ, R, s, PostE.imp p ?_⟩
  rintro v H1 ⟨α1, d, h1, τ1, R1, s1, D1, p1⟩
  cases D1 <;> try exact False.elim p1
  rename_i b
  refine ⟨b, rfl, ?_⟩
  cases b
  · exact iteF ⟨α1, h1, τ1, R1, s1, p1⟩
  · refine iteT ?_
    obtain ⟨c, e, q⟩ := p1 α1 H1 _ .refl R1 (.bl _)
    cases e
    exact q
theorem dw_and {rest : List Expr} (ha : PT X a (tT g W ma)) (hb : PW X (.BoolOp .And (b :: rest) pos) (tT g W mb)) : PW X (.BoolOp .And (a :: b :: rest) pos) (tT g W (andM ma mb)) :=
  ⟨fun wh pins s σ H Q I h => (pw_and ha hb).run wh pins s σ H Q I (tT_and h)⟩
theorem dw_or {rest : List Expr} (ha : PT X a (tT g W ma)) (hb : PW X (.BoolOp .Or (b :: rest) pos) (tT g W mb)) : PW X (.BoolOp .Or (a :: b :: rest) pos) (tT g W (orM ma mb)) :=
  ⟨fun wh pins s σ H Q I h => (pw_or ha hb).run wh pins s σ H Q I (tT_or h)⟩
theorem dt_not (ha : PT X a (tT g W ma)) : PT X (.UnaryOp .Not a pos) (tT g W (notM ma)) := by
  refine PT.imp (pt_not ha) fun σ H Q p => ?_
  obtain ⟨α, h, τ, R, s, p⟩ := tE_start p
  refine ⟨α, h, τ, R, s, PostE.imp p ?_⟩
  rintro v H1 ⟨α1, d, h1, τ1, R1, s1, D1, p1⟩
  cases D1 <;> try exact False.elim p1
  rename_i b
  obtain ⟨c, e, q⟩ := p1 α1 H1 _ .refl R1 (.bl _)
  cases e
  exact ⟨b, rfl, q⟩
/-- a test that is a comparison -/
theorem dt_cmp {op : CmpOp} {r : R2} {f : D → D → AH → EO} (ho : OpR X (compareOp op) r) (rs : RS2 g W r f) (ha : PE X a (tE g W ma)) (hb : PE X b (tE g W mb)) (hm : behindInMarks op b = false) : PT X (.Compare a [op] [b] pos) (tT g W (binM ma mb f)) :=
  PT.imp (pt_cmpR ho ha hb hm) fun _ _ _ p => tE_bin rs p
/-- a < b < c -/
def chainM (a b c : EM) (f f' : D → D → AH → EO) : EM := fun τ h => (a τ h).bind fun x h1 => (b τ h1).bind fun y h2 => (f x y h2).bind fun d h3 => match d with
  | .bl true => (c τ h3).bind fun z h4 => f' y z h4
  | .bl false => .ok (.bl false) h3
  | _ => .bad
theorem tE_chain {r r' : R2} {f f' : D → D → AH → EO} (rs : RS2 g W r f) (rs' : RS2 g W r' f') (p : tE g W (chainM ma mb mc f f') σ H Q) : tChain r r' (tE g W ma) (tE g W mb) (tE g W mc) σ H Q := by
  obtain ⟨α, h, τ, R, s, p⟩ := p
  refine ⟨α, h, τ, R, s, PostE.imp (PostE.bind p) ?_⟩
  rintro v H1 ⟨α1, d, h1, E1, R1, D1, p1⟩
  refine ⟨α1, h1, τ, R1, s.ext E1, PostE.imp (PostE.bind p1) ?_⟩
  rintro w H2 ⟨α2, d2, h2, E2, R2, D2, p2⟩
  refine rs α2 h2 H2 σ v w d d2 _ R2 (Den.ext E2 _ _ D1) D2 (PostE.imp (PostE.bind p2) ?_)
  rintro z H3 ⟨α3, d3, h3, E3, R3, D3, p3⟩
  cases D3 <;> try exact False.elim p3
  rename_i b
  refine ⟨b, rfl, ?_⟩
  cases b
  · exact iteF (p3 α3 H3 _ .refl R3 (.bl _))
  · refine iteT ⟨α3, h3, τ, R3, ((s.ext E1).ext E2).ext E3, PostE.imp (PostE.bind p3) ?_⟩
    rintro y H4 ⟨α4, d4, h4, E4, R4, D4, p4⟩
    exact rs' α4 h4 H4 σ w y d2 d4 Q R4 (Den.ext E4 _ _ (Den.ext E3 _ _ D2)) D4 p4
theorem de_chain {op op' : CmpOp} {r r' : R2} {f f' : D → D → AH → EO} (ho : OpR X (compareOp op) r) (ho' : OpR X (compareOp op') r') (rs : RS2 g W r f) (rs' : RS2 g W r' f') (ha : PE X a (tE g W ma)) (hb : PE X b (tE g W mb)) (hc : PE X c (tE g W mc))
    (hm : lastMarks [op, op'] [b, c] = false := by with_unfolding_all rfl) : PE X (.Compare a [op, op'] [b, c] pos) (tE g W (chainM ma mb mc f f')) :=
  PE.imp (pe_chain ho ho' ha hb hc hm) fun _ _ _ => tE_chain rs rs'
theorem dt_chain {op op' : CmpOp} {r r' : R2} {f f' : D → D → AH → EO} (ho : OpR X (compareOp op) r) (ho' : OpR X (compareOp op') r') (rs : RS2 g W r f) (rs' : RS2 g W r' f') (ha : PE X a (tE g W ma)) (hb : PE X b (tE g W mb)) (hc : PE X c (tE g W mc))
    (hm : lastMarks [op, op'] [b, c] = false := by with_unfolding_all rfl) : PT X (.Compare a [op, op'] [b, c] pos) (tT g W (chainM ma mb mc f f')) :=
  PT.imp (pt_chain ho ho' ha hb hc hm) fun _ _ _ p => tE_chain rs rs' p
end
end DD
end

section
set_option Elab.async false
set_option linter.all false
set_option maxRecDepth 100000
namespace DD
open PySem L2
open PyProof.Rows (b2i)

/-! ### items, slices -/
def itM : D → D → AH → EO
  | .tup xs, .int i, h => match atI xs i with
    | some d => .ok d h
    | none => .bad
  | .str z, .int i, h => if z.length ≤ sizeLine then match atI z.cps.toList i with
    | some c => .ok (.str ⟨#[c]⟩) h
    | none => .bad else .bad
  | .ref l, .int i, h => match h[l]? with
    | some (.lst xs) => match atI xs i with
      | some d => .ok d h
      | none => .bad
    | _ => .bad
  | _, _, _ => .bad
def cutL {β : Type} (xs : List β) (lo hi : Option Int) : List β := (xs.drop (HT.sIx xs.length 0 lo)).take (HT.sIx xs.length xs.length hi - HT.sIx xs.length 0 lo)
def sliceM : D → Option Int → Option Int → AH → EO
  | .tup xs, lo, hi, h => .ok (.tup (cutL xs lo hi)) h
  | .fls xs, lo, hi, h => .ok (.ref h.length) (h ++ [.lst (cutL xs lo hi)])
  | .ref l, lo, hi, h => match h[l]? with
    | some (.lst xs) => .ok (.ref h.length) (h ++ [.lst (cutL xs lo hi)])
    | _ => .bad
  | _, _, _, _ => .bad
section
variable {X : Cx} {g : G} {W : WX} {a b c e : Expr} {ma mb mc : EM} {pos : Pos} {σ : St} {H : Hp} {Q : VK}
theorem DenL.atI {α : List Addr} {ds : List D} {vs : List V} {i : Int} {d : D} (h : DenL g α H ds vs) (q : atI ds i = some d) : ∃ v, L2.atI vs i = some v ∧ Den g α H d v := by
  unfold L2.atI at q ⊢
  rw [h.length] at q
  cases e : ixN vs.length i with
  | none => rw [e] at q; cases q
  | some j =>
    rw [e] at q
    obtain ⟨v, h1, h2⟩ := h.get (show ds[j]? = some d from q)
    exact ⟨v, h1, h2⟩
theorem rs_it : RS2 g W (rIx g.K) itM := by
  intro α h H σ x y dx dy Q R hx hy p
  cases hx <;> cases hy <;> try exact False.elim p
  · rename_i z i
    simp only [itM] at p
    split at p
    · rename_i hz
      split at p
      · rename_i c hc
        exact .inr (.inr ⟨z, i, c, rfl, rfl, hz, hc, p α H _ .refl R (.str _)⟩)
      · exact p.elim
    · exact p.elim
  · rename_i a ds vs hs hl i
    simp only [itM] at p
    split at p
    · rename_i d hd
      obtain ⟨v, h1, h2⟩ := hl.atI hd
      exact .inr (.inl ⟨a, vs, i, v, rfl, rfl, hs, h1, p α H _ .refl R h2⟩)
    · exact p.elim
  · rename_i l a hl i
    simp only [itM] at p
    split at p
    · rename_i xs hx
      split at p
      · rename_i d hd
        obtain ⟨vs, a1, a2⟩ := R.ob _ _ _ hx hl
        obtain ⟨v, h1, h2⟩ := a2.atI hd
        exact .inl ⟨a, vs, i, v, rfl, rfl, SqL.of a1, h1, p α H _ .refl R h2⟩
      · exact p.elim
    · exact p.elim
theorem DenL.cut {α : List Addr} {ds : List D} {vs : List V} {lo hi : Option Int} (h : DenL g α H ds vs) : DenL g α H (cutL ds lo hi) (cutV vs lo hi) := by
  unfold cutL cutV
  rw [h.length]
  exact (h.drop _).take _
def rSlAny (K : PySem.W.Frag) : V → Option Int → Option Int → Hp → VK → Prop := fun x lo hi H Q => rSlA K x lo hi H Q ∨ rSlL K x lo hi H Q
theorem sl_any : SlR X (rSlAny X.K) := SlR.or sl_tupA sl_list
theorem whole_cut {xs : List V} {lo hi : Option Int} (h : HT.sIx xs.length 0 lo = 0 ∧ HT.sIx xs.length xs.length hi = xs.length) : cutV xs lo hi = xs := by
  unfold cutV
  rw [h.1, h.2, List.drop_zero, Nat.sub_zero, List.take_length]
/-- the bounds of a slice -/
inductive OM where
  | none | some (m : EM)
def OM.run : OM → SL → AH → (Option Int → AH → EO) → EO
  | .none, _, h, f => f Option.none h
  | .some m, τ, h, f => (m τ h).bind fun d h1 => match d with
    | .int i => f (Option.some i) h1
    | _ => .bad
def slM (a : EM) (lo hi : OM) : EM := fun τ h => (a τ h).bind fun x h1 => lo.run τ h1 fun l h2 => hi.run τ h2 fun u h3 => sliceM x l u h3
def tO (g : G) (W : WX) : OM → TO
  | .none => tNoPart
  | .some m => tPart (tE g W m)
theorem tO_run {o : OM} {f : Option Int → AH → EO} {α : List Addr} {h : AH} {τ : SL} (R : Rep g α h H) (s : DenS g α H τ σ) (p : PostE g W α H σ Q (o.run τ h f)) :
    tO g W o σ H fun i H1 => ∃ α1 h1, Ext α H α1 H1 ∧ Rep g α1 h1 H1 ∧ PostE g W α1 H1 σ Q (f i h1) := by
  cases o with
  | none => exact ⟨α, h, .refl, R, p⟩
  | some m =>
    refine ⟨α, h, τ, R, s, PostE.imp (PostE.bind p) ?_⟩
    rintro v H1 ⟨α1, d, h1, E1, R1, D1, p1⟩
    cases D1 <;> try exact False.elim p1
    exact ⟨_, rfl, α1, h1, E1, R1, p1⟩
theorem TO.imp_of {g : G} {W : WX} {o : OM} {Q Q' : Option Int → Hp → Prop} (p : tO g W o σ H Q) (k : ∀ i H1, Q i H1 → Q' i H1) : tO g W o σ H Q' := by
  cases o with
  | none => exact k _ _ p
  | some m =>
    obtain ⟨α, h, τ, R, s, p⟩ := p
    exact ⟨α, h, τ, R, s, PostE.imp p fun v H1 ⟨i, e, q⟩ => ⟨i, e, k _ _ q⟩⟩
theorem de_slice {lo hi : Option Expr} {ol oh : OM} {p2 : Pos} (hK : g.K = X.K) (ha : PE X a (tE g W ma)) (hl : PO X lo (tO g W ol)) (hh : PO X hi (tO g W oh)) : PE X (.Subscript a (.Slice lo hi none p2) pos) (tE g W (slM ma ol oh)) := by
  refine PE.imp (pe_slice sl_any ha hl hh) fun σ H Q p => ?_
  obtain ⟨α, h, τ, R, s, p⟩ := p
  refine ⟨α, h, τ, R, s, PostE.imp (PostE.bind p) ?_⟩
  rintro v H1 ⟨α1, d, h1, E1, R1, D1, p1⟩
  refine TO.imp_of (tO_run R1 (s.ext E1) p1) ?_
  rintro l H2 ⟨α2, h2, E2, R2, p2⟩
  refine TO.imp_of (tO_run R2 ((s.ext E1).ext E2) p2) ?_
  rintro u H3 ⟨α3, h3, E3, R3, p3⟩
  have D3 := Den.ext E3 _ _ (Den.ext E2 _ _ D1)
  rw [← hK]
  cases D3 <;> try exact False.elim p3
  · rename_i a ds vs hs hl
    refine .inl ⟨a, vs, rfl, hs, fun w => ?_, fun w z hz => ?_⟩
    · refine p3 α3 H3 _ .refl R3 (.tup hs ?_)
      have := hl.cut (lo := l) (hi := u)
      rw [whole_cut w] at this
      exact this
    · exact p3 α3 _ _ (Ext.new hz) (R3.new hz) (.tup (SqT.of upd_same) (DenL.ext (Ext.new hz) _ _ hl.cut))
  · rename_i i a hl
    simp only [sliceM] at p3
    split at p3
    · rename_i xs hx
      obtain ⟨vs, a1, a2⟩ := R3.ob _ _ _ hx hl
      refine .inr ⟨a, vs, rfl, SqL.of a1, fun z hz => ?_⟩
      have E := (Ext.new (u := .lst (cutV vs l u)) hz).trans (Ext.app (α := α3) [z])
      obtain ⟨R', E'⟩ := R3.push hz (o := .lst (cutL xs l u)) (u := .lst (cutV vs l u)) ⟨_, upd_same, DenL.ext E _ _ a2.cut⟩
      exact p3 _ _ _ E' R' (.ref (by rw [← R3.len]; simp))
    · exact p3.elim
  · rename_i a ds vs hs hl
    refine .inr ⟨a, vs, rfl, hs.seq, fun z hz => ?_⟩
    have E := (Ext.new (u := .lst (cutV vs l u)) hz).trans (Ext.app (α := α3) [z])
    obtain ⟨R', E'⟩ := R3.push hz (o := .lst (cutL ds l u)) (u := .lst (cutV vs l u)) ⟨_, upd_same, DenL.ext E _ _ hl.cut⟩
    exact p3 _ _ _ E' R' (.ref (by rw [← R3.len]; simp))
theorem do_none : PO X none (tO g W .none) := po_none
theorem do_some (ha : PE X a (tE g W ma)) : PO X (some a) (tO g W (.some ma)) := po_some ha

/-! ### argument lists -/
inductive LO where
  | ok (ds : List D) (h : AH) | exc (c : Nat) (h : AH) | bad
abbrev LM := SL → AH → LO
def PostL (g : G) (W : WX) (α : List Addr) (H : Hp) (σ : St) (Q : List V → Hp → Prop) : LO → Prop
  | .ok ds h' => ∀ α' H' vs, Ext α H α' H' → Rep g α' h' H' → DenL g α' H' ds vs → Q vs H'
  | .exc c h' => ∀ α' H', Ext α H α' H' → Rep g α' h' H' → W (.ref (g.cl c)) none σ H'
  | .bad => False
def tL (g : G) (W : WX) (m : LM) : TA := fun σ H Q => ∃ α h τ, Rep g α h H ∧ DenS g α H τ σ ∧ PostL g W α H σ Q (m τ h)
def EO.bindL : EO → (D → AH → LO) → LO
  | .ok d h, f => f d h
  | .exc c h, _ => .exc c h
  | .bad, _ => .bad
def LO.bind : LO → (List D → AH → LO) → LO
  | .ok d h, f => f d h
  | .exc c h, _ => .exc c h
  | .bad, _ => .bad
def LO.bindE : LO → (List D → AH → EO) → EO
  | .ok d h, f => f d h
  | .exc c h, _ => .exc c h
  | .bad, _ => .bad
theorem PostL.mono {α α' : List Addr} {H' : Hp} {o : LO} {Q : List V → Hp → Prop} (p : PostL g W α H σ Q o) (e : Ext α H α' H') : PostL g W α' H' σ Q o := by
  cases o with
  | ok d h => exact fun α2 H2 v e2 r d => p α2 H2 v (e.trans e2) r d
  | exc c h => exact fun α2 H2 e2 r => p α2 H2 (e.trans e2) r
  | bad => exact p
theorem PostL.imp {α : List Addr} {o : LO} {Q Q' : List V → Hp → Prop} (p : PostL g W α H σ Q o) (k : ∀ v H', Q v H' → Q' v H') : PostL g W α H σ Q' o := by
  cases o with
  | ok d h => exact fun α2 H2 v e2 r d => k _ _ (p α2 H2 v e2 r d)
  | exc c h => exact p
  | bad => exact p
theorem PostE.bindL {α : List Addr} {o : EO} {f : D → AH → LO} {Q : List V → Hp → Prop} (p : PostL g W α H σ Q (o.bindL f)) :
    PostE g W α H σ (fun v H1 => ∃ α1 d h1, Ext α H α1 H1 ∧ Rep g α1 h1 H1 ∧ Den g α1 H1 d v ∧ PostL g W α1 H1 σ Q (f d h1)) o := by
  cases o with
  | ok d h => exact fun α2 H2 v e2 r dd => ⟨α2, d, h, e2, r, dd, PostL.mono p e2⟩
  | exc c h => exact p
  | bad => exact p
theorem PostL.bind {α : List Addr} {o : LO} {f : List D → AH → LO} {Q : List V → Hp → Prop} (p : PostL g W α H σ Q (o.bind f)) :
    PostL g W α H σ (fun vs H1 => ∃ α1 ds h1, Ext α H α1 H1 ∧ Rep g α1 h1 H1 ∧ DenL g α1 H1 ds vs ∧ PostL g W α1 H1 σ Q (f ds h1)) o := by
  cases o with
  | ok d h => exact fun α2 H2 v e2 r dd => ⟨α2, d, h, e2, r, dd, PostL.mono p e2⟩
  | exc c h => exact p
  | bad => exact p
theorem PostL.bindE {α : List Addr} {o : LO} {f : List D → AH → EO} {Q : VK} (p : PostE g W α H σ Q (o.bindE f)) :
    PostL g W α H σ (fun vs H1 => ∃ α1 ds h1, Ext α H α1 H1 ∧ Rep g α1 h1 H1 ∧ DenL g α1 H1 ds vs ∧ PostE g W α1 H1 σ Q (f ds h1)) o := by
  cases o with
  | ok d h => exact fun α2 H2 v e2 r dd => ⟨α2, d, h, e2, r, dd, PostE.mono p e2⟩
  | exc c h => exact p
  | bad => exact p
def nilM : LM := fun _ h => .ok [] h
def consM (a : EM) (r : LM) : LM := fun τ h => (a τ h).bindL fun d h1 => (r τ h1).bind fun ds h2 => .ok (d :: ds) h2
theorem PA.imp {es : List Expr} {t t' : TA} (h : PA X es t) (k : ∀ σ H Q, t' σ H Q → t σ H Q) : PA X es t' :=
  ⟨fun pos pins s σ H Q I q => h.run pos pins s σ H Q I (k σ H Q q)⟩
theorem dl_nil : PA X [] (tL g W nilM) := PA.imp pa_nil fun σ H Q ⟨α, h, τ, R, s, p⟩ => p α H _ .refl R .nil
theorem dl_cons {es : List Expr} {mr : LM} (ha : PE X a (tE g W ma)) (hr : PA X es (tL g W mr)) (hs : starEach (a :: es) X.env = (false, eval a X.env) :: starEach es X.env := by rfl) : PA X (a :: es) (tL g W (consM ma mr)) := by
  refine PA.imp (pa_cons ha hr hs) fun σ H Q p => ?_
  obtain ⟨α, h, τ, R, s, p⟩ := p
  refine ⟨α, h, τ, R, s, PostE.imp (PostE.bindL p) ?_⟩
  rintro v H1 ⟨α1, d, h1, E1, R1, D1, p1⟩
  refine ⟨α1, h1, τ, R1, s.ext E1, PostL.imp (PostL.bind p1) ?_⟩
  rintro vs H2 ⟨α2, ds, h2, E2, R2, D2, p2⟩
  exact p2 α2 H2 _ .refl R2 (.cons (Den.ext E2 _ _ D1) D2)
def tupM (m : LM) : EM := fun τ h => (m τ h).bindE fun ds h1 => if ds.length ≤ sizeLine then .ok (.tup ds) h1 else .bad
def lstM (m : LM) : EM := fun τ h => (m τ h).bindE fun ds h1 => if ds.length ≤ sizeLine then .ok (.ref h1.length) (h1 ++ [.lst ds]) else .bad
theorem new_list {α : List Addr} {h : AH} {ds : List D} {vs : List V} {z : Addr} (R : Rep g α h H) (d : DenL g α H ds vs) (hz : H z = none) :
    Rep g (α ++ [z]) (h ++ [.lst ds]) (upd H z (.lst vs)) ∧ Ext α H (α ++ [z]) (upd H z (.lst vs)) ∧ Den g (α ++ [z]) (upd H z (.lst vs)) (.ref h.length) (.ref z) := by
  have E := (Ext.new (u := .lst vs) hz).trans (Ext.app (α := α) [z])
  obtain ⟨R', E'⟩ := R.push hz (o := .lst ds) (u := .lst vs) ⟨_, upd_same, DenL.ext E _ _ d⟩
  exact ⟨R', E', .ref (by rw [← R.len]; simp)⟩
theorem new_tup {α : List Addr} {h : AH} {ds : List D} {vs : List V} {z : Addr} (R : Rep g α h H) (d : DenL g α H ds vs) (hz : H z = none) :
    Rep g α h (upd H z (.tup vs)) ∧ Ext α H α (upd H z (.tup vs)) ∧ Den g α (upd H z (.tup vs)) (.tup ds) (.ref z) :=
  ⟨R.new hz, Ext.new hz, .tup (SqT.of upd_same) (DenL.ext (Ext.new hz) _ _ d)⟩
theorem de_tup {es : List Expr} {m : LM} {x1} (hl : PA X es (tL g W m)) : PE X (.Tuple es x1 pos) (tE g W (tupM m)) := by
  refine PE.imp (pe_tup hl) fun σ H Q p => ?_
  obtain ⟨α, h, τ, R, s, p⟩ := p
  refine ⟨α, h, τ, R, s, PostL.imp (PostL.bindE p) ?_⟩
  rintro vs H1 ⟨α1, ds, h1, E1, R1, D1, p1⟩
  split at p1
  · rename_i hl
    refine ⟨by rw [← D1.length]; exact hl, fun z hz => ?_⟩
    obtain ⟨a1, a2, a3⟩ := new_tup R1 D1 hz
    exact p1 _ _ _ a2 a1 a3
  · exact p1.elim
theorem de_lst {es : List Expr} {m : LM} (hl : PA X es (tL g W m)) : PE X (.List es pos) (tE g W (lstM m)) := by
  refine PE.imp (pe_lst hl) fun σ H Q p => ?_
  obtain ⟨α, h, τ, R, s, p⟩ := p
  refine ⟨α, h, τ, R, s, PostL.imp (PostL.bindE p) ?_⟩
  rintro vs H1 ⟨α1, ds, h1, E1, R1, D1, p1⟩
  split at p1
  · rename_i hl
    refine ⟨by rw [← D1.length]; exact hl, fun z hz => ?_⟩
    obtain ⟨a1, a2, a3⟩ := new_list R1 D1 hz
    exact p1 _ _ _ a2 a1 a3
  · exact p1.elim

/-! ### built-in functions -/
def RSn (g : G) (W : WX) (r : List V → Hp → VK → Prop) (f : List D → AH → EO) : Prop :=
  ∀ (α : List Addr) (h : AH) (H : Hp) (σ : St) (vs : List V) (ds : List D) (Q : VK), Rep g α h H → DenL g α H ds vs → PostE g W α H σ Q (f ds h) → r vs H Q
def callM (m : LM) (f : List D → AH → EO) : EM := fun τ h => (m τ h).bindE f
theorem tL_call {r : List V → Hp → VK → Prop} {f : List D → AH → EO} {m : LM} (rs : RSn g W r f) (p : tE g W (callM m f) σ H Q) : tCB r (tL g W m) σ H Q := by
  obtain ⟨α, h, τ, R, s, p⟩ := p
  refine ⟨α, h, τ, R, s, PostL.imp (PostL.bindE p) ?_⟩
  rintro vs H1 ⟨α1, ds, h1, E1, R1, D1, p1⟩
  exact rs α1 h1 H1 σ vs ds Q R1 D1 p1
theorem de_callB {r : List V → Hp → VK → Prop} {f : List D → AH → EO} {m : LM} {id : String} {x : Str} {p : Pos} {es : List Expr} (hc : CallR X (.builtin id) r) (rs : RSn g W r f) (hg : Gl X x) (hm : X.mg x = none) (hv : bootBuiltins x = some (.builtin id)) (ha : PA X (e :: es) (tL g W m)) (hn : x ≠ "__name__" := by decide) (hdb : (x == ("__debug__" : Str)) = false := by decide)
    (he : starEach (e :: es) X.env = (false, eval e X.env) :: starEach es X.env := by rfl) (hpl : (backTo pos (starEach es X.env)).any (·.1) = false := by rfl) : PE X (.Call (.Name x p) (e :: es) [] pos) (tE g W (callM m f)) :=
  PE.imp (pe_callB hc hg hm hv ha hn hdb he hpl) fun _ _ _ => tL_call rs
theorem de_callTy {r : List V → Hp → VK → Prop} {f : List D → AH → EO} {m : LM} {T : String} {x : Str} {p : Pos} {es : List Expr} (hc : CallR X (.type T) r) (rs : RSn g W r f) (hg : Gl X x) (hm : X.mg x = none) (hv : bootBuiltins x = some (.type T)) (ha : PA X (e :: es) (tL g W m)) (hn : x ≠ "__name__" := by decide) (hdb : (x == ("__debug__" : Str)) = false := by decide)
    (he : starEach (e :: es) X.env = (false, eval e X.env) :: starEach es X.env := by rfl) (hpl : (backTo pos (starEach es X.env)).any (·.1) = false := by rfl) : PE X (.Call (.Name x p) (e :: es) [] pos) (tE g W (callM m f)) :=
  PE.imp (pe_callTy hc hg hm hv ha hn hdb he hpl) fun _ _ _ => tL_call rs
/-- len -/
def lenF : List D → AH → EO
  | [.str z], h => if z.length ≤ sizeLine then .ok (.int z.length) h else .bad
  | [.tup xs], h => .ok (.int xs.length) h
  | [.ref l], h => match h[l]? with
    | some (.lst xs) => .ok (.int xs.length) h
    | some (.dct xs) => .ok (.int xs.length) h
    | _ => .bad
  | _, _ => .bad
def rLenAny (K : PySem.W.Frag) : List V → Hp → VK → Prop := fun xs H Q => (∃ x n, xs = [x] ∧ LenV K x H n ∧ Q (.int n) H) ∨ (∃ a kvs, xs = [V.ref a] ∧ H a = some (.dK kvs) ∧ Q (.int kvs.length) H)
theorem call_lenAny : CallR X (.builtin "len") (rLenAny X.K) := CallR.or call_len call_lenD
theorem rs_len : RSn g W (rLenAny g.K) lenF := by
  intro α h H σ vs ds Q R hd p
  cases hd with
  | nil => exact p.elim
  | cons h1 h2 =>
    cases h2 with
    | cons _ _ => cases h1 <;> exact False.elim p
    | nil =>
      cases h1 <;> try exact False.elim p
      · simp only [lenF] at p
        split at p
        · rename_i hz
          exact .inl ⟨_, _, rfl, ⟨hz, rfl⟩, p α H _ .refl R (.int _)⟩
        · exact p.elim
      · rename_i hs hl
        exact .inl ⟨_, _, rfl, .inr ⟨_, hs, rfl⟩, p α H _ .refl R (by rw [hl.length]; exact .int _)⟩
      · rename_i l a hl
        simp only [lenF] at p
        split at p
        · rename_i xs hx
          obtain ⟨vs, a1, a2⟩ := R.ob _ _ _ hx hl
          exact .inl ⟨_, _, rfl, .inl ⟨_, SqL.of a1, rfl⟩, p α H _ .refl R (by rw [a2.length]; exact .int _)⟩
        · rename_i xs hx
          obtain ⟨ws, a1, a2, a3⟩ := R.ob _ _ _ hx hl
          have e : xs.length = ws.length := by have := congrArg List.length a2; simpa using this.symm
          exact .inr ⟨_, _, rfl, a1, p α H _ .refl R (by rw [e]; exact .int _)⟩
        · exact p.elim
/-- abs, int -/
def absF : List D → AH → EO
  | [.int i], h => .ok (.int (if i < 0 then -i else i)) h
  | _, _ => .bad
def intF : List D → AH → EO
  | [.int i], h => .ok (.int i) h
  | [.bl k], h => .ok (.int (if k then 1 else 0)) h
  | _, _ => .bad
theorem rs_abs : RSn g W (fun xs H Q => ∃ i, xs = [.int i] ∧ Q (.int (if i < 0 then -i else i)) H) absF := by
  intro α h H σ vs ds Q R hd p
  cases hd with
  | nil => exact p.elim
  | cons h1 h2 =>
    cases h2 with
    | cons _ _ => cases h1 <;> exact False.elim p
    | nil =>
      cases h1 <;> try exact False.elim p
      exact ⟨_, rfl, p α H _ .refl R (.int _)⟩
theorem rs_int : RSn g W (fun xs H Q => (∃ i, xs = [.int i] ∧ Q (.int i) H) ∨ ∃ k, xs = [.bl k] ∧ Q (.int (if k then 1 else 0)) H) intF := by
  intro α h H σ vs ds Q R hd p
  cases hd with
  | nil => exact p.elim
  | cons h1 h2 =>
    cases h2 with
    | cons _ _ => cases h1 <;> exact False.elim p
    | nil =>
      cases h1 <;> try exact False.elim p
      · exact .inr ⟨_, rfl, p α H _ .refl R (.int _)⟩
      · exact .inl ⟨_, rfl, p α H _ .refl R (.int _)⟩
/-- min, max of two -/
def maxF : List D → AH → EO
  | [.int i, .int j], h => .ok (.int (if j > i then j else i)) h
  | _, _ => .bad
def minF : List D → AH → EO
  | [.int i, .int j], h => .ok (.int (if j < i then j else i)) h
  | _, _ => .bad
theorem rs_max2 : RSn g W (fun xs H Q => ∃ i j, xs = [.int i, .int j] ∧ Q (.int (if j > i then j else i)) H) maxF := by
  intro α h H σ vs ds Q R hd p
  cases hd with
  | nil => exact p.elim
  | cons h1 h2 =>
    cases h2 with
    | nil => cases h1 <;> exact False.elim p
    | cons h2 h3 =>
      cases h3 with
      | cons _ _ => cases h1 <;> cases h2 <;> exact False.elim p
      | nil =>
        cases h1 <;> cases h2 <;> try exact False.elim p
        exact ⟨_, _, rfl, p α H _ .refl R (.int _)⟩
theorem rs_min2 : RSn g W (fun xs H Q => ∃ i j, xs = [.int i, .int j] ∧ Q (.int (if j < i then j else i)) H) minF := by
  intro α h H σ vs ds Q R hd p
  cases hd with
  | nil => exact p.elim
  | cons h1 h2 =>
    cases h2 with
    | nil => cases h1 <;> exact False.elim p
    | cons h2 h3 =>
      cases h3 with
      | cons _ _ => cases h1 <;> cases h2 <;> exact False.elim p
      | nil =>
        cases h1 <;> cases h2 <;> try exact False.elim p
        exact ⟨_, _, rfl, p α H _ .refl R (.int _)⟩
/-- tuple(x), list(x) -/
def tupF (d : D) (h : AH) : EO := match d with
  | .tup xs => .ok (.tup xs) h
  | .ref l => match h[l]? with
    | some (.lst xs) => .ok (.tup xs) h
    | _ => .bad
  | _ => .bad
theorem de_tuple {p pos : Pos} (hK : g.K = X.K) (hg : Gl X "tuple") (hm : X.mg "tuple" = none) (ha : PE X a (tE g W ma)) (na : starEach [a] X.env = (false, eval a X.env) :: starEach [] X.env := by rfl) :
    PE X (.Call (.Name "tuple" p) [a] [] pos) (tE g W (unM ma tupF)) := by
  refine PE.imp (pe_tupleOf hg hm ha na) fun σ H Q p => ?_
  obtain ⟨α, h, τ, R, s, p⟩ := tE_start (f := tupF) p
  refine ⟨α, h, τ, R, s, PostE.imp p ?_⟩
  rintro v H1 ⟨α1, d, h1, τ1, R1, s1, D1, p1⟩
  rw [← hK]
  cases D1 <;> try exact False.elim p1
  · rename_i hs hl
    exact .inr ⟨_, _, rfl, hs, p1 α1 H1 _ .refl R1 (.tup hs hl)⟩
  · rename_i l a hl
    simp only [tupF] at p1
    split at p1
    · rename_i xs hx
      obtain ⟨vs, a1, a2⟩ := R1.ob _ _ _ hx hl
      refine .inl ⟨_, _, rfl, SqL.of a1, fun q hq => ?_⟩
      obtain ⟨b1, b2, b3⟩ := new_tup R1 a2 hq
      exact p1 _ _ _ b2 b1 b3
    · exact p1.elim
def listF : List D → AH → EO
  | [.tup xs], h => .ok (.ref h.length) (h ++ [.lst xs])
  | [.ref l], h => match h[l]? with
    | some (.lst xs) => .ok (.ref h.length) (h ++ [.lst xs])
    | _ => .bad
  | _, _ => .bad
theorem rs_list : RSn g W (fun xs H Q => ∃ p ys, xs = [.ref p] ∧ (SqL g.K H p ys ∨ SqT g.K H p ys) ∧ ∀ l, H l = none → Q (.ref l) (upd H l (.lst ys))) listF := by
  intro α h H σ vs ds Q R hd p
  cases hd with
  | nil => exact p.elim
  | cons h1 h2 =>
    cases h2 with
    | cons _ _ => cases h1 <;> exact False.elim p
    | nil =>
      cases h1 <;> try exact False.elim p
      · rename_i hs hl
        refine ⟨_, _, rfl, .inr hs, fun q hq => ?_⟩
        obtain ⟨b1, b2, b3⟩ := new_list R hl hq
        exact p _ _ _ b2 b1 b3
      · rename_i l a hl
        simp only [listF] at p
        split at p
        · rename_i xs hx
          obtain ⟨vs, a1, a2⟩ := R.ob _ _ _ hx hl
          refine ⟨_, _, rfl, .inl (SqL.of a1), fun q hq => ?_⟩
          obtain ⟨b1, b2, b3⟩ := new_list R a2 hq
          exact p _ _ _ b2 b1 b3
        · exact p.elim
/-- any, all of a list of truths -/
def blsOf : List D → Option (List Bool)
  | [] => some []
  | .bl b :: r => (blsOf r).map (b :: ·)
  | _ :: _ => none
theorem blsOf_den {α : List Addr} : ∀ {ds : List D} {vs : List V} {bs : List Bool}, DenL g α H ds vs → blsOf ds = some bs → vs = bs.map V.bl
  | [], _, _, h, q => by cases h; cases q; rfl
  | d :: ds, _, bs, h, q => by
    cases h with
    | cons h1 h2 =>
      cases h1 <;> simp only [blsOf, reduceCtorEq] at q
      simp only [Option.map_eq_some_iff] at q
      obtain ⟨r, q1, rfl⟩ := q
      rw [blsOf_den h2 q1]
      rfl
def anyF : List D → AH → EO
  | [.ref l], h => match h[l]? with
    | some (.lst xs) => match blsOf xs with
      | some bs => .ok (.bl (bs.any id)) h
      | none => .bad
    | _ => .bad
  | _, _ => .bad
def allF : List D → AH → EO
  | [.ref l], h => match h[l]? with
    | some (.lst xs) => match blsOf xs with
      | some bs => .ok (.bl (bs.all id)) h
      | none => .bad
    | _ => .bad
  | _, _ => .bad
theorem rs_any : RSn g W (rAny g.K) anyF := by
  intro α h H σ vs ds Q R hd p
  cases hd with
  | nil => exact p.elim
  | cons h1 h2 =>
    cases h2 with
    | cons _ _ => cases h1 <;> exact False.elim p
    | nil =>
      cases h1 <;> try exact False.elim p
      rename_i l a hl
      simp only [anyF] at p
      split at p
      · rename_i xs hx
        obtain ⟨vs, a1, a2⟩ := R.ob _ _ _ hx hl
        split at p
        · rename_i bs hb
          exact ⟨a, bs, rfl, by rw [← blsOf_den a2 hb]; exact SqL.of a1, p α H _ .refl R (.bl _)⟩
        · exact p.elim
      · exact p.elim
theorem rs_all : RSn g W (rAll g.K) allF := by
  intro α h H σ vs ds Q R hd p
  cases hd with
  | nil => exact p.elim
  | cons h1 h2 =>
    cases h2 with
    | cons _ _ => cases h1 <;> exact False.elim p
    | nil =>
      cases h1 <;> try exact False.elim p
      rename_i l a hl
      simp only [allF] at p
      split at p
      · rename_i xs hx
        obtain ⟨vs, a1, a2⟩ := R.ob _ _ _ hx hl
        split at p
        · rename_i bs hb
          exact ⟨a, bs, rfl, by rw [← blsOf_den a2 hb]; exact SqL.of a1, p α H _ .refl R (.bl _)⟩
        · exact p.elim
      · exact p.elim
end
end DD
end

section
set_option Elab.async false
set_option linter.all false
set_option maxRecDepth 100000
namespace DD
open PySem L2
open PyProof.Rows (b2i)

/-! ### statements -/
def PostS (g : G) (W : WX) (α : List Addr) (H : Hp) (Dn : Ends) : SO → Prop
  | .nx τ' h' => ∀ α' H' σ', Ext α H α' H' → Rep g α' h' H' → DenS g α' H' τ' σ' → Dn.nx σ' H'
  | .rt d h' => ∀ α' H' v, Ext α H α' H' → Rep g α' h' H' → Den g α' H' d v → Dn.rt v H'
  | .bk τ' h' => ∀ α' H' σ', Ext α H α' H' → Rep g α' h' H' → DenS g α' H' τ' σ' → Dn.bk σ' H'
  | .ct τ' h' => ∀ α' H' σ', Ext α H α' H' → Rep g α' h' H' → DenS g α' H' τ' σ' → Dn.ct σ' H'
  | .exc c τ' h' => ∀ α' H' σ', Ext α H α' H' → Rep g α' h' H' → DenS g α' H' τ' σ' → W (.ref (g.cl c)) none σ' H'
  | .bad => False
def tS (g : G) (W : WX) (m : SM) : TS := fun Dn σ H => ∃ α h τ, Rep g α h H ∧ DenS g α H τ σ ∧ PostS g W α H Dn (m τ h)
def EO.toS : EO → SL → (D → AH → SO) → SO
  | .ok d h, _, f => f d h
  | .exc c h, τ, _ => .exc c τ h
  | .bad, _, _ => .bad
def SO.bind : SO → (SL → AH → SO) → SO
  | .nx τ h, f => f τ h
  | o, _ => o
def seqM (a b : SM) : SM := fun τ h => (a τ h).bind b
def passM : SM := fun τ h => .nx τ h
def brkM : SM := fun τ h => .bk τ h
def contM : SM := fun τ h => .ct τ h
def exprM (e : EM) : SM := fun τ h => (e τ h).toS τ fun _ h1 => .nx τ h1
def retM (e : EM) : SM := fun τ h => (e τ h).toS τ fun d h1 => .rt d h1
def retNM : SM := fun _ h => .rt .non h
def setM (i : Nat) (e : EM) : SM := fun τ h => (e τ h).toS τ fun d h1 => .nx (τ.set i (some d)) h1
def raiseM (c : Nat) : SM := fun τ h => .exc c τ h
def ifSM (c : EM) (a b : SM) : SM := fun τ h => (c τ h).toS τ fun d h1 => match d with
  | .bl true => a τ h1
  | .bl false => b τ h1
  | _ => .bad
section
variable {X : Cx} {g : G} {W : WX} {a b c e : Expr} {ma mb mc : EM} {pos : Pos} {σ : St} {H H' : Hp} {Q : VK} {Dn : Ends} {α α' : List Addr} {o : SO} {τ : SL} {sa sb : SM} {st : Stmt} {rest : List Stmt}
theorem PostS.mono (p : PostS g W α H Dn o) (e : Ext α H α' H') : PostS g W α' H' Dn o := by
  cases o with
  | nx τ h => exact fun α2 H2 σ2 e2 r d => p α2 H2 σ2 (e.trans e2) r d
  | rt d h => exact fun α2 H2 v e2 r d => p α2 H2 v (e.trans e2) r d
  | bk τ h => exact fun α2 H2 σ2 e2 r d => p α2 H2 σ2 (e.trans e2) r d
  | ct τ h => exact fun α2 H2 σ2 e2 r d => p α2 H2 σ2 (e.trans e2) r d
  | exc c τ h => exact fun α2 H2 σ2 e2 r d => p α2 H2 σ2 (e.trans e2) r d
  | bad => exact p
theorem PostS.toS {f : D → AH → SO} {o : EO} (p : PostS g W α H Dn (o.toS τ f)) (s : DenS g α H τ σ) :
    PostE g W α H σ (fun v H1 => ∃ α1 d h1, Ext α H α1 H1 ∧ Rep g α1 h1 H1 ∧ Den g α1 H1 d v ∧ DenS g α1 H1 τ σ ∧ PostS g W α1 H1 Dn (f d h1)) o := by
  cases o with
  | ok d h => exact fun α2 H2 v e2 r dd => ⟨α2, d, h, e2, r, dd, s.ext e2, PostS.mono p e2⟩
  | exc c h => exact fun α2 H2 e2 r => p α2 H2 σ e2 r (s.ext e2)
  | bad => exact p
theorem PostS.bind {f : SL → AH → SO} (p : PostS g W α H Dn (o.bind f)) :
    PostS g W α H { Dn with nx := fun σ1 H1 => ∃ α1 τ1 h1, Ext α H α1 H1 ∧ Rep g α1 h1 H1 ∧ DenS g α1 H1 τ1 σ1 ∧ PostS g W α1 H1 Dn (f τ1 h1) } o := by
  cases o with
  | nx τ h => exact fun α2 H2 σ2 e2 r d => ⟨α2, τ, h, e2, r, d, PostS.mono p e2⟩
  | rt d h => exact p
  | bk τ h => exact p
  | ct τ h => exact p
  | exc c τ h => exact p
  | bad => exact p
theorem PostS.imp {Dn' : Ends} (p : PostS g W α H Dn o) (k1 : ∀ σ H, Dn.nx σ H → Dn'.nx σ H) (k2 : ∀ v H, Dn.rt v H → Dn'.rt v H) (k3 : ∀ σ H, Dn.bk σ H → Dn'.bk σ H) (k4 : ∀ σ H, Dn.ct σ H → Dn'.ct σ H) : PostS g W α H Dn' o := by
  cases o with
  | nx τ h => exact fun α2 H2 σ2 e2 r d => k1 _ _ (p α2 H2 σ2 e2 r d)
  | rt d h => exact fun α2 H2 v e2 r d => k2 _ _ (p α2 H2 v e2 r d)
  | bk τ h => exact fun α2 H2 σ2 e2 r d => k3 _ _ (p α2 H2 σ2 e2 r d)
  | ct τ h => exact fun α2 H2 σ2 e2 r d => k4 _ _ (p α2 H2 σ2 e2 r d)
  | exc c τ h => exact p
  | bad => exact p
theorem tS_e {f : SL → D → AH → SO} (p : tS g W (fun τ h => (ma τ h).toS τ (f τ)) Dn σ H) : tE g W ma σ H fun v H1 => ∃ α1 d h1 τ, Rep g α1 h1 H1 ∧ DenS g α1 H1 τ σ ∧ Den g α1 H1 d v ∧ PostS g W α1 H1 Dn (f τ d h1) := by
  obtain ⟨α, h, τ, R, s, p⟩ := p
  refine ⟨α, h, τ, R, s, PostE.imp (PostS.toS p s) ?_⟩
  rintro v H1 ⟨α1, d, h1, E1, R1, D1, s1, p1⟩
  exact ⟨α1, d, h1, τ, R1, s1, D1, p1⟩
theorem dss_nil : PSs X [] (tS g W passM) := PSs.imp pss_nil fun Dn σ H ⟨α, h, τ, R, s, p⟩ => p α H σ .refl R s
theorem dss_cons (h1 : PS X st (tS g W sa)) (h2 : PSs X rest (tS g W sb)) : PSs X (st :: rest) (tS g W (seqM sa sb)) := by
  refine PSs.imp (pss_cons h1 h2) fun Dn σ H p => ?_
  obtain ⟨α, h, τ, R, s, p⟩ := p
  refine ⟨α, h, τ, R, s, PostS.imp (PostS.bind p) (fun σ1 H1 q => ?_) (fun _ _ q => q) (fun _ _ q => q) fun _ _ q => q⟩
  obtain ⟨α1, τ1, h1, E1, R1, s1, p1⟩ := q
  exact ⟨α1, h1, τ1, R1, s1, p1⟩
theorem dss_one (h1 : PS X st (tS g W sa)) : PSs X [st] (tS g W sa) := pss_one h1
theorem ds_pass : PS X (.Pass pos) (tS g W passM) := PS.imp ps_pass fun Dn σ H ⟨α, h, τ, R, s, p⟩ => p α H σ .refl R s
theorem ds_break : PS X (.Break pos) (tS g W brkM) := PS.imp ps_break fun Dn σ H ⟨α, h, τ, R, s, p⟩ => p α H σ .refl R s
theorem ds_continue : PS X (.Continue pos) (tS g W contM) := PS.imp ps_continue fun Dn σ H ⟨α, h, τ, R, s, p⟩ => p α H σ .refl R s
theorem ds_expr (he : PE X e (tE g W ma)) (hs : swapsWith e none pos.line X.env = pure false := by rfl) : PS X (.Expr e pos) (tS g W (exprM ma)) := by
  refine PS.imp (ps_expr he hs) fun Dn σ H p => ?_
  obtain ⟨α, h, τ, R, s, p⟩ := tS_e (f := fun τ _ h1 => .nx τ h1) p
  refine ⟨α, h, τ, R, s, PostE.imp p ?_⟩
  rintro v H1 ⟨α1, d, h1, τ1, R1, s1, D1, p1⟩
  exact p1 α1 H1 σ .refl R1 s1
theorem ds_ret (he : PE X e (tE g W ma)) : PS X (.Return (some e) pos) (tS g W (retM ma)) := by
  refine PS.imp (ps_ret he) fun Dn σ H p => ?_
  obtain ⟨α, h, τ, R, s, p⟩ := tS_e (f := fun τ d h1 => .rt d h1) p
  refine ⟨α, h, τ, R, s, PostE.imp p ?_⟩
  rintro v H1 ⟨α1, d, h1, τ1, R1, s1, D1, p1⟩
  exact p1 α1 H1 v .refl R1 D1
theorem ds_retN : PS X (.Return none pos) (tS g W retNM) := PS.imp ps_retN fun Dn σ H ⟨α, h, τ, R, s, p⟩ => p α H .non .refl R .non
theorem ds_set {i : Nat} {x : Str} {pos' : Pos} (hN : X.N.Nodup) (hi : X.N[i]? = some x) (hx : Loc X.env.scope x) (he : PE X e (tE g W ma)) (hs : swapsWith e (some (.Name x pos')) pos.line X.env = pure false := by rfl) (hf : X.fn x = true ∨ X.env.scope.names.lookup x = some .local := by first | exact .inl rfl | exact .inr rfl | assumption) :
    PS X (.Assign [.Name x pos'] e pos) (tS g W (setM i ma)) := by
  refine PS.imp (ps_set hN hi hx he hs hf) fun Dn σ H p => ?_
  obtain ⟨α, h, τ, R, s, p⟩ := tS_e (f := fun τ d h1 => .nx (τ.set i (some d)) h1) p
  refine ⟨α, h, τ, R, s, PostE.imp p ?_⟩
  rintro v H1 ⟨α1, d, h1, τ1, R1, s1, D1, p1⟩
  exact p1 α1 H1 _ .refl R1 (s1.set i D1)
theorem ds_if {p q : List Stmt} (hc : PT X c (tT g W mc)) (hp : PSs X p (tS g W sa)) (hq : PSs X q (tS g W sb)) : PS X (.If c p q pos) (tS g W (ifSM mc sa sb)) := by
  refine PS.imp (ps_if hc hp hq) fun Dn σ H p => ?_
  obtain ⟨α, h, τ, R, s, p⟩ := tS_e (f := fun τ d h1 => match d with | .bl true => sa τ h1 | .bl false => sb τ h1 | _ => .bad) p
  refine ⟨α, h, τ, R, s, PostE.imp p ?_⟩
  rintro v H1 ⟨α1, d, h1, τ1, R1, s1, D1, p1⟩
  cases D1 <;> try exact False.elim p1
  rename_i k
  refine ⟨k, rfl, ?_⟩
  cases k
  · exact iteF ⟨α1, h1, τ1, R1, s1, p1⟩
  · exact iteT ⟨α1, h1, τ1, R1, s1, p1⟩

/-! ### targets -/
abbrev TM := D → SL → AH → SO
/-- an end that goes on alone -/
def nxE (Q : St → Hp → Prop) : Ends := { nx := Q, rt := fun _ _ => False }
def RG (g : G) (W : WX) (t : TG) (f : TM) : Prop := ∀ (α : List Addr) (h : AH) (H : Hp) (τ : SL) (σ : St) (v : V) (d : D) (Q : St → Hp → Prop), Rep g α h H → DenS g α H τ σ → Den g α H d v → PostS g W α H (nxE Q) (f d τ h) → t v σ H Q
def nameG (i : Nat) : TM := fun d τ h => .nx (τ.set i (some d)) h
def unpackG (fs : List TM) : List D → SL → AH → SO := match fs with
  | [] => fun ds τ h => match ds with
    | [] => .nx τ h
    | _ => .bad
  | f :: fs => fun ds τ h => match ds with
    | d :: ds => (f d τ h).bind fun τ1 h1 => unpackG fs ds τ1 h1
    | _ => .bad
def tupG (fs : List TM) : TM := fun d τ h => match d with
  | .tup ds => unpackG fs ds τ h
  | _ => .bad
theorem rg_name {i : Nat} : RG g W (gName i) (nameG i) := fun α h H τ σ v d Q R s hd p => p α H _ .refl R (s.set i hd)
def RGs (g : G) (W : WX) (t : TGs) (fs : List TM) : Prop := ∀ (α : List Addr) (h : AH) (H : Hp) (τ : SL) (σ : St) (vs : List V) (ds : List D) (Q : St → Hp → Prop), Rep g α h H → DenS g α H τ σ → DenL g α H ds vs → PostS g W α H (nxE Q) (unpackG fs ds τ h) → t vs σ H Q
theorem rgs_nil : RGs g W gNil [] := fun α h H τ σ vs ds Q R s hd p => by
  cases hd with
  | nil => exact ⟨rfl, p α H σ .refl R s⟩
  | cons _ _ => exact p.elim
theorem rgs_cons {t : TG} {u : TGs} {f : TM} {fs : List TM} (h1 : RG g W t f) (h2 : RGs g W u fs) : RGs g W (gCons t u) (f :: fs) := fun α h H τ σ vs ds Q R s hd p => by
  cases hd with
  | nil => exact p.elim
  | cons k1 k2 =>
    refine ⟨_, _, rfl, h1 α h H τ σ _ _ _ R s k1 (PostS.imp (PostS.bind p) (fun σ1 H1 q => ?_) (fun _ _ q => q) (fun _ _ q => q) fun _ _ q => q)⟩
    obtain ⟨α1, τ1, h1', E1, R1, s1, p1⟩ := q
    exact h2 α1 h1' H1 τ1 σ1 _ _ Q R1 s1 (DenL.ext E1 _ _ k2) p1
theorem unpack_len {fs : List TM} : ∀ {ds : List D} {τ : SL} {h : AH} {Q : St → Hp → Prop}, PostS g W α H (nxE Q) (unpackG fs ds τ h) → (∀ f ∈ fs, ∀ d τ h α H Q, PostS g W α H (nxE Q) (f d τ h) → ∃ τ' h', f d τ h = .nx τ' h') → ds.length = fs.length := by
  induction fs with
  | nil => intro ds τ h Q p _; cases ds with
    | nil => rfl
    | cons _ _ => exact p.elim
  | cons f fs ih => intro ds τ h Q p k; cases ds with
    | nil => exact p.elim
    | cons d ds =>
      obtain ⟨τ', h', e⟩ : ∃ τ' h', f d τ h = .nx τ' h' := k f List.mem_cons_self d τ h α H _ (PostS.imp (PostS.bind p) (fun _ _ q => q) (fun _ _ q => q) (fun _ _ q => q) fun _ _ q => q)
      have p' : PostS g W α H (nxE Q) ((f d τ h).bind fun τ1 h1 => unpackG fs ds τ1 h1) := p
      rw [e] at p'
      have := ih (ds := ds) (τ := τ') (h := h') (Q := Q) p' (fun f hf => k f (List.mem_cons_of_mem _ hf))
      simp [this]
/-- a tuple of names -/
theorem rg_names {t : TGs} {is : List Nat} (hr : RGs g W t (is.map nameG)) : RG g W (gTup g.K is.length t) (tupG (is.map nameG)) := fun α h H τ σ v d Q R s hd p => by
  cases hd <;> try exact False.elim p
  rename_i a ds vs hs hl
  have e := unpack_len (fs := is.map nameG) (ds := ds) (τ := τ) (h := h) (Q := Q) p (fun f hf d τ h α H Q q => by
    obtain ⟨i, _, rfl⟩ := List.mem_map.mp hf
    exact ⟨_, _, rfl⟩)
  refine ⟨a, vs, rfl, hs, by rw [← hl.length, e, List.length_map], hr α h H τ σ vs ds Q R s hl p⟩
def asgM (e : EM) (f : TM) : SM := fun τ h => (e τ h).toS τ fun d h1 => f d τ h1
theorem ds_asg {tg : Expr} {t : TG} {f : TM} (he : PE X e (tE g W ma)) (hg : PG X tg t) (rg : RG g W t f) (hf : ∀ d τ h Q α H Dn, PostS g W α H Dn (f d τ h) → (∀ σ H, Dn.nx σ H → Q σ H) → PostS g W α H (nxE Q) (f d τ h)) (hs : swapsWithSole [tg] e pos.line X.env = pure false := by rfl) (hw : swappedStores [tg] e X.env = pure none := by rfl)
    (h1 : (assignEach [tg] X.env).map (·.2) = [assign tg X.env] := by rfl) : PS X (.Assign [tg] e pos) (tS g W (asgM ma f)) := by
  refine PS.imp (ps_asg he hg hs hw h1) fun Dn σ H p => ?_
  obtain ⟨α, h, τ, R, s, p⟩ := tS_e (f := fun τ d h1 => f d τ h1) p
  refine ⟨α, h, τ, R, s, PostE.imp p ?_⟩
  rintro v H1 ⟨α1, d, h1, τ1, R1, s1, D1, p1⟩
  exact rg α1 h1 H1 τ1 σ v d _ R1 s1 D1 (hf d τ1 h1 _ α1 H1 Dn p1 fun _ _ q => q)
/-- a mirror of a target goes on, or raises, or is bad -/
def Goes (f : TM) : Prop := ∀ d τ h, (∃ τ' h', f d τ h = .nx τ' h') ∨ (∃ c τ' h', f d τ h = .exc c τ' h') ∨ f d τ h = .bad
theorem Goes.post {f : TM} (k : Goes f) (d : D) (τ : SL) (h : AH) (Q : St → Hp → Prop) (α : List Addr) (H : Hp) (Dn : Ends) (p : PostS g W α H Dn (f d τ h)) (q : ∀ σ H, Dn.nx σ H → Q σ H) : PostS g W α H (nxE Q) (f d τ h) := by
  rcases k d τ h with ⟨τ', h', e⟩ | ⟨c, τ', h', e⟩ | e
  · rw [e] at p ⊢; exact fun α2 H2 σ2 e2 r d => q _ _ (p α2 H2 σ2 e2 r d)
  · rw [e] at p ⊢; exact p
  · rw [e] at p; exact p.elim
theorem goes_name {i : Nat} : Goes (nameG i) := fun d τ h => .inl ⟨_, _, rfl⟩
theorem goes_unpack : ∀ (fs : List TM), (∀ f ∈ fs, Goes f) → ∀ ds τ h, (∃ τ' h', unpackG fs ds τ h = .nx τ' h') ∨ (∃ c τ' h', unpackG fs ds τ h = .exc c τ' h') ∨ unpackG fs ds τ h = .bad
  | [], _, [], τ, h => .inl ⟨_, _, rfl⟩
  | [], _, _ :: _, τ, h => .inr (.inr rfl)
  | f :: fs, k, [], τ, h => .inr (.inr rfl)
  | f :: fs, k, d :: ds, τ, h => by
    have e0 : unpackG (f :: fs) (d :: ds) τ h = (f d τ h).bind fun τ1 h1 => unpackG fs ds τ1 h1 := rfl
    rcases k f List.mem_cons_self d τ h with ⟨τ', h', e⟩ | ⟨c, τ', h', e⟩ | e
    · rw [e0, e]; exact goes_unpack fs (fun f hf => k f (List.mem_cons_of_mem _ hf)) ds τ' h'
    · rw [e0, e]; exact .inr (.inl ⟨_, _, _, rfl⟩)
    · rw [e0, e]; exact .inr (.inr rfl)
theorem goes_tup {fs : List TM} (k : ∀ f ∈ fs, Goes f) : Goes (tupG fs) := fun d τ h => by
  cases d <;> first | exact .inr (.inr rfl) | exact goes_unpack fs k _ τ h
theorem goes_names {is : List Nat} : Goes (tupG (is.map nameG)) := goes_tup fun f hf => by
  obtain ⟨i, _, rfl⟩ := List.mem_map.mp hf
  exact goes_name
/-- a, b = x, y -/
def parM (i j : Nat) (m : LM) : SM := fun τ h => match m τ h with
  | .ok [d, e] h1 => .nx ((τ.set i (some d)).set j (some e)) h1
  | .exc c h1 => .exc c τ h1
  | _ => .bad
theorem ds_par {i j : Nat} {x y : Str} {a b : Expr} {m : LM} {px py pt : Pos} {kt k2 pt2} (hc : X.calm = true) (hN : X.N.Nodup) (hi : X.N[i]? = some x) (hj : X.N[j]? = some y) (hij : i ≠ j)
    (hx : X.env.scope.names.lookup x = some .local) (hy : X.env.scope.names.lookup y = some .local) (ha : PA X [a, b] (tL g W m))
    (hw : swappedStores [.Tuple [.Name x px, .Name y py] kt pt] (.Tuple [a, b] k2 pt2) X.env = pure (some [x, y]))
    (hs : swapsWithSole [.Tuple [.Name x px, .Name y py] kt pt] (.Tuple [a, b] k2 pt2) pos.line X.env = pure false := by rfl) :
    PS X (.Assign [.Tuple [.Name x px, .Name y py] kt pt] (.Tuple [a, b] k2 pt2) pos) (tS g W (parM i j m)) := by
  refine PS.imp (ps_par hc hN hi hj hij hx hy ha hw hs) fun Dn σ H p => ?_
  obtain ⟨α, h, τ, R, s, p⟩ := p
  refine ⟨α, h, τ, R, s, ?_⟩
  unfold parM at p
  split at p
  · rename_i d e h1 e1
    rw [e1]
    rintro α' H' vs E R' dl
    cases dl with
    | cons d1 dl =>
      cases dl with
      | cons d2 dl =>
        cases dl
        exact ⟨_, _, rfl, p α' H' _ E R' (((s.ext E).set i d1).set j d2)⟩
  · rename_i c h1 e1
    rw [e1]
    exact fun α' H' E R' => p α' H' σ E R' (s.ext E)
  · exact p.elim

/-! ### while -/
def whileN (c : EM) (b : SM) : Nat → SM
  | 0 => fun _ _ => .bad
  | n + 1 => fun τ h => (c τ h).toS τ fun d h1 => match d with
    | .bl true => match b τ h1 with
      | .nx τ' h' => whileN c b n τ' h'
      | .ct τ' h' => whileN c b n τ' h'
      | .bk τ' h' => .nx τ' h'
      | r => r
    | .bl false => .nx τ h1
    | _ => .bad
open Classical in
noncomputable def whileM (c : EM) (b : SM) : SM := fun τ h => if H : ∃ n, whileN c b n τ h ≠ .bad then whileN c b (Classical.choose H) τ h else .bad
theorem whileN_mono {c : EM} {b : SM} : ∀ (n k : Nat) (τ : SL) (h : AH), whileN c b n τ h ≠ .bad → whileN c b (n + k) τ h = whileN c b n τ h
  | 0, k, τ, h, q => absurd rfl q
  | n + 1, k, τ, h, q => by
    rw [show n + 1 + k = (n + k) + 1 by omega]
    simp only [whileN] at q ⊢
    cases e : c τ h with
    | ok d h1 =>
      rw [e] at q
      simp only [EO.toS] at q ⊢
      cases d with
      | bl t =>
        cases t with
        | true =>
          simp only at q ⊢
          cases e2 : b τ h1 with
          | nx τ' h' => rw [e2] at q; exact whileN_mono n k τ' h' q
          | ct τ' h' => rw [e2] at q; exact whileN_mono n k τ' h' q
          | bk τ' h' => rfl
          | rt d h' => rfl
          | exc c τ' h' => rfl
          | bad => rfl
        | false => rfl
      | _ => rfl
    | exc c h1 => rfl
    | bad => rfl
theorem whileM_of {c : EM} {b : SM} {n : Nat} {τ : SL} {h : AH} (q : whileN c b n τ h ≠ .bad) : whileM c b τ h = whileN c b n τ h := by
  have H : ∃ n, whileN c b n τ h ≠ .bad := ⟨n, q⟩
  unfold whileM
  rw [dif_pos H]
  have h1 := Classical.choose_spec H
  have e1 := whileN_mono (Classical.choose H) n τ h h1
  have e2 := whileN_mono n (Classical.choose H) τ h q
  rw [Nat.add_comm] at e2
  exact e1.symm.trans e2
/-- one turn -/
def turnM (c : EM) (b : SM) (k : SM) : SM := fun τ h => (c τ h).toS τ fun d h1 => match d with
    | .bl true => match b τ h1 with
      | .nx τ' h' => k τ' h'
      | .ct τ' h' => k τ' h'
      | .bk τ' h' => .nx τ' h'
      | r => r
    | .bl false => .nx τ h1
    | _ => .bad
theorem whileM_eq {c : EM} {b : SM} (τ : SL) (h : AH) : whileM c b τ h = turnM c b (whileM c b) τ h := by
  by_cases H : ∃ n, whileN c b n τ h ≠ .bad
  · obtain ⟨n, q⟩ := H
    rw [whileM_of q]
    cases n with
    | zero => exact absurd rfl q
    | succ n =>
      simp only [whileN, turnM] at q ⊢
      cases e : c τ h with
      | ok d h1 =>
        rw [e] at q
        simp only [EO.toS] at q ⊢
        cases d with
        | bl t =>
          cases t with
          | true =>
            simp only at q ⊢
            cases e2 : b τ h1 with
            | nx τ' h' => rw [e2] at q; exact (whileM_of q).symm
            | ct τ' h' => rw [e2] at q; exact (whileM_of q).symm
            | bk τ' h' => rfl
            | rt d h' => rfl
            | exc c τ' h' => rfl
            | bad => rfl
          | false => rfl
        | _ => rfl
      | exc c h1 => rfl
      | bad => rfl
  · have e0 : whileM c b τ h = .bad := by unfold whileM; rw [dif_neg H]
    rw [e0]
    have H' : ∀ n, whileN c b n τ h = .bad := fun n => Classical.byContradiction fun q => H ⟨n, q⟩
    simp only [turnM]
    cases e : c τ h with
    | ok d h1 =>
      simp only [EO.toS]
      have H1 := H' 1
      simp only [whileN, e, EO.toS] at H1
      cases d with
      | bl t =>
        cases t with
        | true =>
          simp only at H1 ⊢
          cases e2 : b τ h1 with
          | nx τ' h' =>
            simp only
            have : ¬ ∃ n, whileN c b n τ' h' ≠ .bad := fun ⟨n, q⟩ => q (by have := H' (n + 1); simp only [whileN, e, EO.toS, e2] at this; exact this)
            unfold whileM; rw [dif_neg this]
          | ct τ' h' =>
            simp only
            have : ¬ ∃ n, whileN c b n τ' h' ≠ .bad := fun ⟨n, q⟩ => q (by have := H' (n + 1); simp only [whileN, e, EO.toS, e2] at this; exact this)
            unfold whileM; rw [dif_neg this]
          | bk τ' h' => rw [e2] at H1; exact absurd H1 (by simp)
          | rt d h' => rw [e2] at H1; exact absurd H1 (by simp)
          | exc c τ' h' => rw [e2] at H1; exact absurd H1 (by simp)
          | bad => rfl
        | false => exact absurd H1 (by simp)
      | _ => rfl
    | exc c h1 => have H1 := H' 1; simp only [whileN, e, EO.toS] at H1; exact absurd H1 (by simp)
    | bad => rfl
theorem ds_while {body : List Stmt} (hp : PassesOwn (model X.prog X.w) X.A X.env X.xe) (hc : PT X c (tT g W mc)) (hb : PSs X body (tS g W sb)) : PS X (.While c body [] pos) (tS g W (whileM mc sb)) := by
  refine PS.imp (ps_while hp hc hb) fun Dn σ H p => ?_
  obtain ⟨α, h, τ, R, s, p⟩ := p
  by_cases HB : ∃ n, whileN mc sb n τ h ≠ .bad
  · obtain ⟨n, q⟩ := HB
    rw [whileM_of q] at p
    refine ⟨fun m σ H => ∃ α h τ, Rep g α h H ∧ DenS g α H τ σ ∧ PostS g W α H Dn (whileN mc sb m τ h), ⟨n, α, h, τ, R, s, p⟩, ?_⟩
    rintro m σ H ⟨α, h, τ, R, s, p⟩
    cases m with
    | zero => exact p.elim
    | succ m =>
      simp only [whileN] at p
      refine ⟨α, h, τ, R, s, PostE.imp (PostS.toS p s) ?_⟩
      rintro v H1 ⟨α1, d, h1, E1, R1, D1, s1, p1⟩
      cases D1 <;> try exact False.elim p1
      rename_i k
      refine ⟨k, rfl, ?_⟩
      cases k
      · exact iteF (p1 α1 H1 σ .refl R1 s1)
      · refine iteT ⟨fun σ' H' => ∃ α h τ, Rep g α h H' ∧ DenS g α H' τ σ' ∧ PostS g W α H' Dn (whileN mc sb m τ h), fun σ' H' w => ⟨m, Nat.lt_succ_self m, w⟩, α1, h1, τ, R1, s1, ?_⟩
        simp only at p1
        cases e : sb τ h1 with
        | nx τ' h' => rw [e] at p1; exact fun α2 H2 σ2 e2 r d => ⟨α2, h', τ', r, d, PostS.mono p1 e2⟩
        | ct τ' h' => rw [e] at p1; exact fun α2 H2 σ2 e2 r d => ⟨α2, h', τ', r, d, PostS.mono p1 e2⟩
        | bk τ' h' => rw [e] at p1; exact p1
        | rt d h' => rw [e] at p1; exact p1
        | exc c τ' h' => rw [e] at p1; exact p1
        | bad => rw [e] at p1; exact p1
  · exfalso
    unfold whileM at p
    rw [dif_neg HB] at p
    exact p
end
end DD
end

section
set_option Elab.async false
set_option linter.all false
set_option maxRecDepth 100000
namespace DD
open PySem L2
open PyProof.Rows (b2i)

/-! ### for -/
/-- what the body leaves for the next turn -/
def nextM (o : SO) (k : SM) : SO := match o with
  | .nx τ' h' => k τ' h'
  | .ct τ' h' => k τ' h'
  | .bk τ' h' => .nx τ' h'
  | r => r
/-- turn by turn; live tells whether what is walked stands as it stood -/
def loopM (live : AH → Bool) (f : TM) (b : SM) : List D → SM
  | [] => fun τ h => if live h = true then .nx τ h else .bad
  | d :: ds => fun τ h => if live h = true then (f d τ h).bind fun τ1 h1 => nextM (b τ1 h1) (loopM live f b ds) else .bad
section
variable {X : Cx} {g : G} {W : WX} {a b c e : Expr} {ma mb mc : EM} {pos : Pos} {σ : St} {H H' : Hp} {Q : VK} {Dn : Ends} {α α' : List Addr} {o : SO} {τ : SL} {sa sb : SM} {st : Stmt} {rest : List Stmt}
/-- the loop over any walk J that yields the values of ds in order -/
theorem loop_core {J : It} {tgt : TG} {f : TM} {live : AH → Bool} {ds : List D} {h : AH} (rg : RG g W tgt f) (gf : Goes f) (R : Rep g α h H) (s : DenS g α H τ σ) (p : PostS g W α H Dn (loopM live f sb ds τ h))
    (stop : ∀ α' H' h', Ext α H α' H' → Rep g α' h' H' → live h' = true → ∀ i, ds.length ≤ i → J.stop i H')
    (go : ∀ α' H' h', Ext α H α' H' → Rep g α' h' H' → live h' = true → ∀ i d, ds[i]? = some d → J.go i H')
    (yld : ∀ α' H' h' x H2, Ext α H α' H' → Rep g α' h' H' → live h' = true → ∀ i d, ds[i]? = some d → J.yld i H' x H2 → Ext α' H' α' H2 ∧ Rep g α' h' H2 ∧ Den g α' H2 d x) :
    ∃ W' : Nat → Nat → St → Hp → Prop, (∃ m, W' 0 m σ H) ∧ ∀ i m σ H, W' i m σ H → (J.stop i H ∧ Dn.nx σ H) ∨
      (J.go i H ∧ ∃ N : St → Hp → Prop, (∀ σ' H', N σ' H' → ∃ m', m' < m ∧ W' (i + 1) m' σ' H') ∧ ∀ x H', J.yld i H x H' → tgt x σ H' fun σ2 H2 => tS g W sb { Dn with nx := N, ct := N, bk := Dn.nx } σ2 H2) := by
  refine ⟨fun i m σ' H' => m = ds.length - i ∧ ∃ α' h' τ', Ext α H α' H' ∧ Rep g α' h' H' ∧ DenS g α' H' τ' σ' ∧ PostS g W α' H' Dn (loopM live f sb (ds.drop i) τ' h'), ⟨ds.length, by simp, α, h, τ, .refl, R, s, p⟩, ?_⟩
  rintro i m σ1 H1 ⟨rfl, α1, h1, τ1, E1, R1, s1, p1⟩
  by_cases hi : i < ds.length
  · have hd : ds.drop i = ds[i] :: ds.drop (i + 1) := by rw [List.drop_eq_getElem_cons hi]
    have hg : ds[i]? = some ds[i] := List.getElem?_eq_getElem hi
    rw [hd] at p1
    simp only [loopM] at p1
    split at p1
    · rename_i hl
      refine .inr ⟨go α1 H1 h1 E1 R1 hl i _ hg, fun σ' H' => ∃ α' h' τ', Ext α H α' H' ∧ Rep g α' h' H' ∧ DenS g α' H' τ' σ' ∧ PostS g W α' H' Dn (loopM live f sb (ds.drop (i + 1)) τ' h'), fun σ' H' w => ⟨ds.length - (i + 1), by omega, rfl, w⟩, fun x H2 hy => ?_⟩
      obtain ⟨E2, R2, D2⟩ := yld α1 H1 h1 x H2 E1 R1 hl i _ hg hy
      have p2 := PostS.mono p1 E2
      refine rg α1 h1 H2 τ1 σ1 x _ _ R2 (s1.ext E2) D2 (gf.post _ _ _ _ _ _ _ (PostS.bind p2) fun σ3 H3 w => ?_)
      obtain ⟨α3, τ3, h3, E3, R3, s3, p3⟩ := w
      refine ⟨α3, h3, τ3, R3, s3, ?_⟩
      have EE := (E1.trans E2).trans E3
      cases e : sb τ3 h3 with
      | nx τ' h' => rw [e] at p3; exact fun α4 H4 σ4 e4 r d => ⟨α4, h', τ', EE.trans e4, r, d, PostS.mono p3 e4⟩
      | ct τ' h' => rw [e] at p3; exact fun α4 H4 σ4 e4 r d => ⟨α4, h', τ', EE.trans e4, r, d, PostS.mono p3 e4⟩
      | bk τ' h' => rw [e] at p3; exact p3
      | rt d h' => rw [e] at p3; exact p3
      | exc c τ' h' => rw [e] at p3; exact p3
      | bad => rw [e] at p3; exact p3
    · exact p1.elim
  · have hd : ds.drop i = [] := List.drop_eq_nil_of_le (by omega)
    rw [hd] at p1
    simp only [loopM] at p1
    split at p1
    · rename_i hl
      exact .inl ⟨stop α1 H1 h1 E1 R1 hl i (by omega), p1 α1 H1 σ1 .refl R1 s1⟩
    · exact p1.elim
end
/-- what a for walks: a mirror of the iterable gives the values and the test of life -/
def forM (e : EM) (items : D → AH → Option (List D × (AH → Bool))) (f : TM) (b : SM) : SM := fun τ h => (e τ h).toS τ fun d h1 => match items d h1 with
  | some (ds, live) => loopM live f b ds τ h1
  | none => .bad
mutual
def D.beq : D → D → Bool
  | .non, .non => true
  | .bl a, .bl b => a == b
  | .int a, .int b => a == b
  | .str a, .str b => decide (a = b)
  | .tup a, .tup b => D.beqs a b
  | .ref a, .ref b => a == b
  | .con a, .con b => a == b
  | .fls a, .fls b => D.beqs a b
  | _, _ => false
def D.beqs : List D → List D → Bool
  | [], [] => true
  | a :: as, b :: bs => D.beq a b && D.beqs as bs
  | _, _ => false
end
mutual
theorem D.eq_of_beq : ∀ {a b : D}, D.beq a b = true → a = b
  | .non, b, h => by cases b <;> simp [D.beq] at h ⊢
  | .bl _, b, h => by cases b <;> simp [D.beq] at h ⊢; exact h
  | .int _, b, h => by cases b <;> simp [D.beq] at h ⊢; exact h
  | .str _, b, h => by cases b <;> simp [D.beq] at h ⊢; exact h
  | .tup xs, b, h => by
    cases b <;> simp [D.beq] at h ⊢
    exact D.eq_of_beqs h
  | .ref _, b, h => by cases b <;> simp [D.beq] at h ⊢; exact h
  | .con _, b, h => by cases b <;> simp [D.beq] at h ⊢; exact h
  | .fls xs, b, h => by
    cases b <;> simp [D.beq] at h ⊢
    exact D.eq_of_beqs h
theorem D.eq_of_beqs : ∀ {a b : List D}, D.beqs a b = true → a = b
  | [], b, h => by cases b <;> simp [D.beqs] at h ⊢
  | x :: xs, b, h => by
    cases b <;> simp [D.beqs] at h ⊢
    exact ⟨D.eq_of_beq h.1, D.eq_of_beqs h.2⟩
end
mutual
theorem D.beq_self : ∀ (a : D), D.beq a a = true
  | .non => by simp [D.beq]
  | .bl _ => by simp [D.beq]
  | .int _ => by simp [D.beq]
  | .str _ => by simp [D.beq]
  | .tup xs => by simp [D.beq, D.beqs_self xs]
  | .ref _ => by simp [D.beq]
  | .con _ => by simp [D.beq]
  | .fls xs => by simp [D.beq, D.beqs_self xs]
theorem D.beqs_self : ∀ (a : List D), D.beqs a a = true
  | [] => by simp [D.beqs]
  | x :: xs => by simp [D.beqs, D.beq_self x, D.beqs_self xs]
end
/-- the list at l is xs -/
def isLst (l : Nat) (xs : List D) (h : AH) : Bool := match h[l]? with
  | some (.lst ys) => D.beqs ys xs
  | _ => false
theorem isLst_of {l : Nat} {xs : List D} {h : AH} (e : isLst l xs h = true) : h[l]? = some (.lst xs) := by
  unfold isLst at e
  split at e
  · rename_i ys q
    rw [q, D.eq_of_beqs e]
  · cases e
theorem isLst_mk {l : Nat} {xs : List D} {h : AH} (e : h[l]? = some (.lst xs)) : isLst l xs h = true := by
  unfold isLst
  rw [e]
  exact D.beqs_self xs
def seqIt (d : D) (h : AH) : Option (List D × (AH → Bool)) := match d with
  | .tup xs => some (xs, fun _ => true)
  | .ref l => match h[l]? with
    | some (.lst xs) => some (xs, isLst l xs)
    | _ => none
  | _ => none
def tupIt (d : D) (_ : AH) : Option (List D × (AH → Bool)) := match d with
  | .tup xs => some (xs, fun _ => true)
  | _ => none
def lstIt (d : D) (h : AH) : Option (List D × (AH → Bool)) := match d with
  | .ref l => match h[l]? with
    | some (.lst xs) => some (xs, isLst l xs)
    | _ => none
  | _ => none
/-- the signs of a text -/
def signs (x : Str) : List D := x.cps.toList.map fun c => .str ⟨#[c]⟩
def strIt (d : D) (_ : AH) : Option (List D × (AH → Bool)) := match d with
  | .str x => some (signs x, fun _ => true)
  | _ => none
/-- lo, lo + 1, .. n of them -/
def rngL (lo : Int) (n : Nat) : List D := (List.range n).map fun (k : Nat) => .int (lo + (k : Int))
def rngIt1 (d : D) (_ : AH) : Option (List D × (AH → Bool)) := match d with
  | .int j => if -(2 ^ 62) ≤ j ∧ j < 2 ^ 62 then some (rngL 0 j.toNat, fun _ => true) else none
  | _ => none
def rngIt2 (d : D) (_ : AH) : Option (List D × (AH → Bool)) := match d with
  | .tup [.int i, .int j] => if -(2 ^ 62) ≤ i ∧ i < 2 ^ 62 ∧ -(2 ^ 62) ≤ j ∧ j < 2 ^ 62 then some (rngL i (j - i).toNat, fun _ => true) else none
  | _ => none
theorem rngL_get {lo : Int} {n i : Nat} {d : D} (h : (rngL lo n)[i]? = some d) : i < n ∧ d = .int (lo + (i : Int)) := by
  unfold rngL at h
  rw [List.getElem?_map] at h
  cases e : (List.range n)[i]? with
  | none => rw [e] at h; cases h
  | some k =>
    rw [e] at h
    have hi := (List.getElem?_eq_some_iff.mp e).1
    rw [List.length_range] at hi
    rw [List.getElem?_range hi] at e
    cases e
    exact ⟨hi, (Option.some.inj h).symm⟩
theorem rngL_length {lo : Int} {n : Nat} : (rngL lo n).length = n := by simp [rngL]
section
variable {X : Cx} {g : G} {W : WX} {a b c e : Expr} {ma mb mc : EM} {pos : Pos} {σ : St} {H H' : Hp} {Q : VK} {Dn : Ends} {α α' : List Addr} {o : SO} {τ : SL} {sa sb : SM} {st : Stmt} {rest : List Stmt} {body : List Stmt} {tg : Expr} {t : TG} {f : TM}
theorem den_rng {lo : Int} : ∀ (n : Nat), ∃ vs, DenL g α H (rngL lo n) vs := fun n => by
  unfold rngL
  generalize List.range n = l
  induction l with
  | nil => exact ⟨[], .nil⟩
  | cons k l ih => obtain ⟨vs, h⟩ := ih; exact ⟨.int (lo + (k : Int)) :: vs, .cons (.int _) h⟩
theorem den_signs {x : Str} : ∃ vs, DenL g α H (signs x) vs := by
  unfold signs
  generalize x.cps.toList = l
  induction l with
  | nil => exact ⟨[], .nil⟩
  | cons k l ih => obtain ⟨vs, h⟩ := ih; exact ⟨.str ⟨#[k]⟩ :: vs, .cons (.str _) h⟩
/-- a value, or the values of some arguments -/
def DenW (g : G) (α : List Addr) (H : Hp) (d : D) : Prop := (∃ v, Den g α H d v) ∨ ∃ ds vs, d = .tup ds ∧ DenL g α H ds vs
/-- a walk J over the values ds while live holds -/
def WalkOf (g : G) (α1 : List Addr) (H1 : Hp) (ds : List D) (live : AH → Bool) (J : It) : Prop :=
  (∀ α' H' h', Ext α1 H1 α' H' → Rep g α' h' H' → live h' = true → ∀ i, ds.length ≤ i → J.stop i H') ∧
  (∀ α' H' h', Ext α1 H1 α' H' → Rep g α' h' H' → live h' = true → ∀ (i : Nat) (d : D), ds[i]? = some d → J.go i H') ∧
  (∀ α' H' h' x H2, Ext α1 H1 α' H' → Rep g α' h' H' → live h' = true → ∀ (i : Nat) (d : D), ds[i]? = some d → J.yld i H' x H2 → Ext α' H' α' H2 ∧ Rep g α' h' H2 ∧ Den g α' H2 d x)
def PostI (g : G) (W : WX) (items : D → AH → Option (List D × (AH → Bool))) (α : List Addr) (H : Hp) (σ : St) (R : It → Hp → Prop) : EO → Prop
  | .ok d h' => ∀ α' H', Ext α H α' H' → Rep g α' h' H' → DenW g α' H' d → ∃ ds live, items d h' = some (ds, live) ∧ ∀ J, WalkOf g α' H' ds live J → R J H'
  | .exc c h' => ∀ α' H', Ext α H α' H' → Rep g α' h' H' → W (.ref (g.cl c)) none σ H'
  | .bad => False
/-- an iterable's reading comes to its values and to a walk over them -/
def IterOk (g : G) (W : WX) (wi : TI) (ma : EM) (items : D → AH → Option (List D × (AH → Bool))) : Prop :=
  ∀ σ H R, (∃ α h τ, Rep g α h H ∧ DenS g α H τ σ ∧ PostI g W items α H σ R (ma τ h)) → wi σ H R
theorem ds_for {iter : Expr} {wi : TI} {items : D → AH → Option (List D × (AH → Bool))} (io : IterOk g W wi ma items) (hi : PI X tg iter wi) (hp : PassesOwn (model X.prog X.w) X.A X.env X.xe) (hc : X.calm = true) (hg : PG X tg t) (rg : RG g W t f) (gf : Goes f) (hb : PSs X body (tS g W sb))
    (hs : ∀ x, foldedSetIterable iter X.env x = pure x := by intro _; rfl) : PS X (.For tg iter body [] pos) (tS g W (forM ma items f sb)) := by
  refine PS.imp (ps_for hp hc hi hg hb hs) fun Dn σ H p => ?_
  refine io σ H _ ?_
  obtain ⟨α, h, τ, R, s, p⟩ := p
  refine ⟨α, h, τ, R, s, ?_⟩
  unfold forM at p
  cases e : ma τ h with
  | ok d h1 =>
    rw [e] at p
    intro α1 H1 E1 R1 _
    have p1 := PostS.mono p E1
    simp only [EO.toS] at p1
    split at p1
    · rename_i ds live hit
      exact ⟨ds, live, hit, fun J w => loop_core rg gf R1 (s.ext E1) p1 w.1 w.2.1 w.2.2⟩
    · exact p1.elim
  | exc c h1 =>
    rw [e] at p
    exact fun α1 H1 E1 R1 => p α1 H1 σ E1 R1 (s.ext E1)
  | bad => rw [e] at p; exact p
theorem PostI.toE {items : D → AH → Option (List D × (AH → Bool))} {R : It → Hp → Prop} {o : EO} (q : PostI g W items α H σ R o) :
    PostE g W α H σ (fun v H1 => ∃ α1 d h1, Ext α H α1 H1 ∧ Rep g α1 h1 H1 ∧ Den g α1 H1 d v ∧ ∃ ds live, items d h1 = some (ds, live) ∧ ∀ J, WalkOf g α1 H1 ds live J → R J H1) o := by
  cases o with
  | ok d h => exact fun α1 H1 v E1 R1 D1 => ⟨α1, d, h, E1, R1, D1, q α1 H1 E1 R1 (.inl ⟨v, D1⟩)⟩
  | exc c h => exact q
  | bad => exact q
theorem it_tup {K : PySem.W.Frag} (hK : g.K = K) : IterOk g W (iTup K (tE g W ma)) ma tupIt := by
  rintro σ H R ⟨α, h, τ, R1, s, p⟩
  refine ⟨α, h, τ, R1, s, PostE.imp (PostI.toE p) ?_⟩
  rintro v H1 ⟨α1, d, h1, E1, R2, D1, ds, live, hit, k⟩
  cases D1 <;> simp only [tupIt, reduceCtorEq] at hit
  rename_i a ds' vs hs' hl
  cases hit
  refine ⟨a, rfl, ⟨vs, by rw [← hK]; exact hs'⟩, k _ ⟨fun α' H' h' E r l i hi => ⟨vs, by rw [← hK]; exact E.sqT hs', by rw [← hl.length]; exact hi⟩, fun α' H' h' E r l i d hd => ?_, fun α' H' h' x H2 E r l i d hd hy => ?_⟩⟩
  · obtain ⟨v, q1, q2⟩ := hl.get hd
    exact ⟨vs, v, by rw [← hK]; exact E.sqT hs', q1⟩
  · obtain ⟨rfl, q⟩ := hy
    obtain ⟨v, q1, q2⟩ := hl.get hd
    have := q vs (by rw [← hK]; exact E.sqT hs')
    rw [q1] at this
    cases this
    exact ⟨.refl, r, Den.ext E _ _ q2⟩
theorem it_lst {K : PySem.W.Frag} (hK : g.K = K) : IterOk g W (iList K (tE g W ma)) ma lstIt := by
  rintro σ H R ⟨α, h, τ, R1, s, p⟩
  refine ⟨α, h, τ, R1, s, PostE.imp (PostI.toE p) ?_⟩
  rintro v H1 ⟨α1, d, h1, E1, R2, D1, ds, live, hit, k⟩
  cases D1 <;> simp only [lstIt, reduceCtorEq] at hit
  rename_i l a hl
  split at hit
  · rename_i xs hx
    cases hit
    obtain ⟨vs, a1, a2⟩ := R2.ob _ _ _ hx hl
    have at_ : ∀ {α' : List Addr} {H' : Hp} {h' : AH}, Ext α1 H1 α' H' → Rep g α' h' H' → isLst l ds h' = true → ∃ vs', H' a = some (.lst vs') ∧ DenL g α' H' ds vs' := fun {α' H' h'} E r lv => r.ob _ _ _ (isLst_of lv) (E.pre _ _ hl)
    refine ⟨a, rfl, ⟨vs, SqL.of a1⟩, k _ ⟨fun α' H' h' E r lv i hi => ?_, fun α' H' h' E r lv i d hd => ?_, fun α' H' h' x H2 E r lv i d hd hy => ?_⟩⟩
    · obtain ⟨vs', b1, b2⟩ := at_ E r lv
      exact ⟨vs', SqL.of b1, by rw [← b2.length]; exact hi⟩
    · obtain ⟨vs', b1, b2⟩ := at_ E r lv
      obtain ⟨v, q1, q2⟩ := b2.get hd
      exact ⟨vs', v, SqL.of b1, q1⟩
    · obtain ⟨vs', b1, b2⟩ := at_ E r lv
      obtain ⟨rfl, q⟩ := hy
      obtain ⟨v, q1, q2⟩ := b2.get hd
      have := q vs' (SqL.of b1)
      rw [q1] at this
      cases this
      exact ⟨.refl, r, q2⟩
  · cases hit
theorem it_str : IterOk g W (iStr (tE g W ma)) ma strIt := by
  rintro σ H R ⟨α, h, τ, R1, s, p⟩
  refine ⟨α, h, τ, R1, s, PostE.imp (PostI.toE p) ?_⟩
  rintro v H1 ⟨α1, d, h1, E1, R2, D1, ds, live, hit, k⟩
  cases D1 <;> simp only [strIt, reduceCtorEq] at hit
  rename_i x
  cases hit
  have sz : (signs x).length = x.cps.size := by simp [signs]
  refine ⟨x, rfl, k _ ⟨fun α' H' h' E r lv i hi => by rw [sz] at hi; exact hi, fun α' H' h' E r lv i d hd => ?_, fun α' H' h' y H2 E r lv i d hd hy => ?_⟩⟩
  · have := (List.getElem?_eq_some_iff.mp hd).1
    rw [sz] at this
    exact this
  · obtain ⟨rfl, c, hc, rfl⟩ := hy
    unfold signs at hd
    rw [List.getElem?_map, Array.getElem?_toList, hc] at hd
    cases hd
    exact ⟨.refl, r, .str _⟩
theorem walk_rng {lo : Int} {n : Nat} : WalkOf g α H (rngL lo n) (fun _ => true) (Itr lo n) :=
  ⟨fun α' H' h' E r lv i hi => by rw [rngL_length] at hi; exact hi, fun α' H' h' E r lv i d hd => (rngL_get hd).1, fun α' H' h' y H2 E r lv i d hd hy => by
    obtain ⟨rfl, rfl⟩ := hy
    obtain ⟨_, rfl⟩ := rngL_get hd
    exact ⟨.refl, r, .int _⟩⟩
theorem it_rng1 : IterOk g W (iRng1 (tCons (tE g W ma) tNil)) ma rngIt1 := by
  rintro σ H R ⟨α, h, τ, R1, s, p⟩
  refine ⟨α, h, τ, R1, s, PostE.imp (PostI.toE p) ?_⟩
  rintro v H1 ⟨α1, d, h1, E1, R2, D1, ds, live, hit, k⟩
  cases D1 <;> simp only [rngIt1, reduceCtorEq] at hit
  rename_i j
  split at hit
  · rename_i hj
    cases hit
    exact ⟨j, rfl, hj.1, hj.2, k _ walk_rng⟩
  · cases hit
/-- two arguments, told as a pair that is nowhere -/
def pairM (a b : EM) : EM := fun τ h => (a τ h).bind fun x h1 => (b τ h1).bind fun y h2 => .ok (.tup [x, y]) h2
theorem PostI.pair {items : D → AH → Option (List D × (AH → Bool))} {R : It → Hp → Prop} {h : AH} (R1 : Rep g α h H) (s : DenS g α H τ σ) (q : PostI g W items α H σ R (pairM ma mb τ h)) :
    tCons (tE g W ma) (tCons (tE g W mb) tNil) σ H fun vs H1 => ∃ α1 d e x y h1, vs = [x, y] ∧ Ext α H α1 H1 ∧ Rep g α1 h1 H1 ∧ Den g α1 H1 d x ∧ Den g α1 H1 e y ∧ ∃ ds live, items (.tup [d, e]) h1 = some (ds, live) ∧ ∀ J, WalkOf g α1 H1 ds live J → R J H1 := by
  refine ⟨α, h, τ, R1, s, ?_⟩
  unfold pairM at q
  cases e1 : ma τ h with
  | ok d h1 =>
    rw [e1] at q
    intro α1 H1 x E1 R2 D1
    refine ⟨α1, h1, τ, R2, s.ext E1, ?_⟩
    simp only [EO.bind] at q
    cases e2 : mb τ h1 with
    | ok e h2 =>
      rw [e2] at q
      intro α2 H2 y E2 R3 D2
      have D1' := Den.ext E2 _ _ D1
      exact ⟨α2, d, e, x, y, h2, rfl, E1.trans E2, R3, D1', D2, q α2 H2 (E1.trans E2) R3 (.inr ⟨_, _, rfl, .cons D1' (.cons D2 .nil)⟩)⟩
    | exc c h2 => rw [e2] at q; exact fun α2 H2 E2 R3 => q α2 H2 (E1.trans E2) R3
    | bad => rw [e2] at q; exact q
  | exc c h1 => rw [e1] at q; exact q
  | bad => rw [e1] at q; exact q
theorem it_rng2 : IterOk g W (iRng2 (tCons (tE g W ma) (tCons (tE g W mb) tNil))) (pairM ma mb) rngIt2 := by
  rintro σ H R ⟨α, h, τ, R1, s, p⟩
  obtain ⟨α', h', τ', a1, a2, a3⟩ := PostI.pair R1 s p
  refine ⟨α', h', τ', a1, a2, PostE.imp a3 ?_⟩
  rintro x H1 ⟨α2, h2, τ2, b1, b2, b3⟩
  refine ⟨α2, h2, τ2, b1, b2, PostE.imp b3 ?_⟩
  rintro y H2 ⟨α1, d, e, x', y', h1, ev, E1, R2, D1, D2, ds, live, hit, k⟩
  cases ev
  cases D1 <;> simp only [rngIt2, reduceCtorEq] at hit
  cases D2 <;> simp only [reduceCtorEq] at hit
  rename_i i j
  split at hit
  · rename_i hj
    cases hit
    exact ⟨i, j, rfl, hj, k _ walk_rng⟩
  · cases hit
/-- zip of two lists, of two tuples -/
def zipL : List D → List D → List D
  | x :: xs, y :: ys => .tup [x, y] :: zipL xs ys
  | _, _ => []
def zipIt (d : D) (h : AH) : Option (List D × (AH → Bool)) := match d with
  | .tup [.tup xs, .tup ys] => some (zipL xs ys, fun _ => true)
  | .tup [.ref i, .ref j] => match h[i]?, h[j]? with
    | some (.lst xs), some (.lst ys) => some (zipL xs ys, fun h => isLst i xs h && isLst j ys h)
    | _, _ => none
  | _ => none
theorem zipL_get : ∀ {xs ys : List D} {i : Nat} {d : D}, (zipL xs ys)[i]? = some d → ∃ x y, xs[i]? = some x ∧ ys[i]? = some y ∧ d = .tup [x, y]
  | [], _, _, _, h => by simp [zipL] at h
  | _ :: _, [], _, _, h => by simp [zipL] at h
  | x :: xs, y :: ys, 0, _, h => by simp [zipL] at h; exact ⟨x, y, rfl, rfl, h.symm⟩
  | x :: xs, y :: ys, i + 1, _, h => by
    obtain ⟨a, b, h1, h2, h3⟩ := zipL_get (xs := xs) (ys := ys) (i := i) (by simpa [zipL] using h)
    exact ⟨a, b, by simpa using h1, by simpa using h2, h3⟩
theorem zipL_length : ∀ (xs ys : List D), (zipL xs ys).length = min xs.length ys.length
  | [], ys => by simp [zipL]
  | _ :: _, [] => by simp [zipL]
  | x :: xs, y :: ys => by simp [zipL, zipL_length xs ys]
theorem it_zip {K : PySem.W.Frag} (hK : g.K = K) : IterOk g W (RZ.iZipA K (tCons (tE g W ma) (tCons (tE g W mb) tNil))) (pairM ma mb) zipIt := by
  rintro σ H R ⟨α, h, τ, R1, s, p⟩
  obtain ⟨α', h', τ', a1, a2, a3⟩ := PostI.pair R1 s p
  refine ⟨α', h', τ', a1, a2, PostE.imp a3 ?_⟩
  rintro x H1 ⟨α2, h2, τ2, b1, b2, b3⟩
  refine ⟨α2, h2, τ2, b1, b2, PostE.imp b3 ?_⟩
  rintro y H2 ⟨α1, d, e, x', y', h1, ev, E1, R2, D1, D2, ds, live, hit, k⟩
  cases ev
  cases D1 <;> simp only [zipIt, reduceCtorEq] at hit
  · cases D2 <;> simp only [reduceCtorEq] at hit
    rename_i a xs vs hs hl b ys ws hs2 hl2
    cases hit
    refine ⟨a, b, vs, ws, rfl, .inr ⟨by rw [← hK]; exact hs, by rw [← hK]; exact hs2, k _ ⟨fun α' H' h' E r lv i hi => ?_, fun α' H' h' E r lv i d hd => ?_, fun α' H' h' z H2 E r lv i d hd hy => ?_⟩⟩⟩
    · rw [zipL_length, hl.length, hl2.length] at hi
      exact ⟨vs, ws, by rw [← hK]; exact E.sqT hs, by rw [← hK]; exact E.sqT hs2, by omega⟩
    · obtain ⟨x, y, q1, q2, rfl⟩ := zipL_get hd
      obtain ⟨v, r1, r2⟩ := hl.get q1
      obtain ⟨w, r3, r4⟩ := hl2.get q2
      exact ⟨vs, ws, v, w, by rw [← hK]; exact E.sqT hs, by rw [← hK]; exact E.sqT hs2, r1, r3⟩
    · obtain ⟨x, y, q1, q2, rfl⟩ := zipL_get hd
      obtain ⟨v, r1, r2⟩ := hl.get q1
      obtain ⟨w, r3, r4⟩ := hl2.get q2
      obtain ⟨T, v', w', rfl, hT, rfl, k1, k2⟩ := hy
      have e1 := k1 vs (by rw [← hK]; exact E.sqT hs)
      have e2 := k2 ws (by rw [← hK]; exact E.sqT hs2)
      rw [r1] at e1
      rw [r3] at e2
      cases e1
      cases e2
      exact ⟨Ext.new hT, r.new hT, .tup (SqT.of upd_same) (.cons (Den.ext (E.trans (Ext.new hT)) _ _ r2) (.cons (Den.ext (E.trans (Ext.new hT)) _ _ r4) .nil))⟩
  · cases D2 <;> simp only [reduceCtorEq] at hit
    rename_i i a hl j b hl2
    split at hit
    · rename_i xs ys hx hy
      cases hit
      obtain ⟨vs, c1, c2⟩ := R2.ob _ _ _ hx hl
      obtain ⟨ws, c3, c4⟩ := R2.ob _ _ _ hy hl2
      have at_ : ∀ {α' : List Addr} {H' : Hp} {h' : AH}, Ext α1 H2 α' H' → Rep g α' h' H' → (isLst i xs h' && isLst j ys h') = true → (∃ vs', H' a = some (.lst vs') ∧ DenL g α' H' xs vs') ∧ ∃ ws', H' b = some (.lst ws') ∧ DenL g α' H' ys ws' := fun {α' H' h'} E r lv => by
        rw [Bool.and_eq_true] at lv
        exact ⟨r.ob _ _ _ (isLst_of lv.1) (E.pre _ _ hl), r.ob _ _ _ (isLst_of lv.2) (E.pre _ _ hl2)⟩
      refine ⟨a, b, vs, ws, rfl, .inl ⟨SqL.of c1, SqL.of c3, k _ ⟨fun α' H' h' E r lv n hn => ?_, fun α' H' h' E r lv n d hd => ?_, fun α' H' h' z H2 E r lv n d hd hy => ?_⟩⟩⟩
      · obtain ⟨⟨vs', d1, d2⟩, ws', d3, d4⟩ := at_ E r lv
        rw [zipL_length, d2.length, d4.length] at hn
        exact ⟨vs', ws', SqL.of d1, SqL.of d3, by omega⟩
      · obtain ⟨⟨vs', d1, d2⟩, ws', d3, d4⟩ := at_ E r lv
        obtain ⟨x, y, q1, q2, rfl⟩ := zipL_get hd
        obtain ⟨v, r1, r2⟩ := d2.get q1
        obtain ⟨w, r3, r4⟩ := d4.get q2
        exact ⟨vs', ws', v, w, SqL.of d1, SqL.of d3, r1, r3⟩
      · obtain ⟨⟨vs', d1, d2⟩, ws', d3, d4⟩ := at_ E r lv
        obtain ⟨x, y, q1, q2, rfl⟩ := zipL_get hd
        obtain ⟨v, r1, r2⟩ := d2.get q1
        obtain ⟨w, r3, r4⟩ := d4.get q2
        obtain ⟨T, v', w', rfl, hT, rfl, k1, k2⟩ := hy
        have e1 := k1 vs' (SqL.of d1)
        have e2 := k2 ws' (SqL.of d3)
        rw [r1] at e1
        rw [r3] at e2
        cases e1
        cases e2
        exact ⟨Ext.new hT, r.new hT, .tup (SqT.of upd_same) (.cons (Den.ext (Ext.new hT) _ _ r2) (.cons (Den.ext (Ext.new hT) _ _ r4) .nil))⟩
    · cases hit
/-- enumerate of a list, from 0 on -/
def enumL (xs : List D) : List D := (List.range xs.length).zipWith (fun i x => .tup [.int (i : Nat), x]) xs
def enumIt (d : D) (h : AH) : Option (List D × (AH → Bool)) := match d with
  | .ref l => match h[l]? with
    | some (.lst xs) => some (enumL xs, isLst l xs)
    | _ => none
  | _ => none
theorem enumL_get {xs : List D} {i : Nat} {d : D} (h : (enumL xs)[i]? = some d) : ∃ x, xs[i]? = some x ∧ d = .tup [.int (i : Nat), x] := by
  unfold enumL at h
  rw [List.getElem?_zipWith] at h
  cases e1 : xs[i]? with
  | none => rw [e1] at h; cases h2 : (List.range xs.length)[i]? <;> rw [h2] at h <;> cases h
  | some x =>
    have hi := (List.getElem?_eq_some_iff.mp e1).1
    rw [e1, List.getElem?_range hi] at h
    cases h
    exact ⟨x, rfl, rfl⟩
theorem enumL_length (xs : List D) : (enumL xs).length = xs.length := by simp [enumL]
theorem it_enum {K : PySem.W.Frag} : IterOk g W (iEnum K (tCons (tE g W ma) tNil)) ma enumIt := by
  rintro σ H R ⟨α, h, τ, R1, s, p⟩
  refine ⟨α, h, τ, R1, s, PostE.imp (PostI.toE p) ?_⟩
  rintro v H1 ⟨α1, d, h1, E1, R2, D1, ds, live, hit, k⟩
  cases D1 <;> simp only [enumIt, reduceCtorEq] at hit
  rename_i l a hl
  split at hit
  · rename_i xs hx
    cases hit
    obtain ⟨vs, a1, a2⟩ := R2.ob _ _ _ hx hl
    have at_ : ∀ {α' : List Addr} {H' : Hp} {h' : AH}, Ext α1 H1 α' H' → Rep g α' h' H' → isLst l xs h' = true → ∃ vs', H' a = some (.lst vs') ∧ DenL g α' H' xs vs' := fun {α' H' h'} E r lv => r.ob _ _ _ (isLst_of lv) (E.pre _ _ hl)
    refine ⟨a, vs, rfl, SqL.of a1, k _ ⟨fun α' H' h' E r lv i hi => ?_, fun α' H' h' E r lv i d hd => ?_, fun α' H' h' x H2 E r lv i d hd hy => ?_⟩⟩
    · obtain ⟨vs', b1, b2⟩ := at_ E r lv
      rw [enumL_length] at hi
      exact ⟨vs', SqL.of b1, by rw [← b2.length]; exact hi⟩
    · obtain ⟨vs', b1, b2⟩ := at_ E r lv
      obtain ⟨x, q0, rfl⟩ := enumL_get hd
      obtain ⟨v, q1, q2⟩ := b2.get q0
      exact ⟨vs', v, SqL.of b1, q1⟩
    · obtain ⟨vs', b1, b2⟩ := at_ E r lv
      obtain ⟨x, q0, rfl⟩ := enumL_get hd
      obtain ⟨v, q1, q2⟩ := b2.get q0
      obtain ⟨T, w, rfl, hT, rfl, k1⟩ := hy
      have := k1 vs' (SqL.of b1)
      rw [q1] at this
      cases this
      exact ⟨Ext.new hT, r.new hT, .tup (SqT.of upd_same) (.cons (.int _) (.cons (Den.ext (Ext.new hT) _ _ q2) .nil))⟩
  · cases hit

/-! ### attributes -/
def fldM (f : Str) (cs : List Nat) (d : D) (h : AH) : EO := match d with
  | .ref l => match h[l]? with
    | some (.ins c fs) => if c ∈ cs then match fs.lookup f with
      | some v => .ok v h
      | none => .bad else .bad
    | _ => .bad
  | _ => .bad
theorem lookup_den {ws : List (Str × V)} : ∀ {fs : List (Str × D)} {ws : List (Str × V)} {x : Str} {d : D}, ws.map (·.1) = fs.map (·.1) → DenL g α H (fs.map (·.2)) (ws.map (·.2)) → fs.lookup x = some d → ∃ v, ws.lookup x = some v ∧ Den g α H d v
  | [], _, _, _, _, _, q => by simp at q
  | (n, d0) :: fs, [], _, _, e, _, _ => by simp at e
  | (n, d0) :: fs, (m, v0) :: ws, x, d, e, hl, q => by
    simp only [List.map_cons, List.cons.injEq] at e hl
    obtain ⟨rfl, e⟩ := e
    cases hl with
    | cons h1 h2 =>
      rw [List.lookup_cons] at q ⊢
      cases hb : x == m with
      | true => rw [hb] at q; cases q; exact ⟨v0, rfl, h1⟩
      | false => rw [hb] at q; exact lookup_den (ws := ws) e h2 q
theorem de_fld {fl : Str} {cs : List Nat} (hK : g.K = X.K) (hc : ∀ c ∈ cs, Cls X.K (g.cl c) ∧ NoAttr X.K (g.cl c) fl) (he : PE X e (tE g W ma)) (hb : attributeBase e fl X.env (eval e X.env) = eval e X.env := by rfl) : PE X (.Attribute e fl pos) (tE g W (unM ma (fldM fl cs))) := by
  refine PE.imp (pe_fld he hb) fun σ H Q p => ?_
  obtain ⟨α, h, τ, R, s, p⟩ := tE_start (f := fldM fl cs) p
  refine ⟨α, h, τ, R, s, PostE.imp p ?_⟩
  rintro v H1 ⟨α1, d, h1, τ1, R1, s1, D1, p1⟩
  cases D1 <;> try exact False.elim p1
  rename_i l a hl
  simp only [fldM] at p1
  split at p1
  · rename_i c fs hx
    split at p1
    · rename_i hm
      split at p1
      · rename_i v hv
        obtain ⟨dx, ws, b1, b2, b3⟩ := R1.ob _ _ _ hx hl
        obtain ⟨w, q1, q2⟩ := lookup_den (ws := ws) b2 b3 hv
        exact ⟨a, _, dx, ws, w, rfl, b1, (hc c hm).1, (hc c hm).2, q1, p1 α1 H1 w .refl R1 q2⟩
      · exact p1.elim
    · exact p1.elim
  · exact p1.elim
/-- a field is set -/
def putD (f : Str) (v : D) : List (Str × D) → List (Str × D)
  | [] => [(f, v)]
  | (k, w) :: r => if k = f then (k, v) :: r else (k, w) :: putD f v r
def fldSetM (f : Str) (cs : List Nat) (o v : EM) : SM := fun τ h => (v τ h).toS τ fun y h1 => (o τ h1).toS τ fun d h2 => match d with
  | .ref l => match h2[l]? with
    | some (.ins c fs) => if c ∈ cs ∧ fs.length < 1000 then .nx τ (h2.set l (.ins c (putD f y fs))) else .bad
    | _ => .bad
  | _ => .bad
theorem putF_den {fl : Str} {y : D} {yv : V} (hy : Den g α H y yv) : ∀ {fs : List (Str × D)} {ws : List (Str × V)}, ws.map (·.1) = fs.map (·.1) → DenL g α H (fs.map (·.2)) (ws.map (·.2)) →
    (putF fl yv ws).map (·.1) = (putD fl y fs).map (·.1) ∧ DenL g α H ((putD fl y fs).map (·.2)) ((putF fl yv ws).map (·.2))
  | [], [], _, _ => ⟨rfl, .cons hy .nil⟩
  | [], _ :: _, e, _ => by simp at e
  | _ :: _, [], e, _ => by simp at e
  | (n, d0) :: fs, (m, v0) :: ws, e, hl => by
    simp only [List.map_cons, List.cons.injEq] at e
    obtain ⟨rfl, e⟩ := e
    cases hl with
    | cons h1 h2 =>
      unfold putF putD
      by_cases hk : m = fl
      · rw [if_pos hk, if_pos hk]
        exact ⟨by simp [e], .cons hy h2⟩
      · rw [if_neg hk, if_neg hk]
        obtain ⟨q1, q2⟩ := putF_den hy e h2
        exact ⟨by simp [q1], .cons h1 q2⟩
theorem ds_fld {fl : Str} {cs : List Nat} {pos' : Pos} {o value : Expr} {mo mv : EM} (hc : ∀ c ∈ cs, Cls X.K (g.cl c) ∧ NoAttr X.K (g.cl c) fl) (ho : PE X o (tE g W mo)) (hv : PE X value (tE g W mv)) (hs : swapsWith value (some (.Attribute o fl pos')) pos.line X.env = pure false := by rfl) :
    PS X (.Assign [.Attribute o fl pos'] value pos) (tS g W (fldSetM fl cs mo mv)) := by
  refine PS.imp (ps_fld ho hv hs) fun Dn σ H p => ?_
  obtain ⟨α, h, τ, R, s, p⟩ := tS_e (f := fun τ y h1 => (mo τ h1).toS τ fun d h2 => match d with
    | .ref l => match h2[l]? with
      | some (.ins c fs) => if c ∈ cs ∧ fs.length < 1000 then .nx τ (h2.set l (.ins c (putD fl y fs))) else .bad
      | _ => .bad
    | _ => .bad) p
  refine ⟨α, h, τ, R, s, PostE.imp p ?_⟩
  rintro v H1 ⟨α1, y, h1, τ1, R1, s1, D1, p1⟩
  refine ⟨α1, h1, τ1, R1, s1, PostE.imp (PostS.toS p1 s1) ?_⟩
  rintro w H2 ⟨α2, d, h2, E2, R2, D2, s2, p2⟩
  cases D2 <;> try exact False.elim p2
  rename_i l a hl
  simp only at p2
  split at p2
  · rename_i c fs hx
    split at p2
    · rename_i hm
      obtain ⟨dx, ws, b1, b2, b3⟩ := R2.ob _ _ _ hx hl
      have el : ws.length = fs.length := by have := congrArg List.length b2; simpa using this
      refine ⟨a, _, dx, ws, rfl, b1, (hc c hm.1).1, (hc c hm.1).2, by rw [el]; exact hm.2, ?_⟩
      have D1' := Den.ext E2 _ _ D1
      have E3 : Ext α2 H2 α2 (upd H2 a (.ins (g.cl c) dx (putF fl v ws))) := Ext.put b1 True.intro
      obtain ⟨q1, q2⟩ := putF_den (fl := fl) (Den.ext E3 _ _ D1') b2 (DenL.ext E3 _ _ b3)
      obtain ⟨R3, _⟩ := R2.write hl b1 True.intro (u' := .ins (g.cl c) dx (putF fl v ws)) (o := .ins c (putD fl y fs)) ⟨dx, _, upd_same, q1, q2⟩
      exact p2 α2 _ σ E3 R3 (s2.ext E3)
    · exact p2.elim
  · exact p2.elim
end
end DD
end

section
set_option Elab.async false
set_option linter.all false
set_option maxRecDepth 100000
namespace DD
open PySem L2
open PyProof.Rows (b2i)

/-! ### defs -/
def retOf : SO → EO
  | .nx _ h => .ok .non h
  | .rt d h => .ok d h
  | .exc c _ h => .exc c h
  | _ => .bad
def startD (n : Nat) (ds : List D) : SL := ds.map some ++ List.replicate (n - ds.length) none
/-- the promise of a def by a function -/
def spD (g : G) (n : Nat) (c : List D → AH → EO) : Sp := fun vs H Q E => ∃ α h ds, Rep g α h H ∧ DenL g α H ds vs ∧ ds.length = n ∧ PostE g (fun cls d _ H => E cls d H) α H [] Q (c ds h)
/-- a call by a promise: n parameters, the last of them given by the defaults dfl -/
def callF (n : Nat) (dfl : List D) (c : List D → AH → EO) : List D → AH → EO := fun ds h => if (ds ++ dfl).length = n then c (ds ++ dfl) h else .bad
section
variable {X : Cx} {g : G} {W : WX} {a b c e o : Expr} {es : List Expr} {ma mb mc mo : EM} {m : LM} {pos p apos : Pos} {σ : St} {H H' : Hp} {Q : VK} {Dn : Ends} {α α' : List Addr} {τ : SL} {sa sb : SM} {st : Stmt} {rest : List Stmt} {body : List Stmt}
variable {k n : Nat} {f C : Addr} {fd : FuncData} {ps : List Str} {x : Str} {dfl : List D} {dvs : List V} {dus : List Value} {cf : List D → AH → EO}
/-- what a call lets out is as wished -/
def Pas (X : Cx) (W : WX) : Prop := ∀ σ, PassesAt (L2.CX X.prog X.w) X σ (WE W σ)
theorem Pas.of (tk : Takes X W) : Pas X W := fun σ => passAt tk σ
theorem PostE.toSp {o : EO} (q : PostE g W α H σ Q o) : PostE g (fun cls d _ H => WE W σ cls d H) α H [] Q o := by
  cases o with
  | ok d h => exact q
  | exc c h => exact q
  | bad => exact q
theorem de_call (F : FnOk X.prog X.w X.K X.mg X.base (L2.CX X.prog X.w) k f fd ps (spD g n cf)) (tk : Pas X W) (hr : Room k X.A) (hg : Gl X x) (hm : X.mg x = some (.ref f)) (hk : PySem.W.keepIn X.K (.ref f) = true) (hb : Binds X.K fd ps dus) (hd : Vals dvs dus) (hdd : ∀ α H, DenL g α H dfl dvs)
    (ha : PA X (e :: es) (tL g W m)) (hdb : (x == ("__debug__" : Str)) = false := by decide) (he : starEach (e :: es) X.env = (false, eval e X.env) :: starEach es X.env := by rfl) (hpl : (backTo pos (starEach es X.env)).any (·.1) = false := by rfl) :
    PE X (.Call (.Name x p) (e :: es) [] pos) (tE g W (callM m (callF n dfl cf))) := by
  refine PE.imp (pe_callSD F hr hg hm hk hb hd tk ha hdb he hpl) fun σ H Q q => ?_
  obtain ⟨α, h, τ, R, s, q⟩ := q
  refine ⟨α, h, τ, R, s, PostL.imp (PostL.bindE q) ?_⟩
  rintro vs H1 ⟨α1, ds, h1, E1, R1, D1, p1⟩
  unfold callF at p1
  split at p1
  · rename_i hn
    exact ⟨α1, h1, ds ++ dfl, R1, D1.append (hdd α1 H1), hn, PostE.toSp p1⟩
  · exact p1.elim
/-- f() -/
theorem de_call0 (F : FnOk X.prog X.w X.K X.mg X.base (L2.CX X.prog X.w) k f fd ps (spD g n cf)) (tk : Pas X W) (hr : Room k X.A) (hg : Gl X x) (hm : X.mg x = some (.ref f)) (hk : PySem.W.keepIn X.K (.ref f) = true) (hb : Binds X.K fd ps dus) (hd : Vals dvs dus) (hdd : ∀ α H, DenL g α H dfl dvs)
    (hdb : (x == ("__debug__" : Str)) = false := by decide) : PE X (.Call (.Name x p) [] [] pos) (tE g W (callM nilM (callF n dfl cf))) := by
  refine ⟨fun pins s σ H Q I q => ?_⟩
  obtain ⟨α, h, τ, R, s', q⟩ := q
  refine wpAny_Call_Name_kw (ld_glob I hg hm ?_ hdb)
  have q' : PostE g W α H σ Q (callF n dfl cf [] h) := q
  unfold callF at q'
  split at q'
  · rename_i hn
    exact PySem.W.callWith_K0 I.kIn hk (run_fnSD (us := []) (vs := []) F hr hb hd (tk σ) I .nil ⟨α, h, dfl, R, by simpa using hdd α H, by simpa using hn, PostE.toSp (by simpa using q')⟩)
  · exact q'.elim
/-- o.m(..): the class by its number -/
def methF (m : Str) (c : Nat) (n : Nat) (dfl : List D) (cf : List D → AH → EO) (mo : EM) (m' : LM) : EM := fun τ h => (mo τ h).bind fun d h1 => match d with
  | .ref l => match h1[l]? with
    | some (.ins c' fs) => if c' = c ∧ fs.lookup m = none then (m' τ h1).bindE fun ds h2 => callF n dfl cf (d :: ds) h2 else .bad
    | _ => .bad
  | _ => .bad
theorem lookup_none_den : ∀ {fs : List (Str × D)} {ws : List (Str × V)} {x : Str}, ws.map (·.1) = fs.map (·.1) → fs.lookup x = none → ws.lookup x = none
  | [], [], _, _, _ => rfl
  | [], _ :: _, _, e, _ => by simp at e
  | _ :: _, [], _, e, _ => by simp at e
  | (n, d0) :: fs, (m, v0) :: ws, x, e, q => by
    simp only [List.map_cons, List.cons.injEq] at e
    obtain ⟨rfl, e⟩ := e
    rw [List.lookup_cons] at q ⊢
    cases hb : x == m with
    | true => rw [hb] at q; cases q
    | false => rw [hb] at q; exact lookup_none_den e q
theorem de_meth {mn : Str} {ci : Nat} {pl : Sem Bool} (ho : PE X o (tE g W mo)) (hcl : Cls X.K (g.cl ci)) (hm : Meth X.K (g.cl ci) mn f) (F : FnOk X.prog X.w X.K X.mg X.base (L2.CX X.prog X.w) k f fd ps (spD g n cf)) (tk : Pas X W) (hr : Room k X.A) (hb : Binds X.K fd ps dus) (hd : Vals dvs dus) (hdd : ∀ α H, DenL g α H dfl dvs) (ha : PA X (e :: es) (tL g W m))
    (hst : starEach (e :: es) X.env = (false, eval e X.env) :: starEach es X.env := by rfl) (hpl : (backTo pos (starEach es X.env)).any (·.1) = false := by rfl)
    (ht : eval (.Call (.Attribute o mn apos) (e :: es) [] pos) X.env = (do
      let ov ← eval o X.env
      standAt apos.atName
      let (f, first) ← holding [ov] (getMethod ov mn pl)
      callWith pos f first (backTo pos (starEach (e :: es) X.env)) (backToKw pos (keywordEach [] X.env))) := by rfl) :
    PE X (.Call (.Attribute o mn apos) (e :: es) [] pos) (tE g W (methF mn ci n dfl cf mo m)) := by
  refine ⟨fun pins s σ H Q I q => ?_⟩
  obtain ⟨α, h, τ, R, s', q⟩ := q
  refine PySem.W.methodCall_KW (pl := pl) (thn (ho.run pins s σ H _ I ⟨α, h, τ, R, s', PostE.bind q⟩) fun u s1 ⟨v, H1, I1, rx, α1, d, h1, E1, R1, D1, p1⟩ => ?_) ht
  cases D1 <;> try exact False.elim p1
  rename_i l a hl
  simp only at p1
  split at p1
  · rename_i c' fs hx
    split at p1
    · rename_i hc
      obtain ⟨rfl, hno⟩ := hc
      obtain ⟨dx, ws, b1, b2, b3⟩ := R1.ob _ _ _ hx hl
      obtain rfl : u = Value.ref a := rx
      refine getmeth_ok I1 b1 hcl hm (lookup_none_den b2 hno) ?_
      refine PySem.W.callWith_K (first := [.ref a]) (h₀ := X.base) I.ok.mod.kin hm.kp (thn (ha.run pos pins s1 σ H1 _ I1 ⟨α1, h1, τ, R1, s'.ext E1, PostL.bindE p1⟩) fun us s2 ⟨vs, H2, I2, r, α2, ds, h2, E2, R2, D2, p2⟩ => ⟨I2.kIn, ?_⟩) hst hpl
      unfold callF at p2
      split at p2
      · rename_i hn
        exact run_fnSD (us := .ref a :: us) (vs := .ref a :: vs) F hr hb hd (tk σ) I2 (.cons rfl r) ⟨α2, h2, (.ref l :: ds) ++ dfl, R2, (DenL.cons (.ref (E2.pre _ _ hl)) D2).append (hdd α2 H2), hn, PostE.toSp p2⟩
      · exact p2.elim
    · exact p1.elim
  · exact p1.elim
theorem de_meth0 {mn : Str} {ci : Nat} {pl : Sem Bool} (ho : PE X o (tE g W mo)) (hcl : Cls X.K (g.cl ci)) (hm : Meth X.K (g.cl ci) mn f) (F : FnOk X.prog X.w X.K X.mg X.base (L2.CX X.prog X.w) k f fd ps (spD g n cf)) (tk : Pas X W) (hr : Room k X.A) (hb : Binds X.K fd ps dus) (hd : Vals dvs dus) (hdd : ∀ α H, DenL g α H dfl dvs)
    (ht : eval (.Call (.Attribute o mn apos) [] [] pos) X.env = (do
      let ov ← eval o X.env
      standAt apos.atName
      let (f, first) ← holding [ov] (getMethod ov mn pl)
      callWith pos f first (backTo pos (starEach [] X.env)) (backToKw pos (keywordEach [] X.env))) := by rfl) :
    PE X (.Call (.Attribute o mn apos) [] [] pos) (tE g W (methF mn ci n dfl cf mo nilM)) := by
  refine ⟨fun pins s σ H Q I q => ?_⟩
  obtain ⟨α, h, τ, R, s', q⟩ := q
  refine PySem.W.methodCall_KW (pl := pl) (thn (ho.run pins s σ H _ I ⟨α, h, τ, R, s', PostE.bind q⟩) fun u s1 ⟨v, H1, I1, rx, α1, d, h1, E1, R1, D1, p1⟩ => ?_) ht
  cases D1 <;> try exact False.elim p1
  rename_i l a hl
  simp only at p1
  split at p1
  · rename_i c' fs hx
    split at p1
    · rename_i hc
      obtain ⟨rfl, hno⟩ := hc
      obtain ⟨dx, ws, b1, b2, b3⟩ := R1.ob _ _ _ hx hl
      obtain rfl : u = Value.ref a := rx
      refine getmeth_ok I1 b1 hcl hm (lookup_none_den b2 hno) ?_
      have p2 : PostE g W α1 H1 σ Q (callF n dfl cf [.ref l] h1) := p1
      unfold callF at p2
      split at p2
      · rename_i hn
        exact PySem.W.callWith_K0 (first := [.ref a]) I1.kIn hm.kp (run_fnSD (us := [.ref a]) (vs := [.ref a]) F hr hb hd (tk σ) I1 (.cons rfl .nil) ⟨α1, h1, [.ref l] ++ dfl, R1, (DenL.cons (.ref hl) .nil).append (hdd α1 H1), hn, PostE.toSp p2⟩)
      · exact p2.elim
    · exact p1.elim
  · exact p1.elim
/-- C(..) -/
def makeF (c n : Nat) (dfl : List D) (cf : List D → AH → EO) : List D → AH → EO := fun ds h => (callF n dfl cf (.ref h.length :: ds) (h ++ [.ins c []])).bind fun d h' => match d with
  | .non => .ok (.ref h.length) h'
  | _ => .bad
theorem make_core {ci : Nat} {ds : List D} {vs : List V} {us : List Value} {h : AH} {pins : List (Addr × Obj)} {s : Shared} (M : Mk X.K (g.cl ci) f) (F : FnOk X.prog X.w X.K X.mg X.base (L2.CX X.prog X.w) k f fd ps (spD g n cf)) (tk : Pas X W) (hr : Room (k + 1) X.A) (hb : Binds X.K fd ps dus) (hd : Vals dvs dus) (hdd : ∀ α H, DenL g α H dfl dvs)
    (I : L2.Inv X pins σ H s) (r : Vals vs us) (R : Rep g α h H) (D1 : DenL g α H ds vs) (p1 : PostE g W α H σ Q (makeF ci n dfl cf ds h)) : wpAny (model X.prog X.w) X.A (call (.ref (g.cl ci)) us) (EP X pins σ Q) X.xe s := by
  have hq : ∀ x dx, H x = none → H dx = none → dx ≠ x → spD g n cf (.ref x :: (vs ++ dvs)) (upd (upd H dx (.own x)) x (.ins (g.cl ci) dx [])) (fun v H2 => v = .non ∧ Q (.ref x) H2) (WE W σ) := fun x dx hx hdx hne => by
    have R0 := R.new (u := .own x) hdx
    have E0 : L2.Hp := H
    have Ex0 : Ext α H α (upd H dx (.own x)) := Ext.new hdx
    have hx0 : upd H dx (.own x) x = none := by rw [upd_ne (Ne.symm hne)]; exact hx
    obtain ⟨R1, E1⟩ := R0.push hx0 (u := .ins (g.cl ci) dx []) (o := .ins ci []) ⟨dx, [], upd_same, rfl, .nil⟩
    have EE := Ex0.trans E1
    have p2 := PostE.mono p1 EE
    unfold makeF at p2
    have hl : (α ++ [x])[h.length]? = some x := by rw [← R.len]; simp
    have p3 := PostE.bind p2
    unfold callF at p3
    split at p3
    · rename_i hn
      refine ⟨α ++ [x], h ++ [.ins ci []], (.ref h.length :: ds) ++ dfl, R1, (DenL.cons (.ref hl) (DenL.ext EE _ _ D1)).append (hdd _ _), hn, PostE.imp (PostE.toSp p3) ?_⟩
      rintro v H3 ⟨α3, d3, h3, E3, R3, D3, p4⟩
      cases D3 <;> try exact False.elim p4
      exact ⟨rfl, p4 α3 H3 _ .refl R3 (.ref (E3.pre _ _ hl))⟩
    · exact p3.elim
  have hq0 := hq (s.heap.objs.size + 1) s.heap.objs.size (I.hok.fresh (Nat.le_succ _)) (I.hok.fresh (Nat.le_refl _)) (Nat.ne_of_lt (Nat.lt_succ_self _))
  have I2 := Inv.made (C := g.cl ci) I
  have r2 : Vals (V.ref (s.heap.objs.size + 1) :: (vs ++ dvs)) (Value.ref (s.heap.objs.size + 1) :: (us ++ dus)) := .cons rfl (r.append hd)
  have hl : (Value.ref (s.heap.objs.size + 1) :: us ++ dus).length = ps.length := by
    have e := r2.length
    rw [F.len _ _ _ _ hq0] at e
    exact e.symm
  refine wpAny_call (make_map (f := f) I.kIn M.makes M.init (beq_iff_eq.mp M.fn) (codeAny_mono (F.run _ X.stack _ _ ⟨Value.ref (s.heap.objs.size + 1) :: us, []⟩ (Value.ref (s.heap.objs.size + 1) :: (us ++ dus)) _ _ (WE W σ) (hr.make _ us [])
    (I2.env0.make _ us []) (hb _ (Value.ref (s.heap.objs.size + 1) :: us) I2.kIn hl) r2 hq0) fun r s' hq' => ?_))
  cases r with
  | error e => exact tk σ pins _ _ e s' I2 hq'
  | ok fl =>
    cases fl with
    | ret u =>
      obtain ⟨v, H', I3, rv, ev, q3⟩ := I2.after hq'
      subst ev
      exact ⟨rv, ⟨V.ref (s.heap.objs.size + 1), H', I3, rfl, q3⟩⟩
    | next => exact False.elim hq'
    | brk => exact False.elim hq'
    | cont => exact False.elim hq'
theorem de_make {ci : Nat} (M : Mk X.K (g.cl ci) f) (F : FnOk X.prog X.w X.K X.mg X.base (L2.CX X.prog X.w) k f fd ps (spD g n cf)) (tk : Pas X W) (hr : Room (k + 1) X.A) (hg : Gl X x) (hm : X.mg x = some (.ref (g.cl ci))) (hb : Binds X.K fd ps dus) (hd : Vals dvs dus) (hdd : ∀ α H, DenL g α H dfl dvs)
    (ha : PA X (e :: es) (tL g W m)) (hdb : (x == ("__debug__" : Str)) = false := by decide) (he : starEach (e :: es) X.env = (false, eval e X.env) :: starEach es X.env := by rfl) (hpl : (backTo pos (starEach es X.env)).any (·.1) = false := by rfl) :
    PE X (.Call (.Name x p) (e :: es) [] pos) (tE g W (callM m (makeF ci n dfl cf))) := by
  refine ⟨fun pins s σ H Q I q => ?_⟩
  obtain ⟨α, h, τ, R, s', q⟩ := q
  refine wpAny_Call_Name_kw (ld_glob I hg hm ?_ hdb)
  refine PySem.W.callWith_K (h₀ := X.base) I.ok.mod.kin M.kp (thn (ha.run pos pins s σ H _ I ⟨α, h, τ, R, s', PostL.bindE q⟩) fun us s1 ⟨vs, H1, I1, r, α1, ds, h1, E1, R1, D1, p1⟩ => ⟨I1.kIn, ?_⟩) he hpl
  exact make_core M F tk hr hb hd hdd I1 r R1 D1 p1
theorem de_make0 {ci : Nat} (M : Mk X.K (g.cl ci) f) (F : FnOk X.prog X.w X.K X.mg X.base (L2.CX X.prog X.w) k f fd ps (spD g n cf)) (tk : Pas X W) (hr : Room (k + 1) X.A) (hg : Gl X x) (hm : X.mg x = some (.ref (g.cl ci))) (hb : Binds X.K fd ps dus) (hd : Vals dvs dus) (hdd : ∀ α H, DenL g α H dfl dvs)
    (hdb : (x == ("__debug__" : Str)) = false := by decide) : PE X (.Call (.Name x p) [] [] pos) (tE g W (callM nilM (makeF ci n dfl cf))) := by
  refine ⟨fun pins s σ H Q I q => ?_⟩
  obtain ⟨α, h, τ, R, s', q⟩ := q
  refine wpAny_Call_Name_kw (ld_glob I hg hm ?_ hdb)
  exact PySem.W.callWith_K0 I.kIn M.kp (make_core (us := []) (vs := []) (ds := []) M F tk hr hb hd hdd I .nil R .nil q)

theorem den_start {N : List Str} {ds : List D} {vs : List V} (dl : DenL g α H ds vs) : DenS g α H (startD N.length ds) (L2.start N vs) := by
  have el := dl.length
  refine ⟨by simp [startD, L2.start, el], fun i d q => ?_⟩
  unfold startD at q
  unfold L2.start
  by_cases hi : i < ds.length
  · rw [List.getElem?_append_left (by simpa using hi), List.getElem?_map] at q
    rw [List.getElem?_append_left (by simp; omega), List.getElem?_map]
    cases e : ds[i]? with
    | none => rw [e] at q; cases q
    | some d' =>
      rw [e] at q
      cases q
      obtain ⟨v, h1, h2⟩ := dl.get e
      exact ⟨v, by rw [h1]; rfl, h2⟩
  · rw [List.getElem?_append_right (by simp; omega)] at q
    rw [List.getElem?_replicate] at q
    split at q <;> cases q
/-- a def keeps the promise of its own mirror -/
theorem fn_okD {P : Program} {w : World} {K : PySem.W.Frag} {mg : Str → Option Value} {base : Heap} {qual : Str} {st : Stmt} {N : List Str} {m : SM} (F : Fun K x qual st f fd) (S : FnScope N ps (defScope st))
    (hb : ∀ (cdv : Value) (A : Around) (outer : List Env) (s : Shared) (H : Hp) (E : XK), Room k (A.deeper (PyProof.Rows.envOfC qual (defScope st) s.heap.objs.size f cdv)) →
      PSs (cxOf (L2.CX P w) P w K mg base N qual (defScope st) f cdv A outer s H E) (defBody st) (tS g (fun cls d _ H => E cls d H) m)) :
    FnOk P w K mg base (L2.CX P w) (k + 1) f fd ps (spD g ps.length fun ds h => retOf (m (startD N.length ds) h)) := by
  refine F.okX S (fun vs H Q E q => ?_) (fun cdv A outer s H vs Q E hr q => ?_)
  · obtain ⟨α, h, ds, _, dl, hn, _⟩ := q
    rw [← dl.length, hn]
  · obtain ⟨α, h, ds, R, dl, hn, q⟩ := q
    have q : PostE g (fun cls d _ H => E cls d H) α H [] Q (retOf (m (startD N.length ds) h)) := q
    refine ⟨_, hb cdv A outer s H E hr, α, h, startD N.length ds, R, den_start dl, ?_⟩
    cases e : m (startD N.length ds) h with
    | nx τ' h' => rw [e] at q; exact fun α' H' σ' E' R' s' => q α' H' .non E' R' .non
    | rt d h' => rw [e] at q; exact q
    | bk τ' h' => rw [e] at q; exact q.elim
    | ct τ' h' => rw [e] at q; exact q.elim
    | exc c τ' h' => rw [e] at q; exact fun α' H' σ' E' R' s' => q α' H' E' R'
    | bad => rw [e] at q; exact q.elim

/-! ### raise, try -/
theorem ds_raise {t : St → Hp → XK → Prop} {c : Nat} (hc : X.calm = true) (tk : Takes X W) (he : PMk X e t) (ht : ∀ σ H (Q : XK), Q (.ref (g.cl c)) none H → t σ H Q) : PS X (.Raise (some e) none pos) (tS g W (raiseM c)) :=
  PS.imp (ps_raise hc tk he) fun Dn σ H ⟨α, h, τ, R, s, q⟩ => ht σ H _ (q α H σ .refl R s)
/-- which clause takes an exception: each tells yes, no, or nothing -/
def pick : List ((Nat → Option Bool) × SM) → Nat → Option (Option SM)
  | [], _ => some none
  | (mt, s) :: r, c => match mt c with
    | some true => some (some s)
    | some false => pick r c
    | none => none
def tryM (b : SM) (hs : List ((Nat → Option Bool) × SM)) : SM := fun τ h => match b τ h with
  | .exc c τ' h' => match pick hs c with
    | some (some s) => s τ' h'
    | some none => .exc c τ' h'
    | none => .bad
  | r => r
/-- the clauses' bodies, and which of the classes each takes -/
inductive Hds (X : Cx) (g : G) : List ExceptHandler → List ((Nat → Option Bool) × SM) → List (Value × (Addr → Value → Option Addr → TS)) → Prop
  | nil : Hds X g [] [] []
  | cons {x : Str} {c : Value} {mt : Nat → Option Bool} {sm : SM} {b₀ : Stmt} {suite : List Stmt} {np pos' : Pos} {hds : List ExceptHandler} {l : List ((Nat → Option Bool) × SM)} {l' : List (Value × (Addr → Value → Option Addr → TS))} (hc : Names X x c) (hm : ∀ i b, mt i = some b → PySem.W.exmOne X.K (.ref (g.cl i)) c = some b)
      (hsu : ∀ (a : Addr) (pn : List (Addr × Obj)), PSs (X.suite a pn) (b₀ :: suite) (tS g (fun _ _ _ _ => False) sm)) (r : Hds X g hds l l') :
      Hds X g (.ExceptHandler (some (.Name x np)) none (b₀ :: suite) pos' :: hds) ((mt, sm) :: l) ((c, fun _ _ _ => tS g (fun _ _ _ _ => False) sm) :: l')
theorem Hds.ok {hds : List ExceptHandler} {l : List ((Nat → Option Bool) × SM)} {l' : List (Value × (Addr → Value → Option Addr → TS))} (k : Hds X g hds l l') : HdsOk X hds l' := by
  induction k with
  | nil => exact .nil
  | cons hc hm hsu r ih => exact .cons hc (fun a oe cls d pn _ _ => hsu a _) ih
theorem Hds.wish {hds : List ExceptHandler} {l : List ((Nat → Option Bool) × SM)} {l' : List (Value × (Addr → Value → Option Addr → TS))} (k : Hds X g hds l l') {c : Nat} {h : AH} (R : Rep g α h H) (s : DenS g α H τ σ)
    (hno : ∀ sm, pick l c = some (some sm) → PostS g (fun _ _ _ _ => False) α H Dn (sm τ h)) (hout : pick l c = some none → W (.ref (g.cl c)) none σ H) (hp : pick l c ≠ none) : wMany X.K W Dn l' (.ref (g.cl c)) none σ H := by
  induction k with
  | nil => exact hout rfl
  | @cons x c' mt sm b₀ suite np pos' hds l l' hc hm hsu r ih =>
    simp only [pick] at hno hout hp
    cases e : mt c with
    | none => rw [e] at hp; exact absurd rfl hp
    | some b =>
      rw [e] at hno hout hp
      refine ⟨b, hm c b e, fun hb a _ => ?_, fun hb => ?_⟩
      · subst hb
        exact ⟨α, h, τ, R, s, hno sm rfl⟩
      · subst hb
        exact ih hno hout hp
/-- the suites raise nothing: their mirrors' outcomes count without a wish -/
def quiet : SO → SO
  | .exc _ _ _ => .bad
  | o => o
theorem PostS.quiet {o : SO} {W' : WX} (q : PostS g W α H Dn (quiet o)) : PostS g W' α H Dn o := by
  cases o with
  | nx τ h => exact q
  | rt d h => exact q
  | bk τ h => exact q
  | ct τ h => exact q
  | exc c τ h => exact q.elim
  | bad => exact q
def tryQ (b : SM) (hs : List ((Nat → Option Bool) × SM)) : SM := tryM b (hs.map fun p => (p.1, fun τ h => quiet (p.2 τ h)))
theorem pick_map {l : List ((Nat → Option Bool) × SM)} {c : Nat} : pick (l.map fun p => (p.1, fun τ h => quiet (p.2 τ h))) c = (pick l c).map fun o => o.map fun s => fun τ h => quiet (s τ h) := by
  induction l with
  | nil => rfl
  | cons p l ih =>
    simp only [List.map_cons, pick]
    cases p.1 c with
    | none => rfl
    | some b => cases b with
      | true => rfl
      | false => exact ih
theorem ds_try {h₀ : ExceptHandler} {hds : List ExceptHandler} {l : List ((Nat → Option Bool) × SM)} {l' : List (Value × (Addr → Value → Option Addr → TS))} (hs : X.stack = X.env :: X.outer) (hf : X.env.frame = some X.env.locals) (tk : Takes X W)
    (hb : ∀ (W : WX) (pn : List (Addr × Obj)) (xe : Value → Shared → Prop), Takes (X.tr pn xe) W → PassesOwn (model X.prog X.w) X.A X.env xe → PSs (X.tr pn xe) body (tS g W sb)) (hh : Hds X g (h₀ :: hds) l l') :
    PS X (.Try body (h₀ :: hds) [] [] pos) (tS g W (tryQ sb l)) := by
  refine PS.imp (ps_try_many hs hf tk hb hh.ok) fun Dn σ H q => ?_
  obtain ⟨α, h, τ, R, s, q⟩ := q
  refine ⟨α, h, τ, R, s, ?_⟩
  unfold tryQ tryM at q
  cases e : sb τ h with
  | nx τ' h' => rw [e] at q; exact q
  | rt d h' => rw [e] at q; exact q
  | bk τ' h' => rw [e] at q; exact q
  | ct τ' h' => rw [e] at q; exact q
  | bad => rw [e] at q; exact q
  | exc c τ' h' =>
    rw [e] at q
    simp only [pick_map] at q
    intro α' H' σ' E' R' s'
    cases ep : pick l c with
    | none => rw [ep] at q; exact q.elim
    | some o =>
      rw [ep] at q
      refine hh.wish R' s' (fun sm es => ?_) (fun es => ?_) (by rw [ep]; simp)
      · rw [ep] at es
        cases es
        exact PostS.quiet (PostS.mono q E')
      · rw [ep] at es
        cases es
        exact q α' H' σ' E' R' s'
end
end DD
end

section
set_option Elab.async false
set_option linter.all false
set_option maxRecDepth 100000
namespace DD
open PySem L2
open PyProof.Rows (b2i)

/-! ### methods of lists -/
def RSm (g : G) (W : WX) (r : V → List V → Hp → VK → Prop) (f : D → List D → AH → EO) : Prop :=
  ∀ (α : List Addr) (h : AH) (H : Hp) (σ : St) (x : V) (dx : D) (vs : List V) (ds : List D) (Q : VK), Rep g α h H → Den g α H dx x → DenL g α H ds vs → PostE g W α H σ Q (f dx ds h) → r x vs H Q
/-- o.name(..) where o is a list -/
def bmM (o : EM) (m : LM) (f : D → List D → AH → EO) : EM := fun τ h => (o τ h).bind fun d h1 => match d with
  | .ref l => match h1[l]? with
    | some (.lst _) => (m τ h1).bindE fun ds h2 => f d ds h2
    | _ => .bad
  | _ => .bad
def appendF (d : D) (ds : List D) (h : AH) : EO := match d, ds with
  | .ref l, [y] => match h[l]? with
    | some (.lst xs) => if xs.length < sizeLine then .ok .non (h.set l (.lst (xs ++ [y]))) else .bad
    | _ => .bad
  | _, _ => .bad
def extendF (d : D) (ds : List D) (h : AH) : EO := match d, ds with
  | .ref l, [.ref b] => match h[l]?, h[b]? with
    | some (.lst xs), some (.lst zs) => if xs.length + zs.length ≤ sizeLine then .ok .non (h.set l (.lst (xs ++ zs))) else .bad
    | _, _ => .bad
  | .ref l, [.tup zs] => match h[l]? with
    | some (.lst xs) => if xs.length + zs.length ≤ sizeLine then .ok .non (h.set l (.lst (xs ++ zs))) else .bad
    | _ => .bad
  | _, _ => .bad
section
variable {X : Cx} {g : G} {W : WX} {a b c e o : Expr} {es : List Expr} {ma mb mc mo : EM} {m : LM} {pos p apos cpos : Pos} {σ : St} {H H' : Hp} {Q : VK} {Dn : Ends} {α α' : List Addr} {τ : SL} {sa sb : SM} {st : Stmt} {rest : List Stmt} {body : List Stmt}
theorem put_list {h : AH} {l : Nat} {a : Addr} {vs : List V} {zs : List D} {ws : List V} (R : Rep g α h H) (hl : α[l]? = some a) (a1 : H a = some (.lst vs)) (d : DenL g α H zs ws) :
    Rep g α (h.set l (.lst zs)) (upd H a (.lst ws)) ∧ Ext α H α (upd H a (.lst ws)) := by
  have E : Ext α H α (upd H a (.lst ws)) := Ext.put a1 True.intro
  exact R.write hl a1 True.intro (u' := .lst ws) (o := .lst zs) ⟨ws, upd_same, DenL.ext E _ _ d⟩
theorem rs_append : RSm g W rAppend appendF := by
  intro α h H σ x dx vs ds Q R hx hd p
  cases hx
  case ref l a hl =>
   cases hd with
   | nil => exact p.elim
   | cons h1 h2 =>
    cases h2 with
    | cons _ _ => exact p.elim
    | nil =>
      simp only [appendF] at p
      split at p
      · rename_i xs hx
        split at p
        · rename_i hz
          obtain ⟨vs, a1, a2⟩ := R.ob _ _ _ hx hl
          obtain ⟨b1, b2⟩ := put_list R hl a1 (a2.snoc h1)
          exact ⟨a, vs, _, rfl, rfl, a1, by rw [← a2.length]; exact hz, p α _ .non b2 b1 .non⟩
        · exact p.elim
      · exact p.elim
  all_goals exact False.elim p
/-- extend by a tuple -/
def rExtT (K : PySem.W.Frag) : V → List V → Hp → VK → Prop := fun x vs H Q => ∃ l b xs zs, x = .ref l ∧ vs = [.ref b] ∧ H l = some (.lst xs) ∧ SqT K H b zs ∧ xs.length + zs.length ≤ sizeLine ∧ Q .non (upd H l (.lst (xs ++ zs)))
end
section
open PySem.Spec PyProof.Rows
variable {X : Cx}
theorem ext_tup (l : Addr) (xs : Array Value) (n : Nat) (b : Addr) (ys : Array Value) (n2 : Nat) (dd : Option Addr) (sl : Array (Option Value)) (hl : ¬ (!xs.isEmpty && Builtin.List.listTooLong (xs.size + ys.size)) = true) (h1 : xs.size ≤ sizeLine) (h2 : xs.size + ys.size ≤ sizeLine + 1) :
    Meets (Builtin.«list.extend» ⟨[.ref l, .ref b], []⟩) fun _ R s => s.heap.get? l = some { cls := .type "list", dict := none, data := .seq xs n, slots := #[] } ∧ s.heap.get? b = some { cls := .type "tuple", dict := dd, data := .seq ys n2, slots := sl } ∧
      R (.ok (.ret Value.none)) { s with heap := s.heap.update l (Obj.mapSeq fun x => x ++ ys), toks := s.toks } := by
  refine .of_wp fun prog w A R s h => ?_
  obtain ⟨hp, g, d, tk, os⟩ := s
  obtain ⟨k1, k2, k3⟩ := h
  have f1 := PySem.AutoSeq1.idx_int
  have f2 := PySem.AutoSeq1.sub_tuple_tuple
  have f3 := PySem.AutoSeq1.sub_list_list
  have f4 := PySem.AutoSeq1.sub_tuple_list
  have f5 := PySem.AutoSeq1.sub_list_tuple
  have hz : (xs ++ ys).size ≤ sizeLine + 1 := by rw [Array.size_append]; exact h2
  wp_walk using (wpAny_updateSeq k1 rfl (hz := h1) (_hz' := hz)), PySem.AutoSeq1.wpAny_loadPart' k1, PySem.AutoSeq1.wpAny_loadPart' k2
  exact ⟨_, rfl, k3⟩
theorem mt_extT : MtM X "list.extend" (rExtT X.K) := by
  intro pins s σ H x vs v us Q I rx rv h
  obtain ⟨l, b, xs, zs, rfl, rfl, hH, hB, hz, q⟩ := h
  cases rx
  obtain ⟨u, rfl, ru⟩ := rv.one
  cases ru
  obtain ⟨z, its, n, r, hl, e⟩ := I.lstM hH
  obtain ⟨its2, r2, ⟨⟨cls, dd, data, sl⟩, ho, hc, n2, hd⟩, _⟩ := I.tuple hB
  simp only at hc hd
  subst hc hd
  have hl2 := r2.length
  have hsz : its.toArray.size + its2.toArray.size ≤ sizeLine := by rw [List.size_toArray, List.size_toArray]; omega
  have hlong : ¬ (!its.toArray.isEmpty && Builtin.List.listTooLong (its.toArray.size + its2.toArray.size)) = true := by
    rw [notLongL hsz, Bool.and_false]
    exact Bool.false_ne_true
  refine call_meets F.slot_list_extend ⟨_, e, rfl⟩ F.entry_list_extend (F.args_list_extend_2 _ _) (ext_tup l its.toArray n b its2.toArray n2 dd sl hlong (by omega) (by omega)) ⟨e, ho, ?_⟩
  refine ⟨.non, _, I.lset (its' := its ++ its2) hH e (by simp) (r.append r2) ?_, rfl, q⟩
  rw [List.length_append]
  omega
end

section
variable {X : Cx} {g : G} {W : WX} {a b c e o : Expr} {es : List Expr} {ma mb mc mo : EM} {m : LM} {pos p apos cpos : Pos} {σ : St} {H H' : Hp} {Q : VK} {Dn : Ends} {α α' : List Addr} {τ : SL} {sa sb : SM} {st : Stmt} {rest : List Stmt} {body : List Stmt}
def rExtAny (K : PySem.W.Frag) : V → List V → Hp → VK → Prop := fun x vs H Q => rExtend x vs H Q ∨ rExtT K x vs H Q
theorem mt_extAny : MtR X "list.extend" (rExtAny X.K) := MtR.or (r := rExtend) mt_extend mt_extT
theorem rs_extend : RSm g W (rExtAny g.K) extendF := by
  intro α h H σ x dx vs ds Q R hx hd p
  cases hx
  case ref l a hl =>
   cases hd with
   | nil => exact p.elim
   | cons h1 h2 =>
    cases h2 with
    | cons _ _ => cases h1 <;> exact False.elim p
    | nil =>
      cases h1
      case tup b zs ws hs hw =>
        simp only [extendF] at p
        split at p
        · rename_i xs hx
          split at p
          · rename_i hz
            obtain ⟨vs, a1, a2⟩ := R.ob _ _ _ hx hl
            obtain ⟨b1, b2⟩ := put_list R hl a1 (a2.append hw)
            exact .inr ⟨a, b, vs, ws, rfl, rfl, a1, hs, by rw [← a2.length, ← hw.length]; exact hz, p α _ .non b2 b1 .non⟩
          · exact p.elim
        · exact p.elim
      case ref b q hb =>
        simp only [extendF] at p
        split at p
        · rename_i xs zs hx hz
          split at p
          · rename_i hl2
            obtain ⟨vs, a1, a2⟩ := R.ob _ _ _ hx hl
            obtain ⟨ws, c1, c2⟩ := R.ob _ _ _ hz hb
            obtain ⟨b1, b2⟩ := put_list R hl a1 (a2.append c2)
            exact .inl ⟨a, q, vs, ws, rfl, rfl, a1, c1, by rw [← a2.length, ← c2.length]; exact hl2, p α _ .non b2 b1 .non⟩
          · exact p.elim
        · exact p.elim
      all_goals exact False.elim p
  all_goals exact False.elim p
open PySem.Spec in
theorem de_bm {name : Str} {id : String} {r : V → List V → Hp → VK → Prop} {f : D → List D → AH → EO} (pa : PlainAttrs "list") (slot : Slot "list" name id) (hty : typeOf (.builtin id) = pure (.type "method_descriptor")) (hm : MtR X id r) (rs : RSm g W r f) (ho : PE X o (tE g W mo)) (ha : PA X (e :: es) (tL g W m))
    (hbase : attributeBase o name X.env (eval o X.env) = eval o X.env := by rfl)
    (hfew : ((backTo cpos (starEach (e :: es) X.env)).all (fun x => !x.1) && (backToKw cpos (keywordEach [] X.env)).all (fun x => x.1.isSome)
      && decide ((e :: es).length + ([] : List Keyword).length + (if ([] : List Keyword).isEmpty then 0 else 1) < 30)) = true := by rfl)
    (hline : (apos.endLine == cpos.line) = true := by rfl) (hs : starEach (e :: es) X.env = (false, eval e X.env) :: starEach es X.env := by rfl) (hplain : (backTo cpos (starEach es X.env)).any (·.1) = false := by rfl) :
    PE X (.Call (.Attribute o name apos) (e :: es) [] cpos) (tE g W (bmM mo m f)) := by
  refine PE.imp (pe_bm pa slot hty hm ho ha hbase hfew hline hs hplain) fun σ H Q q => ?_
  obtain ⟨α, h, τ, R, s, q⟩ := q
  refine ⟨α, h, τ, R, s, PostE.imp (PostE.bind q) ?_⟩
  rintro v H1 ⟨α1, d, h1, E1, R1, D1, p1⟩
  cases D1 <;> try exact False.elim p1
  rename_i l a hl
  simp only at p1
  split at p1
  · rename_i xs hx
    obtain ⟨vs, a1, a2⟩ := R1.ob _ _ _ hx hl
    refine ⟨.inl ⟨rfl, _, SqL.of a1⟩, α1, h1, τ, R1, s.ext E1, PostL.imp (PostL.bindE p1) ?_⟩
    rintro ws H2 ⟨α2, ds, h2, E2, R2, D2, p2⟩
    exact rs α2 h2 H2 σ _ _ ws ds Q R2 (.ref (E2.pre _ _ hl)) D2 p2
  · exact p1.elim
/-! ### methods of texts -/
def smM (o a : EM) (f : Str → D → AH → EO) : EM := fun τ h => (o τ h).bind fun d h1 => match d with
  | .str x => (a τ h1).bind fun y h2 => f x y h2
  | _ => .bad
open PySem.Spec in
theorem de_sm {name : Str} {id : String} {r : V → List V → Hp → VK → Prop} {f : Str → D → AH → EO} (slot : Slot "str" name id) (ty : typeOf (.builtin id) = pure (.type "method_descriptor")) (rule : MtR X id r) (rs : ∀ z, RS1 g W (fun y H Q => r (.str z) [y] H Q) (f z)) (ho : PE X o (tE g W mo)) (he : PE X e (tE g W ma))
    (hs : starEach [e] X.env = [(false, eval e X.env)] := by rfl) (hbase : attributeBase o name X.env (eval o X.env) = eval o X.env := by rfl) (hline : (apos.endLine == pos.line) = true := by rfl) :
    PE X (.Call (.Attribute o name apos) [e] [] pos) (tE g W (smM mo ma f)) := by
  refine PE.imp (pe_m1 slot ty rule ho he hs hbase hline) fun σ H Q q => ?_
  obtain ⟨α, h, τ, R, s, q⟩ := q
  refine ⟨α, h, τ, R, s, PostE.imp (PostE.bind q) ?_⟩
  rintro v H1 ⟨α1, d, h1, E1, R1, D1, p1⟩
  cases D1 <;> try exact False.elim p1
  rename_i z
  refine ⟨⟨z, rfl⟩, α1, h1, τ, R1, s.ext E1, PostE.imp (PostE.bind p1) ?_⟩
  rintro w H2 ⟨α2, d2, h2, E2, R2, D2, p2⟩
  exact rs z α2 h2 H2 σ w d2 Q R2 D2 p2
def findS (x : Str) (d : D) (h : AH) : EO := match d with
  | .str y => .ok (.int (Txt.find x y)) h
  | _ => .bad
theorem rs_find (z : Str) : RS1 g W (fun y H Q => ∃ a b, V.str z = .str a ∧ [y] = [.str b] ∧ Q (.int (Txt.find a b)) H) (findS z) := by
  intro α h H σ x dx Q R hx p
  cases hx <;> try exact False.elim p
  exact ⟨z, _, rfl, rfl, p α H _ .refl R (.int _)⟩
/-- texts of a list -/
def strsOf : List D → Option (List Str)
  | [] => some []
  | .str b :: r => (strsOf r).map (b :: ·)
  | _ :: _ => none
theorem strsOf_den : ∀ {ds : List D} {vs : List V} {bs : List Str}, DenL g α H ds vs → strsOf ds = some bs → vs = bs.map V.str
  | [], _, _, h, q => by cases h; cases q; rfl
  | d :: ds, _, bs, h, q => by
    cases h with
    | cons h1 h2 =>
      cases h1 <;> simp only [strsOf, reduceCtorEq] at q
      simp only [Option.map_eq_some_iff] at q
      obtain ⟨r, q1, rfl⟩ := q
      rw [strsOf_den h2 q1]
      rfl
def joinS (x : Str) (d : D) (h : AH) : EO := match d with
  | .ref l => match h[l]? with
    | some (.lst xs) => match strsOf xs with
      | some ys => if (ys.map (·.length)).sum + ys.length * x.length ≤ 16777216 then .ok (.str (Txt.join x ys)) h else .bad
      | none => .bad
    | _ => .bad
  | _ => .bad
theorem rs_join (z : Str) : RS1 g W (fun y H Q => ∃ a p, ∃ ys : List Str, V.str z = .str a ∧ [y] = [.ref p] ∧ (SqL g.K H p (ys.map V.str) ∨ SqT g.K H p (ys.map V.str)) ∧ (ys.map (·.length)).sum + ys.length * a.length ≤ 16777216 ∧ Q (.str (Txt.join a ys)) H) (joinS z) := by
  intro α h H σ x dx Q R hx p
  cases hx <;> try exact False.elim p
  rename_i l a hl
  simp only [joinS] at p
  split at p
  · rename_i xs hx
    split at p
    · rename_i ys hy
      split at p
      · rename_i hz
        obtain ⟨vs, a1, a2⟩ := R.ob _ _ _ hx hl
        exact ⟨z, a, ys, rfl, rfl, .inl (by rw [← strsOf_den a2 hy]; exact SqL.of a1), hz, p α H _ .refl R (.str _)⟩
      · exact p.elim
    · exact p.elim
  · exact p.elim
/-! ### isinstance by a built-in class -/
def tyName (h : AH) : D → Option String
  | .non => some "NoneType"
  | .bl _ => some "bool"
  | .int _ => some "int"
  | .str _ => some "str"
  | .tup _ => some "tuple"
  | .ref l => match h[l]? with
    | some (.lst _) => some "list"
    | some (.dct _) => some "dict"
    | _ => none
  | .con _ => none
  | .fls _ => none
/-- kitB's answers for the classes that stand in the programs -/
def isTy (n T : String) : Option Bool :=
  if n = "bool" ∧ T = "int" then some true else
  if (n = "NoneType" ∨ n = "bool" ∨ n = "int" ∨ n = "str" ∨ n = "tuple" ∨ n = "list" ∨ n = "dict") ∧ (T = "int" ∨ T = "str" ∨ T = "tuple" ∨ T = "list" ∨ T = "bool" ∨ T = "dict") then some (decide (n = T)) else none
theorem isTy_kit {K : PySem.W.Frag} {n T : String} {b : Bool} (h : isTy n T = some b) : PySem.W.kitOne K (.type n) (.type T) = some b := by
  refine kit_ty ?_
  unfold isTy at h
  split at h
  · rename_i q
    obtain ⟨rfl, rfl⟩ := q
    cases h
    decide +kernel
  · split at h
    · rename_i q1 q
      cases h
      obtain ⟨hn, hT⟩ := q
      rcases hn with rfl | rfl | rfl | rfl | rfl | rfl | rfl <;> rcases hT with rfl | rfl | rfl | rfl | rfl | rfl <;> first | (exfalso; exact q1 ⟨rfl, rfl⟩) | decide +kernel
    · cases h
def isiM (T : String) (d : D) (h : AH) : EO := match tyName h d with
  | some n => match isTy n T with
    | some b => .ok (.bl b) h
    | none => .bad
  | none => .bad
theorem tyX_tup {K : PySem.W.Frag} {a : Addr} {vs : List V} (h : SqT K H a vs) : TyX K H (.ref a) (.type "tuple") := by
  rcases h with (h | ⟨o, h⟩) | ⟨o, its, n, h1, h2, _⟩
  · exact .base (.tup h)
  · exact .fTuple h
  · exact .kTuple h1 h2
theorem de_isi {T : String} {x2 : Str} {p2 : Pos} (hK : g.K = X.K) (hg : Gl X "isinstance") (hm : X.mg "isinstance" = none) (hg2 : Gl X x2) (hm2 : X.mg x2 = none) (hv2 : bootBuiltins x2 = some (.type T)) (ha : PE X a (tE g W ma)) (hn : x2 ≠ "__name__" := by decide) (hd2 : (x2 == ("__debug__" : Str)) = false := by decide)
    (he : starEach [a, .Name x2 p2] X.env = (false, eval a X.env) :: starEach [.Name x2 p2] X.env := by rfl) (he2 : starEach [.Name x2 p2] X.env = (false, eval (.Name x2 p2) X.env) :: starEach [] X.env := by rfl) (hpl : (backTo pos (starEach [.Name x2 p2] X.env)).any (·.1) = false := by rfl) :
    PE X (.Call (.Name "isinstance" p) [a, .Name x2 p2] [] pos) (tE g W (unM ma (isiM T))) := by
  have hT : PE X (.Name x2 p2) (tC (.ty T)) := pe_bltn hg2 hm2 hv2 rfl hn hd2
  refine PE.imp (pe_callB call_isi hg hm PyProof.Rows.boot_isinstance (pa_cons ha (pa_cons hT pa_nil he2) he) (by decide) (by decide) he hpl) fun σ H Q q => ?_
  obtain ⟨α, h, τ, R, s, q⟩ := tE_start (f := isiM T) q
  refine ⟨α, h, τ, R, s, PostE.imp q ?_⟩
  rintro v H1 ⟨α1, d, h1, τ1, R1, s1, D1, p1⟩
  unfold isiM at p1
  split at p1
  · rename_i n hn'
    split at p1
    · rename_i b hb
      have fin := p1 α1 H1 _ .refl R1 (.bl b)
      have ty : TyX X.K H1 v (.type n) := by
        rw [← hK]
        cases D1 with
        | non => cases hn'; exact .base .non
        | bl k => cases hn'; exact .base (.bl k)
        | int i => cases hn'; exact .base (.int i)
        | str z => cases hn'; exact .base (.str z)
        | tup hs hl => cases hn'; exact tyX_tup hs
        | ref hl =>
          simp only [tyName] at hn'
          split at hn'
          · rename_i xs hx
            cases hn'
            obtain ⟨vs, a1, a2⟩ := R1.ob _ _ _ hx hl
            exact .base (.lst a1)
          · rename_i xs hx
            cases hn'
            obtain ⟨ws, a1, a2, a3⟩ := R1.ob _ _ _ hx hl
            exact .base (.dK a1)
          · cases hn'
        | con => cases hn'
        | fls _ _ => cases hn'
      exact ⟨v, .ty T, .type n, .type T, b, rfl, .ty T, ty, isTy_kit hb, fin⟩
    · exact p1.elim
  · exact p1.elim
/-! ### o[i] = v -/
def subG (o i : EM) (f : D → D → D → AH → Option AH) : TM := fun v τ h => (o τ h).toS τ fun d h1 => (i τ h1).toS τ fun k h2 => match f d k v h2 with
  | some h3 => .nx τ h3
  | none => .bad
def setLF (d k v : D) (h : AH) : Option AH := match d, k with
  | .ref l, .int i => match h[l]? with
    | some (.lst xs) => match ixN xs.length i with
      | some j => some (h.set l (.lst (xs.set j v)))
      | none => none
    | _ => none
  | _, _ => none
def RSet (g : G) (t : TSet) (f : D → D → D → AH → Option AH) : Prop := ∀ (α : List Addr) (h h' : AH) (H : Hp) (o i v : V) (d k w : D) (Q : Hp → Prop), Rep g α h H → Den g α H d o → Den g α H k i → Den g α H w v → f d k w h = some h' →
  (∀ H', Ext α H α H' → Rep g α h' H' → Q H') → t o i v H Q
theorem rset_list : RSet g rSetL setLF := by
  intro α h h' H o i v d k w Q R hd hk hw e q
  cases hd <;> cases hk <;> simp only [setLF, reduceCtorEq] at e
  rename_i l a hl i
  split at e
  · rename_i xs hx
    split at e
    · rename_i j hj
      cases e
      obtain ⟨vs, a1, a2⟩ := R.ob _ _ _ hx hl
      obtain ⟨b1, b2⟩ := put_list R hl a1 (a2.set j hw)
      exact ⟨a, vs, i, j, rfl, rfl, a1, by rw [← a2.length]; exact hj, q _ b2 b1⟩
    · cases e
  · cases e
theorem rg_sub {mi : EM} {t : TSet} {f : D → D → D → AH → Option AH} (rs : RSet g t f) : RG g W (gSub (tE g W mo) (tE g W mi) t) (subG mo mi f) := by
  intro α h H τ σ v d Q R s hd p
  refine ⟨α, h, τ, R, s, PostE.imp (PostS.toS p s) ?_⟩
  rintro x H1 ⟨α1, d1, h1, E1, R1, D1, s1, p1⟩
  refine ⟨α1, h1, τ, R1, s1, PostE.imp (PostS.toS p1 s1) ?_⟩
  rintro y H2 ⟨α2, d2, h2, E2, R2, D2, s2, p2⟩
  split at p2
  · rename_i h3 e3
    exact rs α2 h2 h3 H2 x y v d1 d2 d _ R2 (Den.ext E2 _ _ D1) D2 (Den.ext E2 _ _ (Den.ext E1 _ _ hd)) e3 fun H' E' R' => p2 α2 H' σ E' R' (s2.ext E')
  · exact p2.elim
theorem goes_sub {mi : EM} {f : D → D → D → AH → Option AH} : Goes (subG mo mi f) := fun d τ h => by
  unfold subG
  cases e : mo τ h with
  | ok d1 h1 =>
    simp only [EO.toS]
    cases e2 : mi τ h1 with
    | ok k h2 =>
      simp only [EO.toS]
      cases f d1 k d h2 with
      | some h3 => exact .inl ⟨_, _, rfl⟩
      | none => exact .inr (.inr rfl)
    | exc c h2 => exact .inr (.inl ⟨_, _, _, rfl⟩)
    | bad => exact .inr (.inr rfl)
  | exc c h1 => exact .inr (.inl ⟨_, _, _, rfl⟩)
  | bad => exact .inr (.inr rfl)
theorem ds_asgG {tg : Expr} {t : TG} {f : TM} (he : PE X e (tE g W ma)) (hg : PG X tg t) (rg : RG g W t f) (gf : Goes f) (hs : swapsWithSole [tg] e pos.line X.env = pure false := by rfl) (hw : swappedStores [tg] e X.env = pure none := by rfl)
    (h1 : (assignEach [tg] X.env).map (·.2) = [assign tg X.env] := by rfl) : PS X (.Assign [tg] e pos) (tS g W (asgM ma f)) :=
  ds_asg he hg rg (fun d τ h Q α H Dn q k => gf.post d τ h Q α H Dn q k) hs hw h1
end
end DD
end

section
set_option Elab.async false
set_option linter.all false
set_option maxRecDepth 100000
namespace DD
open PySem L2
open PyProof.Rows (b2i)

/-! ### list comprehensions -/
def wipeD (τ : SL) : List Nat → SL
  | [] => τ
  | v :: vs => (wipeD τ vs).set v none
/-- the turns: l the new list, own the block's slots -/
def lcLoop (live : AH → Bool) (f : TM) (mc : Option EM) (me : EM) (own : List Nat) (τ : SL) (l : Nat) : List D → AH → EO
  | [] => fun h => if live h = true then .ok (.ref l) h else .bad
  | d :: ds => fun h => if live h = true then match f d (wipeD τ own) h with
    | .nx τ1 h1 => (match mc with
      | none => EO.ok (.bl true) h1
      | some c => c τ1 h1).bind fun k h2 => match k with
        | .bl true => (me τ1 h2).bind fun y h3 => match h3[l]? with
          | some (.lst acc) => if acc.length < sizeLine then lcLoop live f mc me own τ l ds (h3.set l (.lst (acc ++ [y]))) else .bad
          | _ => .bad
        | .bl false => lcLoop live f mc me own τ l ds h2
        | _ => .bad
    | _ => .bad else .bad
def lcM (e : EM) (items : D → AH → Option (List D × (AH → Bool))) (f : TM) (mc : Option EM) (me : EM) (own : List Nat) : EM := fun τ h => (e τ h).bind fun d h1 => match items d h1 with
  | some (ds, live) => lcLoop live f mc me own τ h1.length ds (h1 ++ [.lst []])
  | none => .bad
/-- no exception may come -/
def noexc : EO → EO
  | .exc _ _ => .bad
  | o => o
abbrev W0 : WX := fun _ _ _ _ => False
section
variable {X : Cx} {g : G} {W : WX} {a b c e o elt : Expr} {es : List Expr} {ma mb mo me : EM} {mc : Option EM} {m : LM} {pos p apos cpos : Pos} {σ : St} {H H' : Hp} {Q : VK} {Dn : Ends} {α α' : List Addr} {τ : SL} {sa sb : SM} {st : Stmt} {rest : List Stmt} {body : List Stmt} {tg iter : Expr} {t : TG} {f : TM} {wi : TI} {items : D → AH → Option (List D × (AH → Bool))} {ifs : List Expr} {scope : Scope} {own : List (Str × Nat)}
theorem PostE.noexc {o : EO} (q : PostE g W α H σ Q (noexc o)) : PostE g W0 α H σ Q o := by
  cases o with
  | ok d h => exact q
  | exc c h => exact q.elim
  | bad => exact q
theorem wipe_wipeD {τ : SL} (s : DenS g α H τ σ) (vs : List Nat) : DenS g α H (wipeD τ vs) (wipe σ vs) := by
  induction vs with
  | nil => exact s
  | cons v vs ih =>
    unfold wipeD wipe
    refine ⟨by simp [ih.len], fun i d q => ?_⟩
    by_cases hi : v = i
    · subst hi
      by_cases hl : v < (wipeD τ vs).length
      · rw [List.getElem?_set_self hl] at q
        cases q
      · rw [List.getElem?_eq_none (by simp; omega)] at q
        cases q
    · rw [List.getElem?_set_ne hi] at q
      obtain ⟨w, h1, h2⟩ := ih.at_ i d q
      exact ⟨w, by rw [List.getElem?_set_ne hi]; exact h1, h2⟩
/-- a target that stores the block's own slots alone -/
def OwnT (t : TG) (vs : List Nat) : Prop := ∀ (v : V) (σ : St) (H : Hp) (Q : St → Hp → Prop), t v σ H (fun σ2 H2 => wipe σ2 vs = wipe σ vs → Q σ2 H2) → t v σ H Q
def OwnTs (t : TGs) (vs : List Nat) : Prop := ∀ (v : List V) (σ : St) (H : Hp) (Q : St → Hp → Prop), t v σ H (fun σ2 H2 => wipe σ2 vs = wipe σ vs → Q σ2 H2) → t v σ H Q
theorem wipe_set {x : Option V} {i : Nat} : ∀ {vs : List Nat} {σ : St}, i ∈ vs → wipe (σ.set i x) vs = wipe σ vs
  | [], _, h => by cases h
  | v :: vs, σ, h => by
    unfold wipe
    by_cases hi : i ∈ vs
    · rw [wipe_set hi]
    · have hv : i = v := by rcases List.mem_cons.mp h with h | h <;> first | exact h | exact absurd h hi
      subst hv
      have key : ∀ (vs : List Nat) (σ : St), i ∉ vs → wipe (σ.set i x) vs = (wipe σ vs).set i x := by
        intro vs
        induction vs with
        | nil => intro σ _; rfl
        | cons w ws ih =>
          intro σ hn
          have hw : i ≠ w := fun z => hn (z ▸ List.mem_cons_self)
          unfold wipe
          rw [ih σ (fun z => hn (List.mem_cons_of_mem _ z)), List.set_comm _ _ hw]
      rw [key vs σ hi, List.set_set]
theorem wipe_none {a : Nat} : ∀ (l : List Nat) (ρ : St), wipe (ρ.set a none) l = (wipe ρ l).set a none
  | [], ρ => rfl
  | b :: l, ρ => by
    unfold wipe
    rw [wipe_none l ρ]
    by_cases hab : a = b
    · subst hab; rfl
    · rw [List.set_comm _ _ hab]
theorem wipe_wipe : ∀ (l : List Nat) (ρ : St), wipe (wipe ρ l) l = wipe ρ l
  | [], ρ => rfl
  | a :: l, ρ => by
    show (wipe ((wipe ρ l).set a none) l).set a none = (wipe ρ l).set a none
    rw [wipe_none, wipe_wipe l ρ, List.set_set]
theorem own_name {i : Nat} {vs : List Nat} (h : i ∈ vs) : OwnT (gName i) vs := fun v σ H Q q => q (wipe_set h)
theorem own_tup {n : Nat} {K : PySem.W.Frag} {t : TGs} {vs : List Nat} (h : OwnTs t vs) : OwnT (gTup K n t) vs := fun v σ H Q q => by
  obtain ⟨a, xs, h1, h2, h3, h4⟩ := q
  exact ⟨a, xs, h1, h2, h3, h _ _ _ _ h4⟩
theorem own_nil {vs : List Nat} : OwnTs gNil vs := fun ws σ H Q q => ⟨q.1, q.2 rfl⟩
theorem own_cons {vs : List Nat} {i : Nat} {u : TGs} (hi : i ∈ vs) (hu : OwnTs u vs) : OwnTs (gCons (gName i) u) vs := fun ws σ H Q q => by
  obtain ⟨v, r, h1, h2⟩ := q
  refine ⟨v, r, h1, hu r _ H Q ?_⟩
  rw [wipe_set hi]
  exact h2
/-- the block's tests by a mirror -/
def tTs (g : G) (W : WX) : Option EM → TT
  | none => tYes
  | some m => tT g W m
/-- a list comprehension that raises nothing: its reading from its mirror -/
theorem tE_lc (io : IterOk g W0 wi ma items) (rg : ∀ W, RG g W t f) (gf : Goes f) (ot : OwnT t (own.map (·.2))) (q : tE g W (fun τ h => noexc (lcM ma items f mc me (own.map (·.2)) τ h)) σ H Q) : tLc wi t (tTs g W0 mc) (tE g W0 me) (own.map (·.2)) σ H Q := by
  unfold tLc
  refine io σ H _ ?_
  obtain ⟨α, h, τ, R, s, q⟩ := q
  have q := PostE.noexc q
  refine ⟨α, h, τ, R, s, ?_⟩
  unfold lcM at q
  cases e0 : ma τ h with
  | exc c h1 => rw [e0] at q; exact q
  | bad => rw [e0] at q; exact q
  | ok d h1 =>
    rw [e0] at q
    intro α1 H1 E1 R1 _
    have p1 := PostE.mono q E1
    simp only [EO.bind] at p1
    obtain ⟨⟨ds, live⟩, hit⟩ : ∃ dl, items d h1 = some dl := by
      cases hit : items d h1 with
      | none => rw [hit] at p1; exact p1.elim
      | some dl => exact ⟨dl, rfl⟩
    rw [hit] at p1
    refine ⟨ds, live, hit, fun J wk => ?_⟩
    obtain ⟨stop, go, yld⟩ := wk
    intro L hD
    obtain ⟨R2, E2, D2⟩ := new_list R1 (ds := []) (vs := []) .nil hD
    refine ⟨fun i m H' => m = ds.length - i ∧ ∃ α' h', Ext (α1 ++ [L]) (upd H1 L (.lst [])) α' H' ∧ Rep g α' h' H' ∧ PostE g W0 α' H' σ Q (lcLoop live f mc me (own.map (·.2)) τ h1.length (ds.drop i) h'), ⟨ds.length, by simp, _, _, .refl, R2, PostE.mono p1 E2⟩, ?_⟩
    rintro i m H' ⟨rfl, α', h', E', R', p'⟩
    have EE := E2.trans E'
    have DD := Den.ext E' _ _ D2
    by_cases hi : i < ds.length
    · have hd : ds.drop i = ds[i] :: ds.drop (i + 1) := by rw [List.drop_eq_getElem_cons hi]
      have hg : ds[i]? = some ds[i] := List.getElem?_eq_getElem hi
      rw [hd] at p'
      simp only [lcLoop] at p'
      split at p'
      · rename_i hl
        refine .inr ⟨go α' H' h' EE R' hl i _ hg, fun H3 => ∃ α' h', Ext (α1 ++ [L]) (upd H1 L (.lst [])) α' H3 ∧ Rep g α' h' H3 ∧ PostE g W0 α' H3 σ Q (lcLoop live f mc me (own.map (·.2)) τ h1.length (ds.drop (i + 1)) h'), fun H3 w => ⟨ds.length - (i + 1), by omega, rfl, w⟩, fun x H3 hy => ?_⟩
        obtain ⟨E3, R3, D3⟩ := yld α' H' h' x H3 EE R' hl i _ hg hy
        have s3 : DenS g α' H3 (wipeD τ (own.map (·.2))) (wipe σ (own.map (·.2))) := wipe_wipeD (((s.ext E1).ext EE).ext E3) _
        split at p'
        · rename_i τ4 h4 e4
          refine ot x _ H3 _ (rg W0 α' h' H3 _ _ x _ _ R3 s3 D3 ?_)
          rw [e4]
          intro α4 H4 σ4 E4 R4 s4 hw
          rw [wipe_wipe] at hw
          have EE4 := (EE.trans E3).trans E4
          have p4 := PostE.mono (PostE.mono p' E3) E4
          refine ⟨hw, ?_⟩
          -- behind the test
          have fin : ∀ (k : Bool) (α5 : List Addr) (h5 : AH) (H5 : Hp), Ext α4 H4 α5 H5 → Rep g α5 h5 H5 → PostE g W0 α5 H5 σ Q (match D.bl k with
              | .bl true => (me τ4 h5).bind fun y h3 => match h3[h1.length]? with
                | some (.lst acc) => if acc.length < sizeLine then lcLoop live f mc me (own.map (·.2)) τ h1.length (ds.drop (i + 1)) (h3.set h1.length (.lst (acc ++ [y]))) else .bad
                | _ => .bad
              | .bl false => lcLoop live f mc me (own.map (·.2)) τ h1.length (ds.drop (i + 1)) h5
              | _ => .bad) → (if k = true then tE g W0 me σ4 H5 fun y H4 => ∃ acc, H4 L = some (.lst acc) ∧ acc.length < sizeLine ∧ ∃ α' h', Ext (α1 ++ [L]) (upd H1 L (.lst [])) α' (upd H4 L (.lst (acc ++ [y]))) ∧ Rep g α' h' (upd H4 L (.lst (acc ++ [y]))) ∧
                PostE g W0 α' (upd H4 L (.lst (acc ++ [y]))) σ Q (lcLoop live f mc me (own.map (·.2)) τ h1.length (ds.drop (i + 1)) h')
              else ∃ α' h', Ext (α1 ++ [L]) (upd H1 L (.lst [])) α' H5 ∧ Rep g α' h' H5 ∧ PostE g W0 α' H5 σ Q (lcLoop live f mc me (own.map (·.2)) τ h1.length (ds.drop (i + 1)) h')) := by
            intro k α5 h5 H5 E5 R5 p5
            cases k with
            | false => exact iteF ⟨α5, h5, ((E'.trans E3).trans E4).trans E5, R5, p5⟩
            | true =>
              refine iteT ⟨α5, h5, τ4, R5, s4.ext E5, PostE.imp (PostE.bind p5) ?_⟩
              rintro y H6 ⟨α6, dy, h6, E6, R6, D6, p6⟩
              split at p6
              · rename_i acc hacc
                split at p6
                · rename_i hz
                  have DD6 := Den.ext E6 _ _ (Den.ext E5 _ _ (Den.ext E4 _ _ (Den.ext E3 _ _ DD)))
                  cases DD6 with
                  | ref hl6 =>
                    obtain ⟨ws, a1, a2⟩ := R6.ob _ _ _ hacc hl6
                    obtain ⟨b1, b2⟩ := put_list R6 hl6 a1 (a2.snoc D6)
                    exact ⟨ws, a1, by rw [← a2.length]; exact hz, α6, _, ((((E'.trans E3).trans E4).trans E5).trans E6).trans b2, b1, PostE.mono p6 b2⟩
                · exact p6.elim
              · exact p6.elim
          cases mc with
          | none => exact fin true α4 h4 H4 .refl R4 p4
          | some c =>
            show tT g W0 c σ4 H4 _
            refine ⟨α4, h4, τ4, R4, s4, PostE.imp (PostE.bind p4) ?_⟩
            rintro z H5 ⟨α5, dz, h5, E5, R5, D5, p5⟩
            cases D5 <;> try exact False.elim p5
            rename_i k
            exact ⟨k, rfl, fin k α5 h5 H5 E5 R5 p5⟩
        · exact p'.elim
      · exact p'.elim
    · have hd : ds.drop i = [] := List.drop_eq_nil_of_le (by omega)
      rw [hd] at p'
      simp only [lcLoop] at p'
      split at p'
      · rename_i hl
        exact .inl ⟨stop α' H' h' EE R' hl i (by omega), p' α' H' _ .refl R' DD⟩
      · exact p'.elim
def lcQ (e : EM) (items : D → AH → Option (List D × (AH → Bool))) (f : TM) (mc : Option EM) (me : EM) (own : List Nat) : EM := fun τ h => noexc (lcM e items f mc me own τ h)
theorem de_lcQ (hc : X.calm = true) (hN : X.N.Nodup) (hi : PI X tg iter wi) (io : IterOk g W0 wi ma items) (ok : BlkOk X.N X.env.scope scope own) (rg : ∀ W, RG g W t f) (gf : Goes f) (ot : OwnT t (own.map (·.2)))
    (hg : ∀ (s : Shared) (H : Hp) (C : Addr) (cl : List (Str × Addr)) (fp : List Addr), PG (X.blk s H scope (compEnvC scope cl C X.env) fp) tg t) (ht : ∀ (s : Shared) (H : Hp) (C : Addr) (cl : List (Str × Addr)) (fp : List Addr), PTs (X.blk s H scope (compEnvC scope cl C X.env) fp) ifs (tTs g W0 mc))
    (he : ∀ (s : Shared) (H : Hp) (C : Addr) (cl : List (Str × Addr)) (fp : List Addr), PE (X.blk s H scope (compEnvC scope cl C X.env) fp) elt (tE g W0 me)) (hs : ∀ x, foldedSetIterable iter X.env x = pure x := by intro _; rfl) :
    PE X (.ListComp elt [⟨tg, iter, ifs, 0⟩] scope pos) (tE g W (lcQ ma items f mc me (own.map (·.2)))) :=
  PE.imp (pe_lc hc hN hi ok hg ht he hs) fun _ _ _ q => tE_lc io rg gf ot q
theorem ds_setLcQ {i : Nat} {y : Str} {py spos : Pos} (hc : X.calm = true) (hN : X.N.Nodup) (hy : X.N[i]? = some y) (hyl : X.env.scope.names.lookup y = some .local) (hsw : swapsWith (.ListComp elt [⟨tg, iter, ifs, 0⟩] scope pos) (some (.Name y py)) spos.line X.env = pure true)
    (hi : PI X tg iter wi) (io : IterOk g W0 wi ma items) (ok : BlkOk X.N X.env.scope scope own) (rg : ∀ W, RG g W t f) (gf : Goes f) (ot : OwnT t (own.map (·.2)))
    (hg : ∀ (s : Shared) (H : Hp) (C : Addr) (cl : List (Str × Addr)) (fp : List Addr), PG (X.blk s H scope (compEnvC scope cl C X.env) fp) tg t) (ht : ∀ (s : Shared) (H : Hp) (C : Addr) (cl : List (Str × Addr)) (fp : List Addr), PTs (X.blk s H scope (compEnvC scope cl C X.env) fp) ifs (tTs g W0 mc))
    (he : ∀ (s : Shared) (H : Hp) (C : Addr) (cl : List (Str × Addr)) (fp : List Addr), PE (X.blk s H scope (compEnvC scope cl C X.env) fp) elt (tE g W0 me)) (hs : ∀ x, foldedSetIterable iter X.env x = pure x := by intro _; rfl) :
    PS X (.Assign [.Name y py] (.ListComp elt [⟨tg, iter, ifs, 0⟩] scope pos) spos) (tS g W (setM i (lcQ ma items f mc me (own.map (·.2))))) := by
  refine PS.imp (ps_setLc hc hN hy hyl hsw hi ok hg ht he hs) fun Dn σ H q => ?_
  refine tE_lc (W := W) io rg gf ot ?_
  obtain ⟨α, h, τ, R, s, q⟩ := q
  refine ⟨α, h, τ, R, s, ?_⟩
  have q' : PostS g W α H Dn ((noexc (lcM ma items f mc me (own.map (·.2)) τ h)).toS τ fun d h1 => .nx (τ.set i (some d)) h1) := q
  refine PostE.imp (PostS.toS q' s) ?_
  rintro v H1 ⟨α1, d, h1, E1, R1, D1, s1, p1⟩
  exact p1 α1 H1 _ .refl R1 (s1.set i D1)
end
end DD
end

section
set_option Elab.async false
set_option linter.all false
set_option maxRecDepth 100000
set_option maxHeartbeats 2000000
namespace DD
open PySem L2 PySem.Spec PyProof.Rows
/-! ### a list comprehension out of which an exception may come -/
def endC (M : Model) (A : Around) (E Q : Value → Shared → Prop) (acc : Value) (cenv : Env) (r : Result) (s' : Shared) : Prop := match r with
  | .ok _ => ∃ m, s'.heap.Ns cenv.locals m ∧ ∀ h', Heap.SameBut cenv.locals s'.heap h' → Q acc { s' with heap := h' }
  | .error x => ∃ m, s'.heap.Ns cenv.locals m ∧ ∀ h', Heap.SameBut cenv.locals s'.heap h' → wpAny M A (passOn "comprehension.variables-let-go" x cenv : Sem Value) (fun _ _ => False) E { s' with heap := h' }
theorem comp_ends {M : Model} {A : Around} {E : Value → Shared → Prop} {s : Shared} {env : Env} {e : Expr} {scope : Scope} {pos : Pos} {newAcc first : Sem Value} {cg : Comprehension} {gs : List Comprehension} {cl : List (Str × Addr)} {Q : Value → Shared → Prop}
    (hcl : clausesOf e = cg :: gs) (hs : ∀ x, foldedSetIterable cg.iter env x = pure x) (hclos : closureFor scope env = pure cl) (hkind : scope.kind = .function) (hnames : ∀ x ∈ scope.names, x.2 = .local → scope.names.lookup x.1 = some .local)
    (h : wpAny M A first (fun x s₁ => wpAny M A (pyIter x) (fun it s₂ => wpAny M A newAcc (fun acc s₃ => wpAny M A (newFunctionEnv scope env.globals cl [] env.qual none .none (some env)) (fun cenv s₄ =>
        codeAny M A (.compStart e 0 it acc { cenv with scope := relabel scope env }) (endC M A E Q acc { cenv with scope := relabel scope env }) s₄) E s₃) E s₂) E s₁) E s) :
    wpAny M A (comprehension e scope env pos newAcc false first none) Q E s := by
  have same : ∀ {β : Type} {t : Sem β} {R R' : β → Shared → Prop} {z : Shared}, wpAny M A t R E z → (∀ a z, R a z → R' a z) → wpAny M A t R' E z := fun a b => wpAny_mono a b fun _ _ x => x
  unfold comprehension
  rw [hclos, hcl]
  refine wpAny_bind (same h fun x s₁ h₁ => wpAny_bind (wpAny_standAt (wpAny_bind (wpAny_of_eq (hs x) (wpAny_bind (wpAny_holding (same h₁ fun it s₂ h₂ => wpAny_standIf (wpAny_bind (same h₂ fun acc s₃ h₃ => wpAny_bind (wpAny_pure (wpAny_bind (same h₃ fun cenv s₄ h₄ => ?_))))))))))))
  dsimp only
  have hv : ∀ x ∈ (scope.names.filter fun x => (x.2 == .local || x.2 == .cell) && x.1 != (".0" : Str)).reverse, x.2 = .local → Env.kindOf { cenv with scope := relabel scope env } x.1 = some .local :=
    fun x hx hl => lookup_relabel_local (hnames x (List.mem_filter.mp (List.mem_reverse.mp hx)).1 hl)
  refine wpAny_holding (wpAny_bind (wpAny_attempt (wpAny_holding (wpAny_run (codeAny_mono h₄ fun r s' hr => ?_)))))
  cases r with
  | ok f =>
    obtain ⟨m, hn, hr⟩ := hr
    exact wpAny_bind (wpAny_holding (wpAny_comp_letGo (cenv := { cenv with scope := relabel scope env }) hkind _ s' m hv hn fun h' m' _ hs' => wpAny_pure (hr h' hs')))
  | error x =>
    obtain ⟨m, hn, hr⟩ := hr
    exact wpAny_bind (wpAny_holding (wpAny_comp_letGo (cenv := { cenv with scope := relabel scope env }) hkind _ s' m hv hn fun h' m' _ hs' => wpAny_mono (hr h' hs') (fun _ _ z => z.elim) fun _ _ y => y))
/-- noting a frame leans on the frame alone -/
theorem note_same {e : Value} {env env' : Env} (h : env.frame = env'.frame) : noteFrame e env = noteFrame e env' := by
  unfold noteFrame PySem.frameOf
  rw [h]

section
variable {X : Cx} {g : G} {W : WX} {pins : List (Addr × Obj)} {σ : L2.St} {H3 : Hp} {s3 : Shared}
/-- the same heap, the one time with a flight none, the other time with something else: never -/
theorem fly_only {B B' : Heap} {l l' : List Env} {a : Addr} {Z Z' : Obj → Prop} {L : Addr} {h : Heap} (fl : HandSPX.FlyingZ B' l' a Z' h) (sky : Sky B l a Z L h) : HandSPX.FlyingZ B l a Z h := by
  obtain ⟨_, _, _, oe, vs, T, oT, ts, e1, _, e2, e3, _, _, e4, e5, e6⟩ := fl
  rcases sky with ⟨_, _, _, oe', vs', q1, _, q2, q3⟩ | fl' | ⟨_, _, _, oe', vs', T', oT', ts', q1, _, q2, q3, _, _, q4, q5, q6⟩
  · rw [e1] at q1
    cases q1
    rw [e2] at q2
    cases q2
    rw [e3] at q3
    cases q3
  · exact fl'
  · rw [e1] at q1
    cases q1
    rw [e2] at q2
    cases q2
    rw [e3] at q3
    cases q3
    rw [e4] at q4
    cases q4
    rw [e5] at q5
    cases q5
    rw [e6] at q6
    cases q6
theorem blk_pas {scope : Scope} {ce : Env} {fp : List Addr} {Q acc' : Value → Shared → Prop} {acc : Value} (hst : X.stack = X.env :: X.outer) (hf : X.env.frame = some X.env.locals) (tk : Takes X W) (I3 : Inv X pins σ H3 s3) (f3 : ∀ b ∈ fp, FpOk X pins H3 b) (hC : ce.locals = s3.heap.objs.size) (hcf : ce.frame = X.env.frame) :
    Pas ((X.blk s3 H3 scope ce fp).wish (notedBy (model X.prog X.w) X.A ce fun e s' => endC (model X.prog X.w) X.A X.xe Q acc ce (.error e) s')) (fun cls d _ H' => W cls d σ H') := by
  intro σy pins' Hy sy e s' Iy c
  have ok := I3.ok
  have hfr : X.A.frames = some (X.env :: X.outer) := by rw [ok.frames, hst]
  obtain ⟨a, B, sI, pins1, σ1, H1, cls, d, rfl, IY, nb, up, sky, na, os, ag, w⟩ := XE.of_call (W := fun cls d _ H' => W cls d σ H') Iy (fun _ _ _ h => h) c
  have fl : HandSPX.FlyingZ B (X.env :: X.outer) a (Zc cls d) s'.heap := by
    obtain ⟨a', B', H', cls', d', e1, fl', _⟩ := c
    cases e1
    rw [← hst]
    exact fly_only fl' sky
  obtain ⟨m, ⟨oC, es, ep, hoC, hdC, hrC⟩, _⟩ := IY.loc
  have hoC : sI.heap.get? ce.locals = some oC := hoC
  have nfr : ∀ b ∈ frs X.stack, b < s3.heap.objs.size := fun b hb => by
    obtain ⟨_, o, ho, _⟩ := I3.stack.mem hb
    exact Heap.lt_size ho
  have nCfr : ce.locals ∉ frs X.stack := fun z => by
    have := nfr _ z
    rw [hC] at this
    exact Nat.lt_irrefl _ this
  have nb : ∀ b o, sI.heap.get? b = some o → b ∉ frs X.stack → B.get? b = some o := nb
  have I7 : Inv X pins σ H1 sI := I3.call' (ch := fp) IY.os IY.base IY.hok IY.bare fun b hb => ⟨(f3 b hb).2.2.2.1, (f3 b hb).2.1, (f3 b hb).2.2.2.2.1, (f3 b hb).2.2.2.2.2⟩
  have nC : H1 ce.locals = none := IY.free
  have fC : FpOk X pins H1 ce.locals := I3.fpOk (Nat.le_of_eq hC.symm) nC
  show wpAny (model X.prog X.w) X.A (noteFrame (.ref a) ce) _ _ s'
  rw [note_same hcf]
  refine HandSPX.looks_onZ Zc.steady hfr hf fl fun h2 hh up2 => ?_
  have hB : B.StaysIn h2 := hh.1
  have hoC2 : h2.get? ce.locals = some oC := hB _ _ (nb _ _ hoC nCfr)
  refine ⟨m, ⟨oC, es, ep, hoC2, hdC, hrC⟩, fun h3 sb => ?_⟩
  have sb2 : ∀ b, b ≠ ce.locals → h3.get? b = h2.get? b := sb.2
  obtain ⟨hst2, hen, hff, oe, vs, T, oT, ts, he, hz, hd, h1, hnT, hTe, hT, hdT, h3'⟩ := hh
  have naC : a ≠ ce.locals := fun z => by
    rw [z, hoC2] at he
    cases he
    rw [hdC] at hd
    cases hd
  have nTC : T ≠ ce.locals := fun z => by
    rw [z, hoC2] at hT
    cases hT
    rw [hdC] at hdT
    cases hdT
  -- the ground without the block's names
  have held : HandSPX.HeldZ (PySem.W.hideAll B [ce.locals]) (X.env :: X.outer) a (Zc cls d) X.env.locals h3 := by
    refine ⟨fun b o e => ?_, ?_, ?_, oe, vs, T, oT, ts, (sb2 a naC).trans he, hz, hd, h1, ?_, hTe, (sb2 T nTC).trans hT, hdT, h3'⟩
    · have hb : b ≠ ce.locals := fun z => by
        rw [z, PySem.W.hideAll_none [ce.locals] (by simp)] at e
        cases e
      rw [sb2 b hb]
      exact hst2 b o (PySem.W.of_hideAll _ e)
    · cases q : (PySem.W.hideAll B [ce.locals]).get? a with
      | none => rfl
      | some o =>
        have z := PySem.W.of_hideAll _ q
        rw [hen] at z
        cases z
    · have nfrs : ∀ L ∈ frs (X.env :: X.outer), L ≠ ce.locals := fun L hL z => nCfr (by rw [← z, hst]; exact hL)
      have all : ∀ (l : List Env), (∀ L ∈ frs l, L ≠ ce.locals) → h2.FunFrames B l → h3.FunFrames (PySem.W.hideAll B [ce.locals]) l := by
        intro l
        induction l with
        | nil => intro _ _; trivial
        | cons env r ih =>
          intro hs hl
          obtain ⟨hk, ⟨L, o, hf', hn, ho, hd'⟩, hr⟩ := hl
          have hL : L ≠ ce.locals := hs L (by unfold frs; rw [List.filterMap_cons, hf']; exact List.mem_cons_self)
          refine ⟨hk, ⟨L, o, hf', ?_, (sb2 L hL).trans ho, hd'⟩, ih (fun b hb => hs b (by unfold frs; rw [List.filterMap_cons, hf']; exact List.mem_cons_of_mem _ hb)) hr⟩
          cases q : (PySem.W.hideAll B [ce.locals]).get? L with
          | none => rfl
          | some o' =>
            have z := PySem.W.of_hideAll _ q
            rw [hn] at z
            cases z
      exact all _ nfrs hff
    · cases q : (PySem.W.hideAll B [ce.locals]).get? T with
      | none => rfl
      | some o =>
        have z := PySem.W.of_hideAll _ q
        rw [hnT] at z
        cases z
  unfold PySem.passOn
  refine wpAny_bind (wpAny_field ((sb2 a naC).trans he) hd h1 ?_)
  rw [if_neg (by simp)]
  rw [hcf, hf]
  refine wpAny_bind (HandSPX.setFlight_onZ held fun h4 hh4 up4 => wpAny_throw ?_)
  have upC : ∀ b o, b ≠ ce.locals → sI.heap.get? b = some o → (∀ vs, o.data ≠ .fields vs) → ∃ sl, h4.get? b = some { o with slots := sl } := fun b o hb e nf => by
    obtain ⟨sl1, e1⟩ := up b o e nf
    obtain ⟨sl2, e2⟩ := up2 b _ e1 nf
    have e3 : h3.get? b = some _ := (sb2 b hb).trans e2
    obtain ⟨sl4, e4⟩ := up4 b _ e3 nf
    exact ⟨sl4, e4⟩
  refine tk _ _ ⟨a, PySem.W.hideAll B [ce.locals], { sI with heap := PySem.W.hideAll sI.heap [ce.locals] }, pins, σ, H1, cls, d, rfl, ?_, fun b o e hb => ?_, fun b o e nf => ?_, .inr (.inr (by rw [hst]; exact hh4)), na, os, ag, w⟩
  · exact I7.turned (t' := sI.toks) (fun b o hb e => PySem.W.hideAll_get _ e (by simpa using hb)) fC.1 fC.2.1 fC.2.2.2.1 fC.2.2.2.2.1 fC.2.2.2.2.2
  · have e' := PySem.W.of_hideAll _ e
    refine PySem.W.hideAll_get _ (nb b o e' hb) fun hm => ?_
    rw [PySem.W.hideAll_none _ hm] at e
    cases e
  · have e' := PySem.W.of_hideAll _ e
    have hb : b ≠ ce.locals := fun z => by
      rw [z, PySem.W.hideAll_none [ce.locals] (by simp)] at e
      cases e
    exact upC b o hb e' nf
end

section
variable {X : Cx} {g : G} {W : WX} {elt : Expr} {ma me : EM} {mc : Option EM} {pos : Pos} {tg iter : Expr} {t : TG} {f : TM} {wi : TI} {items : D → AH → Option (List D × (AH → Bool))} {ifs : List Expr} {scope : Scope} {own : List (Str × Nat)}
theorem PostE.rebase {α : List Addr} {H : Hp} {σ σ' : L2.St} {Q : VK} {o : EO} (q : PostE g W α H σ Q o) : PostE g (fun cls d _ H' => W cls d σ H') α H σ' Q o := by
  cases o with
  | ok d h => exact q
  | exc c h => exact q
  | bad => exact q
theorem de_lcX (hc : X.calm = true) (hN : X.N.Nodup) (hst : X.stack = X.env :: X.outer) (hf : X.env.frame = some X.env.locals) (tk : Takes X W) (hi : PI X tg iter wi) (io : IterOk g W wi ma items) (ok : BlkOk X.N X.env.scope scope own) (rg : ∀ W, RG g W t f) (gf : Goes f) (ot : OwnT t (own.map (·.2)))
    (hg : ∀ (s : Shared) (H : Hp) (C : Addr) (cl : List (Str × Addr)) (fp : List Addr) (xe : Value → Shared → Prop), PG ((X.blk s H scope (compEnvC scope cl C X.env) fp).wish xe) tg t)
    (ht : ∀ (s : Shared) (H : Hp) (C : Addr) (cl : List (Str × Addr)) (fp : List Addr) (xe : Value → Shared → Prop) (W' : WX), Pas ((X.blk s H scope (compEnvC scope cl C X.env) fp).wish xe) W' → PTs ((X.blk s H scope (compEnvC scope cl C X.env) fp).wish xe) ifs (tTs g W' mc))
    (he : ∀ (s : Shared) (H : Hp) (C : Addr) (cl : List (Str × Addr)) (fp : List Addr) (xe : Value → Shared → Prop) (W' : WX), Pas ((X.blk s H scope (compEnvC scope cl C X.env) fp).wish xe) W' → PE ((X.blk s H scope (compEnvC scope cl C X.env) fp).wish xe) elt (tE g W' me))
    (hs : ∀ x, foldedSetIterable iter X.env x = pure x := by intro _; rfl) : PE X (.ListComp elt [⟨tg, iter, ifs, 0⟩] scope pos) (tE g W (lcM ma items f mc me (own.map (·.2)))) := by
  refine ⟨fun pins s σ H Q I q => ?_⟩
  rw [eval_ListComp]
  have hfree : ∀ y ∈ scope.names, y.2 = .free → ∃ c, X.env.cells.lookup y.1 = some c := fun y hy e => by
    rcases ok.free y hy e with k | k
    · exact I.ok.has _ (.inl k)
    · exact I.ok.has _ (.inr k)
  have hwi : wi σ H fun J H1 => ∃ α1 h1 τ ds live, Rep g α1 h1 H1 ∧ DenS g α1 H1 τ σ ∧ PostE g W α1 H1 σ Q (lcLoop live f mc me (own.map (·.2)) τ h1.length ds (h1 ++ [.lst []])) ∧
      WalkOf g α1 H1 ds live J := by
    refine io σ H _ ?_
    obtain ⟨α, h, τ, R, s', q⟩ := q
    refine ⟨α, h, τ, R, s', ?_⟩
    unfold lcM at q
    cases e0 : ma τ h with
    | exc c h1 => rw [e0] at q; exact q
    | bad => rw [e0] at q; exact q
    | ok d h1 =>
      rw [e0] at q
      intro α1 H1 E1 R1 _
      have p1 := PostE.mono q E1
      simp only [EO.bind] at p1
      split at p1
      · rename_i ds live hit
        exact ⟨ds, live, hit, fun J wk => ⟨α1, h1, τ, ds, live, R1, s'.ext E1, p1, wk⟩⟩
      · exact p1.elim
  refine comp_ends rfl hs (closure_ok hfree) ok.kind (fun y hy e => by rw [ok.uniq y hy, e]) (thn (hi.run pins s σ H _ I hwi) fun xv s1 hx => thn hx fun itv s2 h2 => ?_)
  obtain ⟨it, fp, tn, J, H2, e, I2, T, st2, f2, α1, h1, τ, ds, live, R1, sl1, p1, stop, go, yld⟩ := h2
  subst e
  refine wpAny_newObj_type (newEnv_comp ?_) (by show 0 ≤ sizeLine; decide)
  generalize hL : s2.heap.objs.size = L
  have hLn : H2 L = none := I2.hok.fresh (Nat.le_of_eq hL)
  obtain ⟨R2, E2, D2⟩ := new_list R1 (ds := []) (vs := []) .nil hLn
  generalize hs3 : ({ s2 with heap := s2.heap.push { cls := .type "list", data := .seq ([] : List Value).toArray } } : Shared) = s3
  have h3 : s3.heap = s2.heap.push { cls := .type "list", data := .seq ([] : List Value).toArray } := by rw [← hs3]
  have I3 : Inv X pins σ (upd H2 L (.lst [])) s3 := by
    rw [← hs3]
    refine I2.laid (t' := s2.toks) (fun b o e => Heap.get?_push_of_some _ e) (Nat.le_of_eq hL) ⟨Nat.zero_le _, [], 0, .nil, ?_⟩
    rw [← hL]
    exact Heap.get?_push_size _ rfl
  have f3 : ∀ b ∈ fp, FpOk X pins (upd H2 L (.lst [])) b ∧ b < s3.heap.objs.size := fun b hb => by
    obtain ⟨o, e, _⟩ := T.obj _ _ st2 b hb
    have hlt := Heap.lt_size e
    refine ⟨⟨?_, (f2 b hb).2⟩, by rw [h3, Heap.size_push]; exact Nat.lt_succ_of_lt hlt⟩
    rw [upd_ne (by rw [← hL]; exact Nat.ne_of_lt hlt)]
    exact (f2 b hb).1
  have st3 : tn 0 s3.heap := T.keep _ _ _ st2 fun b _ o e => by rw [h3]; exact Heap.get?_push_of_some _ e
  have I4 := block_start I3 ok hN f3
  show codeAny _ _ (.compStart (.ListComp elt [⟨tg, iter, ifs, 0⟩] scope pos) 0 (.ref it) (.ref L) (compEnvC scope (cellsFrom (s3.heap.objs.size + 1) scope.names (cloFrom X.env.cells scope.names [])) s3.heap.objs.size X.env))
    (endC (model X.prog X.w) X.A X.xe (EP X pins σ Q) (.ref L) (compEnvC scope (cellsFrom (s3.heap.objs.size + 1) scope.names (cloFrom X.env.cells scope.names [])) s3.heap.objs.size X.env)) { s3 with heap := pushCells (s3.heap.push { cls := .type "dict", data := .dict #[] }) scope.names }
  generalize hce : compEnvC scope (cellsFrom (s3.heap.objs.size + 1) scope.names (cloFrom X.env.cells scope.names [])) s3.heap.objs.size X.env = ce at I4 ⊢
  have cL : ce.locals = s3.heap.objs.size := by subst hce; rfl
  have cF : ce.frame = X.env.frame := by subst hce; rfl
  generalize hH3 : upd H2 L (.lst []) = H3 at *
  have nfp : ∀ b ∈ fp, H3 b = none := fun b hb => (f3 b hb).1.1
  generalize hs4 : ({ s3 with heap := pushCells (s3.heap.push { cls := .type "dict", data := .dict #[] }) scope.names } : Shared) = s4 at I4 ⊢
  have st4 : tn 0 s4.heap := T.keep _ _ _ st3 fun b _ o e => by rw [← hs4]; exact pushCells_keeps _ _ _ _ (Heap.get?_push_of_some _ e)
  -- the wish of the block
  have tkY := blk_pas (scope := scope) (fp := fp) (ce := ce) (Q := EP X pins σ Q) (acc' := fun _ _ => True) (acc := .ref L) hst hf tk I3 (fun b hb => (f3 b hb).1) cL cF
  generalize hZ : (notedBy (model X.prog X.w) X.A ce fun e s' => endC (model X.prog X.w) X.A X.xe (EP X pins σ Q) (.ref L) ce (.error e) s') = Z at tkY
  have I5 : Inv ((X.blk s3 H3 scope ce fp).wish Z) [] (wipe σ (own.map (·.2))) H3 s4 := I4.wish Z
  have pg : PG ((X.blk s3 H3 scope ce fp).wish Z) tg t := by rw [← hce]; exact hg _ _ _ _ _ _
  have pt : PTs ((X.blk s3 H3 scope ce fp).wish Z) ifs (tTs g (fun cls d _ H' => W cls d σ H') mc) := by rw [← hce]; exact ht _ _ _ _ _ _ _ (by rw [hce]; exact tkY)
  have pe : PE ((X.blk s3 H3 scope ce fp).wish Z) elt (tE g (fun cls d _ H' => W cls d σ H') me) := by rw [← hce]; exact he _ _ _ _ _ _ _ (by rw [hce]; exact tkY)
  have stat : ∀ {σ' : L2.St} {H' : Hp} {s' : Shared}, Inv ((X.blk s3 H3 scope ce fp).wish Z) [] σ' H' s' → (∀ b ∈ fp, H' b = none) → ∀ b ∈ fp, FpOk ((X.blk s3 H3 scope ce fp).wish Z) [] H' b := fun {σ' H' s'} I' hn b hb =>
    ⟨hn b hb, (I'.ok.exf b hb).1, I'.ok.exfs b hb, .inl hb, fun x c e => (I'.ok.exf b hb).2 x c e, fun p hp => absurd (show p ∈ ([] : List (Addr × Obj)) ++ [] from hp) (by simp)⟩
  have loop : codeAny (model X.prog X.w) X.A (.compLoop (.ListComp elt [⟨tg, iter, ifs, 0⟩] scope pos) 0 (.ref it) (.ref L) ce) (endC (model X.prog X.w) X.A X.xe (EP X pins σ Q) (.ref L) ce) s4 := by
    refine compLoop_any (fun n s' => ∃ i H', Inv ((X.blk s3 H3 scope ce fp).wish Z) [] (wipe σ (own.map (·.2))) H' s' ∧ tn i s'.heap ∧ (∀ b ∈ fp, H' b = none) ∧ n = ds.length - i ∧
      ∃ α' h', Ext (α1 ++ [L]) H3 α' H' ∧ Rep g α' h' H' ∧ PostE g W α' H' σ Q (lcLoop live f mc me (own.map (·.2)) τ h1.length (ds.drop i) h')) ?_ ds.length ⟨0, H3, I5, st4, nfp, by simp, α1 ++ [L], _, .refl, R2, PostE.mono p1 E2⟩
    rintro n s5 ⟨i, H5, J5, st5, n5, rfl, α', h', E', R', p'⟩
    rw [hZ]
    have EE := E2.trans E'
    have DD' := Den.ext E' _ _ D2
    by_cases hi : i < ds.length
    · have hd : ds.drop i = ds[i] :: ds.drop (i + 1) := by rw [List.drop_eq_getElem_cons hi]
      have hgi : ds[i]? = some ds[i] := List.getElem?_eq_getElem hi
      rw [hd] at p'
      simp only [lcLoop] at p'
      split at p'
      · rename_i hl
        have ti := T.item ((X.blk s3 H3 scope ce fp).wish Z) rfl rfl rfl hc i [] s5 _ H5 Z J5 (stat J5 n5) st5 (go α' H5 h' EE R' hl i _ hgi)
        refine thn ti fun r s6 ⟨u, hr, h6⟩ => ?_
        subst hr
        refine thn h6 fun _ s7 ⟨x, H7, I7, r7, y7, st7, n7⟩ => ?_
        obtain ⟨E3, R3, D3⟩ := yld α' H5 h' x H7 EE R' hl i _ hgi y7
        have s3' : DenS g α' H7 (wipeD τ (own.map (·.2))) (wipe σ (own.map (·.2))) := wipe_wipeD ((sl1.ext EE).ext E3) _
        have I7' := I7.pinned (stat I7 n7) (T.obj _ _ st7)
        -- the turn's end
        have fin : ∀ {s' : Shared} {H' : Hp} {σ8 : L2.St}, Inv ((X.blk s3 H3 scope ce fp).wish Z) ([] ++ pinsAt fp s7.heap) σ8 H' s' → wipe σ8 (own.map (·.2)) = wipe σ (own.map (·.2)) → (∃ α' h', Ext (α1 ++ [L]) H3 α' H' ∧ Rep g α' h' H' ∧ PostE g W α' H' σ Q (lcLoop live f mc me (own.map (·.2)) τ h1.length (ds.drop (i + 1)) h')) →
            ∃ m, m < ds.length - i ∧ ∃ i H', Inv ((X.blk s3 H3 scope ce fp).wish Z) [] (wipe σ (own.map (·.2))) H' s' ∧ tn i s'.heap ∧ (∀ b ∈ fp, H' b = none) ∧ m = ds.length - i ∧
              ∃ α' h', Ext (α1 ++ [L]) H3 α' H' ∧ Rep g α' h' H' ∧ PostE g W α' H' σ Q (lcLoop live f mc me (own.map (·.2)) τ h1.length (ds.drop i) h') := fun {s' H' σ8} I' hw8 k => by
          have pin' : ∀ b ∈ fp, ∀ o, s7.heap.get? b = some o → s'.heap.get? b = some o ∧ H' b = none := fun b hb o e =>
            let z := I'.pin (b, o) (List.mem_append_right _ (List.mem_append_right _ (mem_pinsAt hb e)))
            ⟨z.1, z.2.1⟩
          have hl : (wipe σ (own.map (·.2))).length = σ8.length := by rw [← hw8, wipe_length]
          refine ⟨ds.length - (i + 1), by omega, i + 1, H', (I'.unpinned (pins := [])).weak hl (fun j v e => ?_), T.keep _ _ _ st7 fun b hb o e => (pin' b hb o e).1, fun b hb => ?_, rfl, k⟩
          · rw [← hw8] at e
            exact (wipe_some e).1
          · obtain ⟨o, e, _⟩ := T.obj _ _ st7 b hb
            exact (pin' b hb o e).2
        split at p'
        · rename_i τ4 h4 e4
          have p4 := PostE.mono p' E3
          have stp : t x (wipe σ (own.map (·.2))) H7 fun σ8 H8 => wipe σ8 (own.map (·.2)) = wipe σ (own.map (·.2)) ∧ ∃ α4, Ext α' H7 α4 H8 ∧ Rep g α4 h4 H8 ∧ DenS g α4 H8 τ4 σ8 := by
            refine ot x _ H7 _ (rg W α' h' H7 _ _ x _ _ R3 s3' D3 ?_)
            rw [e4]
            exact fun α4 H4 σ4 E4 R4 s4 hw => ⟨by rw [hw, wipe_wipe], α4, E4, R4, s4⟩
          refine thn (pg.run _ s7 _ H7 x u _ I7' r7 stp) fun _ s8 ⟨σ8, H8, I8, hw8, α4, E4, R4, sl4⟩ => ?_
          have p5 := PostE.mono p4 E4
          have EE4 := (E'.trans E3).trans E4
          -- behind the tests
          have after : ∀ (k : Bool) (α5 : List Addr) (h5 : AH) (H9 : Hp) (s9 : Shared), Inv ((X.blk s3 H3 scope ce fp).wish Z) ([] ++ pinsAt fp s7.heap) σ8 H9 s9 → Ext α4 H8 α5 H9 → Rep g α5 h5 H9 → PostE g W α5 H9 σ Q (match DD.D.bl k with
              | .bl true => (me τ4 h5).bind fun y h3 => match h3[h1.length]? with
                | some (.lst acc) => if acc.length < sizeLine then lcLoop live f mc me (own.map (·.2)) τ h1.length (ds.drop (i + 1)) (h3.set h1.length (.lst (acc ++ [y]))) else .bad
                | _ => .bad
              | .bl false => lcLoop live f mc me (own.map (·.2)) τ h1.length (ds.drop (i + 1)) h5
              | _ => .bad) → (if k = true then wpAny (model X.prog X.w) X.A (eval elt ce) (fun x s₄ => wpAny (model X.prog X.w) X.A (call (.builtin "list.append") [.ref L, x]) (fun _ s₅ => ∃ m, m < ds.length - i ∧ ∃ i H', Inv ((X.blk s3 H3 scope ce fp).wish Z) [] (wipe σ (own.map (·.2))) H' s₅ ∧ tn i s₅.heap ∧ (∀ b ∈ fp, H' b = none) ∧ m = ds.length - i ∧
              ∃ α' h', Ext (α1 ++ [L]) H3 α' H' ∧ Rep g α' h' H' ∧ PostE g W α' H' σ Q (lcLoop live f mc me (own.map (·.2)) τ h1.length (ds.drop i) h')) Z s₄) Z s9
                else ∃ m, m < ds.length - i ∧ ∃ i H', Inv ((X.blk s3 H3 scope ce fp).wish Z) [] (wipe σ (own.map (·.2))) H' s9 ∧ tn i s9.heap ∧ (∀ b ∈ fp, H' b = none) ∧ m = ds.length - i ∧
              ∃ α' h', Ext (α1 ++ [L]) H3 α' H' ∧ Rep g α' h' H' ∧ PostE g W α' H' σ Q (lcLoop live f mc me (own.map (·.2)) τ h1.length (ds.drop i) h')) := by
            intro k α5 h5 H9 s9 I9 E5 R5 p6
            cases k with
            | false => exact iteF (fin I9 hw8 ⟨α5, h5, EE4.trans E5, R5, p6⟩)
            | true =>
              refine iteT ?_
              refine thn (pe.run _ s9 σ8 H9 _ I9 ⟨α5, h5, τ4, R5, sl4.ext E5, PostE.bind (PostE.rebase p6)⟩) fun z s10 ⟨yv, H10, I10, r10, α6, dy, h6, E6, R6, D6, p7⟩ => ?_
              split at p7
              · rename_i acc hacc
                split at p7
                · rename_i hz
                  have DD6 := Den.ext E6 _ _ (Den.ext E5 _ _ (Den.ext E4 _ _ (Den.ext E3 _ _ DD')))
                  cases DD6 with
                  | ref hl6 =>
                    obtain ⟨ws, a1, a2⟩ := R6.ob _ _ _ hacc hl6
                    obtain ⟨b1, b2⟩ := put_list R6 hl6 a1 (a2.snoc D6)
                    refine app_ok (X := (X.blk s3 H3 scope ce fp).wish Z) I10 a1 (by rw [← a2.length]; exact hz) r10 fun s11 I11 => fin I11 hw8 ⟨α6, _, ((EE4.trans E5).trans E6).trans b2, b1, ?_⟩
                    have p8 := PostE.mono p7 b2
                    revert p8
                    generalize lcLoop live f mc me (own.map (·.2)) τ h1.length (ds.drop (i + 1)) (h6.set h1.length (.lst (acc ++ [dy]))) = oo
                    intro p8
                    cases oo with
                    | ok d h => exact p8
                    | exc c h => exact p8
                    | bad => exact p8
                · exact p7.elim
              · exact p7.elim
          cases mc with
          | none =>
            refine thn (pt.run _ s8 σ8 H8 (fun b H9 => b = true ∧ H9 = H8) I8 ⟨rfl, rfl⟩) fun b s9 ⟨H9, I9, q9⟩ => ?_
            obtain ⟨rfl, rfl⟩ := q9
            exact after true α4 h4 H9 s9 I9 .refl R4 p5
          | some c =>
            have rd : tTs g (fun cls d _ H' => W cls d σ H') (some c) σ8 H8 (fun b H9 => ∃ α5 h5, Ext α4 H8 α5 H9 ∧ Rep g α5 h5 H9 ∧ PostE g W α5 H9 σ Q (match DD.D.bl b with
              | .bl true => (me τ4 h5).bind fun y h3 => match h3[h1.length]? with
                | some (.lst acc) => if acc.length < sizeLine then lcLoop live f (some c) me (own.map (·.2)) τ h1.length (ds.drop (i + 1)) (h3.set h1.length (.lst (acc ++ [y]))) else .bad
                | _ => .bad
              | .bl false => lcLoop live f (some c) me (own.map (·.2)) τ h1.length (ds.drop (i + 1)) h5
              | _ => .bad)) := by
              show tT g _ c σ8 H8 _
              refine ⟨α4, h4, τ4, R4, sl4, PostE.imp (PostE.rebase (PostE.bind p5)) ?_⟩
              rintro z H5 ⟨α5, dz, h5, E5, R5, D5, p6⟩
              cases D5 <;> try exact False.elim p6
              rename_i k
              exact ⟨k, rfl, α5, h5, E5, R5, p6⟩
            refine thn (pt.run _ s8 σ8 H8 _ I8 rd) fun b s9 ⟨H9, I9, α5, h5, E5, R5, p6⟩ => ?_
            exact after b α5 h5 H9 s9 I9 E5 R5 p6
        · exact p'.elim
      · exact p'.elim
    · have hd : ds.drop i = [] := List.drop_eq_nil_of_le (by omega)
      rw [hd] at p'
      simp only [lcLoop] at p'
      split at p'
      · rename_i hl
        have td := T.done ((X.blk s3 H3 scope ce fp).wish Z) rfl rfl rfl hc i [] s5 _ H5 Z J5 (stat J5 n5) st5 (stop α' H5 h' EE R' hl i (by omega))
        refine thn td fun r s6 ⟨hr, I6⟩ => ?_
        subst hr
        have I7 : Inv X pins σ H5 s6 := I3.call' (ch := fp) I6.os I6.base I6.hok I6.bare fun b hb => ⟨(f3 b hb).1.2.2.2.1, (f3 b hb).1.2.1, (f3 b hb).1.2.2.2.2.1, (f3 b hb).1.2.2.2.2.2⟩
        have nC : H5 ce.locals = none := I6.free
        obtain ⟨m, hn, _⟩ := I6.loc
        have fC : FpOk X pins H5 ce.locals := I3.fpOk (Nat.le_of_eq cL.symm) nC
        obtain ⟨f0, f1, f2', f3', f4, f5⟩ := fC
        refine ⟨m, hn, fun h'' sb => ⟨.ref L, H5, I7.turned (t' := s6.toks) (fun b o hb e => (sb.2 b hb).trans e) f0 f1 f3' f4 f5, rfl, p' α' H5 _ .refl R' DD'⟩⟩
      · exact p'.elim
  exact codeAny_compStart_list loop (T.self X.A 0 _ _ _ st4 loop)
end
end DD
end

section
set_option Elab.async false
set_option linter.all false
set_option maxRecDepth 100000
set_option maxHeartbeats 2000000
namespace DD
open PySem L2
/-! ### more built-ins: str, more walks: zip, enumerate, range of two -/
def strF : List D → AH → EO
  | [.int i], h => if i.natAbs.log2 < 1920 then .ok (.str (toString i)) h else .bad
  | [.str x], h => .ok (.str x) h
  | [.bl b], h => .ok (.str (if b then "True" else "False")) h
  | [.non], h => .ok (.str "None") h
  | _, _ => .bad
def rStrAny : List V → Hp → VK → Prop := fun xs H Q => (∃ i, xs = [.int i] ∧ i.natAbs.log2 < 1920 ∧ Q (.str (toString i)) H) ∨ (∃ a, xs = [.str a] ∧ Q (.str a) H) ∨ (∃ b : Bool, xs = [.bl b] ∧ Q (.str (if b then "True" else "False")) H) ∨ (xs = [.non] ∧ Q (.str "None") H)
section
variable {X : Cx} {g : G} {W : WX} {a b c e o elt : Expr} {es : List Expr} {ma mb mo me : EM} {mc : Option EM} {m : LM} {pos p apos cpos : Pos} {σ : L2.St} {H H' : Hp} {Q : VK} {Dn : Ends} {α α' : List Addr} {τ : SL} {sa sb : SM} {st : Stmt} {rest : List Stmt} {body : List Stmt} {tg iter : Expr}
theorem call_strAny : CallR X (.type "str") rStrAny := by
  intro pins s σ H xs us Q I r h
  rcases h with h | h | ⟨b, rfl, q⟩ | ⟨rfl, q⟩
  · exact call_str_int pins s σ H xs us Q I r h
  · exact SkE.call_str_str pins s σ H xs us Q I r h
  · obtain ⟨u, rfl, r1⟩ := vals1 r
    cases r1
    exact PySem.P.str_of_bool ⟨.str _, H, I.tok _, ⟨_, rfl⟩, q⟩
  · obtain ⟨u, rfl, r1⟩ := vals1 r
    cases r1
    exact PySem.P.str_of_none ⟨.str _, H, I.tok _, ⟨_, rfl⟩, q⟩
theorem rs_str : RSn g W rStrAny strF := by
  intro α h H σ vs ds Q R hd p
  cases hd with
  | nil => exact p.elim
  | cons h1 h2 =>
    cases h2 with
    | cons _ _ => cases h1 <;> exact False.elim p
    | nil =>
      cases h1 <;> try exact False.elim p
      · exact .inr (.inr (.inr ⟨rfl, p α H _ .refl R (.str _)⟩))
      · exact .inr (.inr (.inl ⟨_, rfl, p α H _ .refl R (.str _)⟩))
      · simp only [strF] at p
        split at p
        · rename_i hi
          exact .inl ⟨_, rfl, hi, p α H _ .refl R (.str _)⟩
        · exact p.elim
      · exact .inr (.inl ⟨_, rfl, p α H _ .refl R (.str _)⟩)
end
end DD
end

section
set_option Elab.async false
set_option linter.all false
set_option maxRecDepth 100000
set_option maxHeartbeats 2000000
namespace DD
open PySem L2 PySem.Spec PyProof.Rows
/-! ### a tuple by 0, by 1 -/
theorem tuple_mul1 (l : Addr) (items : Array Value) (n : Nat) (dd : Option Addr) (sl : Array (Option Value)) (u : Tok) :
    Meets (Builtin.«tuple.__mul__» ⟨[.ref l, .int 1 u], []⟩) (fun _ R s => s.heap.get? l = some { cls := .type "tuple", dict := dd, data := .seq items n, slots := sl } ∧
      R (.ok (.ret (Value.ref l))) s) :=
  .of_wp fun prog w A R s h => by
    obtain ⟨hp, g, d, tk, os⟩ := s
    obtain ⟨hl, h⟩ := h
    have f1 := AutoSeq1.idx_int
    wp_walk using wpAny_loadPart' hl
    exact ⟨_, rfl, h⟩
theorem tuple_mul0 (l : Addr) (items : Array Value) (n : Nat) (dd : Option Addr) (sl : Array (Option Value)) (u : Tok) (hi : items.isEmpty = false) :
    Meets (Builtin.«tuple.__mul__» ⟨[.ref l, .int 0 u], []⟩) (fun _ R s => s.heap.get? l = some { cls := .type "tuple", dict := dd, data := .seq items n, slots := sl } ∧
      R (.ok (.ret (Value.ref s.heap.objs.size))) { s with heap := s.heap.push { cls := Value.type "tuple", data := Data.seq #[] }, toks := s.toks }) :=
  .of_wp fun prog w A R s h => by
    obtain ⟨hp, g, d, tk, os⟩ := s
    obtain ⟨hl, h⟩ := h
    have f1 := AutoSeq1.idx_int
    have c1 : (items.isEmpty || (0 : Int) == 1) = false := by rw [hi]; rfl
    wp_walk using wpAny_loadPart' hl
    exact ⟨_, rfl, h⟩
def rRep01 (K : PySem.W.Frag) : R2 := fun x y H Q => ∃ l k xs, x = .ref l ∧ y = .int k ∧ SqT K H l xs ∧ xs ≠ [] ∧ ((k = 1 ∧ Q (.ref l) H) ∨ (k = 0 ∧ ∀ p, H p = none → Q (.ref p) (upd H p (.tup []))))
theorem op_rep01 {X : Cx} : OpR X (binaryOp .Mult) (rRep01 X.K) := by
  intro pins s σ H x y v u Q I rx ry h
  obtain ⟨l, k, xs, rfl, rfl, hT, hne, q⟩ := h
  cases rx
  obtain ⟨t, rfl⟩ := ry
  have hT' := hT
  obtain ⟨its, r, ⟨⟨cls, dd, data, sl⟩, ho, hc, n, hd⟩, hs⟩ := I.tuple hT
  simp only at hc hd
  subst hc hd
  have hn : its ≠ [] := fun e => hne (by
    have hle : its.length = xs.length := r.length.symm
    rw [e] at hle
    exact List.eq_nil_of_length_eq_zero hle.symm)
  have hi : its.toArray.isEmpty = false := by
    cases its with
    | nil => exact absurd rfl hn
    | cons a b => rfl
  rcases q with ⟨rfl, q⟩ | ⟨rfl, q⟩
  · exact wpAny_binaryOp_repeat_ref (T := "tuple") (U := "int") (by decide) ⟨_, ho, rfl⟩ (fun s' => typeIs_int s' 1 t) noFill_tuple_mul F.fills_int_mul F.slot_int_rmul repeat_tuple F.slot_int_index.lookup
      (call_meets F.slot_int_rmul (typeIs_int s 1 t) F.entry_int_rmul (F.args_int_rmul_2 _ _) (int_rmul_tuple 1 t l its.toArray n dd sl)
        ⟨ho, rfl, ⟨_, ho, rfl⟩, call_meets F.slot_tuple_mul ⟨_, ho, rfl⟩ F.entry_tuple_mul (F.args_tuple_mul_2 _ _) (tuple_mul1 l its.toArray n dd sl t) ⟨ho, ⟨.ref l, H, I, rfl, q⟩⟩⟩)
  · refine wpAny_binaryOp_repeat_ref (T := "tuple") (U := "int") (by decide) ⟨_, ho, rfl⟩ (fun s' => typeIs_int s' 0 t) noFill_tuple_mul F.fills_int_mul F.slot_int_rmul repeat_tuple F.slot_int_index.lookup
      (call_meets F.slot_int_rmul (typeIs_int s 0 t) F.entry_int_rmul (F.args_int_rmul_2 _ _) (int_rmul_tuple 0 t l its.toArray n dd sl)
        ⟨ho, rfl, ⟨_, ho, rfl⟩, call_meets F.slot_tuple_mul ⟨_, ho, rfl⟩ F.entry_tuple_mul (F.args_tuple_mul_2 _ _) (tuple_mul0 l its.toArray n dd sl t hi) ⟨ho, ?_⟩⟩)
    refine ⟨.ref s.heap.objs.size, _, I.laid (t' := s.toks) (o := .tup []) (fun b ob q => Heap.get?_push_of_some _ q) (Nat.le_refl _) ?_, rfl, q _ (I.hok.fresh (Nat.le_refl _))⟩
    exact ⟨by decide +kernel, [], .nil, IsTup.new _ #[]⟩
/-! ### * -/
def CMb' (i j : Int) : Bool := decide (i.natAbs < 2 ^ 64) || decide (j.natAbs < 2 ^ 64) || decide (i.natAbs.log2 + j.natAbs.log2 < 1000000)
def mulM : D → D → AH → EO
  | .int i, .int j, h => if CMb' i j = true then .ok (.int (i * j)) h else .bad
  | .tup ds, .int k, h => if ds.isEmpty = true then .bad else if k = 1 then .ok (.tup ds) h else if k = 0 then .ok (.tup []) h else if k < 0 ∨ 1000 < k ∨ 1000 < ds.length then .bad else .ok (.tup (List.replicate k.toNat ds).flatten) h
  | _, _, _ => .bad
def rMulAny (K : PySem.W.Frag) : R2 := fun x y H Q => rI CMul (fun i j => .int (i * j)) x y H Q ∨ rI CMulW (fun i j => .int (i * j)) x y H Q ∨ rRep01 K x y H Q ∨ rRepT K x y H Q
section
variable {X : Cx} {g : G} {W : WX} {a b c e o elt : Expr} {es : List Expr} {ma mb mo me : EM} {mc : Option EM} {m : LM} {pos p apos cpos : Pos} {σ : L2.St} {H H' : Hp} {Q : VK} {Dn : Ends} {α α' : List Addr} {τ : SL} {sa sb : SM} {st : Stmt} {rest : List Stmt} {body : List Stmt} {tg iter : Expr}
theorem op_mulAny : OpR X (binaryOp .Mult) (rMulAny X.K) := OpR.or op_mul (OpR.or op_mulW (OpR.or op_rep01 op_repT))
theorem DenL.rep {ds : List D} {vs : List V} (h : DenL g α H ds vs) : ∀ (n : Nat), DenL g α H (List.replicate n ds).flatten (List.replicate n vs).flatten
  | 0 => .nil
  | n + 1 => by simp only [List.replicate_succ, List.flatten_cons]; exact h.append (h.rep n)
theorem rs_mul : RS2 g W (rMulAny g.K) mulM := by
  intro α h H σ x y dx dy Q R hx hy p
  cases hx <;> cases hy <;> try exact False.elim p
  · rename_i i j
    simp only [mulM] at p
    split at p
    · rename_i hc
      unfold CMb' at hc
      rw [Bool.or_eq_true, Bool.or_eq_true, decide_eq_true_eq, decide_eq_true_eq, decide_eq_true_eq] at hc
      rcases hc with (hc | hc) | hc
      · exact .inl ⟨i, j, rfl, rfl, .inl (by omega), p α H _ .refl R (.int _)⟩
      · exact .inl ⟨i, j, rfl, rfl, .inr (by omega), p α H _ .refl R (.int _)⟩
      · exact .inr (.inl ⟨i, j, rfl, rfl, hc, p α H _ .refl R (.int _)⟩)
    · exact p.elim
  · rename_i l ds vs hs hl k
    simp only [mulM] at p
    split at p
    · exact p.elim
    · rename_i hne
      have hv : vs ≠ [] := fun e => by
        subst e
        cases hl
        exact hne rfl
      split at p
      · rename_i hk
        exact .inr (.inr (.inl ⟨l, k, _, rfl, rfl, hs, hv, .inl ⟨hk, p α H _ .refl R (.tup hs hl)⟩⟩))
      · split at p
        · rename_i hk
          refine .inr (.inr (.inl ⟨l, k, _, rfl, rfl, hs, hv, .inr ⟨hk, fun z hz => ?_⟩⟩))
          obtain ⟨a1, a2, a3⟩ := new_tup R DenL.nil hz
          exact p _ _ _ a2 a1 a3
        · split at p
          · exact p.elim
          · rename_i n1 n0 nb
            refine .inr (.inr (.inr ⟨l, k, _, rfl, rfl, hs, hv, by omega, by omega, ?_, fun z hz => ?_⟩))
            · have := hl.length
              omega
            · obtain ⟨a1, a2, a3⟩ := new_tup R (DenL.rep hl k.toNat) hz
              exact p _ _ _ a2 a1 a3

/-! ### a lambda told: try: return what() / except E: return 'E' -/
def toldM (c : Nat → Option Bool) (ret : Str) (mb : EM) : EM := fun τ h => match mb τ h with
  | .ok d h' => .ok d h'
  | .exc i h' => match c i with
    | some true => .ok (.str ret) h'
    | _ => .bad
  | .bad => .bad
theorem Ext.ofN {H1 : Hp} (e : LamX.ExtN H H1) : Ext α H α H1 := by
  refine ⟨fun _ _ h => h, fun b xs r => ?_, fun b o xs q => e b _ q fun ps z => (by cases z), fun c q h => e c _ h fun ps z => (by cases z)⟩
  rcases r with r | ⟨ob, r⟩
  · exact .inl (e b _ r fun ps z => by cases z)
  · exact .inr ⟨ob, e b _ r fun ps z => by cases z⟩
theorem Rep.extN {h : AH} {H1 : Hp} (R : Rep g α h H) (e : LamX.ExtN H H1) (t : LamX.Tabs g.T H1) : Rep g α h H1 := by
  refine ⟨R.len, R.nd, t, fun l o a h1 h2 => ?_⟩
  have x := R.ob l o a h1 h2
  obtain ⟨z, e1, e2⟩ := x.some_of
  refine x.ext (Ext.ofN e) ?_
  rw [e1]
  exact e a z e1 e2
theorem lam_takes {A : Around} {outer : List Env} {s : Shared} {E : XK} {scope : Scope} {f c' : Addr} : Takes (LamX.lamCx X A outer s H E scope f c') (fun cls d _ H => E cls d H) :=
  takes_of (X := LamX.lamCx X A outer s H E scope f c') rfl rfl rfl rfl
/-- x(lambda: body) where x tells -/
theorem de_told {x a e' : Str} {fg c P CS : Addr} {k : Nat} {pg : Arguments} {sg : Scope} {dV kV doc pm cdv ct oc : Value} {an od : Option Addr} {osl : Array (Option Value)} {Ng : List Str}
    {params : Arguments} {body : Expr} {scope : Scope} {lpos : Pos} {ret : Str} {ci : Nat → Option Bool} {mb : EM} {j : Nat} {p1 p2 p3 p4 p5 p6 p7 p8 : Pos}
    (hcl : ∀ i b, ci i = some b → PySem.W.exmOne X.K (.ref (g.cl i)) (.ref CS) = some b)
    (hge : sg.names.lookup e' = some .globalImplicit) (hme : X.mg e' = some (.ref CS)) (hde : (e' == ("__debug__" : Str)) = false) (h0 : ∀ f : Addr, (L2.start Ng [V.ref f])[0]? = some (some (V.ref f)))
    (hg : Gl X x) (hm : X.mg x = some (.ref fg)) (hk : PySem.W.keepIn X.K (.ref fg) = true)
    (lk : X.K.lookup fg = some ⟨oc, od, .func (PySem.W.fnOf x x pg [.Try [.Return (some (.Call (.Name a p1) [] [] p2)) p3] [.ExceptHandler (some (.Name e' p4)) none [.Return (some (.Constant (.str ret) j p5)) p6] p7] [] [] p8] sg dV kV doc pm an cdv ct), osl⟩) (hcg : PySem.W.codeIn X.K cdv x = true)
    (hb : L2.Binds X.K (PySem.W.fnOf x x pg [.Try [.Return (some (.Call (.Name a p1) [] [] p2)) p3] [.ExceptHandler (some (.Name e' p4)) none [.Return (some (.Constant (.str ret) j p5)) p6] p7] [] [] p8] sg dV kV doc pm an cdv ct) [a] []) (Sg : FnScope Ng [a] sg) (hNg : Ng[0]? = some a) (hva : Vis sg a)
    (TB : LamX.TabB X.base X.mg c P) (hcode : X.env.code = .ref c) (hmT : (P, X.env.qual ++ "<lambda>") ∈ g.T) (hu : ∀ p ∈ g.T, p.1 = P → p.2 = X.env.qual ++ "<lambda>") (hr : Room (k + 2) X.A) (L : LamX.LamS X.env.scope scope) (hdef : defaultsOf params X.env = ([], []))
    (hbind : ∀ (q : Str) (cl : List (Str × Addr)) (pm cv ctv : Value), bindArgs (PySem.W.kla_fn "<lambda>" q params body scope cl pm cv ctv) ⟨[], []⟩ = pure [])
    (hbody : ∀ (A : Around) (outer : List Env) (s : Shared) (H : Hp) (E : XK) (f c' : Addr), Room k (A.deeper (LamX.lamEnv X scope s.heap.objs.size f c')) → PE (LamX.lamCx X A outer s H E scope f c') body (tE g (fun cls d _ H => E cls d H) mb))
    (hdb : (x == ("__debug__" : Str)) = false := by decide) (hd : (a == ("__debug__" : Str)) = false := by decide) (hcd : (a == ("__classdict__" : Str)) = false := by decide) :
    PE X (.Call (.Name x p) [.Lambda params body scope lpos] [] pos) (tE g W (toldM ci ret mb)) := by
  refine PE.imp (LamX.pe_lamcall (t := fun E => tE g (fun cls d _ H => E cls d H) mb) hg hm hk lk hcg hb Sg hNg hva (LamX.told_gives hge hme hde h0) TB hcode hmT hu hr L hdef hbind hbody hdb hd hcd) fun σ H Q q => ?_
  obtain ⟨α, h, τ, R, s, q⟩ := q
  refine ⟨R.tabs, fun H1 e T1 => ?_⟩
  refine ⟨α, h, τ, R.extN e T1, s.ext (Ext.ofN e), ?_⟩
  have q := PostE.mono q (Ext.ofN (α := α) e)
  unfold toldM at q
  cases em : mb τ h with
  | ok d h' => rw [em] at q; exact q
  | exc i h' =>
    rw [em] at q
    simp only at q
    split at q
    · rename_i hc
      intro α' H' e' R'
      exact ⟨true, hcl i true hc, fun _ => q α' H' _ e' R' (.str _), fun z => by cases z⟩
    · exact q.elim
  | bad => rw [em] at q; exact q.elim
end
end DD
end

section
set_option Elab.async false
set_option linter.all false
set_option maxRecDepth 100000
set_option maxHeartbeats 2000000
namespace DD
open PySem L2
/-! ### short words -/
def negF : D → AH → EO
  | .int i, h => .ok (.int (-i)) h
  | _, _ => .bad
section
variable {X : Cx} {g : G} {W : WX} {a b c e o elt : Expr} {es : List Expr} {ma mb mo me : EM} {mc : Option EM} {m : LM} {pos p apos cpos : Pos} {σ : L2.St} {H H' : Hp} {Q : VK} {Dn : Ends} {α α' : List Addr} {τ : SL} {sa sb : SM} {st : Stmt} {rest : List Stmt} {body : List Stmt} {tg iter : Expr}
theorem rs_neg : RS1 g W (rU fun i => .int (-i)) negF := by
  intro α h H σ x dx Q R hx p
  cases hx <;> try exact False.elim p
  exact ⟨_, rfl, p α H _ .refl R (.int _)⟩
theorem dk_int {i : Int} {j : Nat} : PE X (.Constant (.int i) j pos) (tE g W (cM (.int i))) := de_c (fun _ _ => .int _) pe_int
theorem dk_str {i : Str} {j : Nat} : PE X (.Constant (.str i) j pos) (tE g W (cM (.str i))) := de_c (fun _ _ => .str _) pe_str
theorem dk_bl {i : Bool} {j : Nat} : PE X (.Constant (.bool i) j pos) (tE g W (cM (.bl i))) := de_c (fun _ _ => .bl _) pe_bl
theorem dk_non {j : Nat} : PE X (.Constant .none j pos) (tE g W (cM .non)) := de_c (fun _ _ => .non) pe_non
theorem dg_int {x : Str} {i : Int} (hm : ∃ t, X.mg x = some (.int i t)) (hg : Gl X x := by rfl) (hd : (x == ("__debug__" : Str)) = false := by decide) : PE X (.Name x pos) (tE g W (cM (.int i))) := by
  obtain ⟨t, hm⟩ := hm
  exact de_c (fun _ _ => .int _) (pe_glob hg hm ⟨t, rfl⟩ hd)
theorem dg_str {x : Str} {i : Str} (hm : ∃ t, X.mg x = some (.str i t)) (hg : Gl X x := by rfl) (hd : (x == ("__debug__" : Str)) = false := by decide) : PE X (.Name x pos) (tE g W (cM (.str i))) := by
  obtain ⟨t, hm⟩ := hm
  exact de_c (fun _ _ => .str _) (pe_glob hg hm ⟨t, rfl⟩ hd)
theorem dv (i : Nat) {x : Str} (hN : X.N[i]? = some x := by rfl) (hv : Vis X.env.scope x := by first | exact Or.inl rfl | exact Or.inr (Or.inl rfl) | exact Or.inr (Or.inr rfl)) (hd : (x == ("__debug__" : Str)) = false := by decide)
    (hcd : (x == ("__classdict__" : Str)) = false := by decide) : PE X (.Name x pos) (tE g W (varM i)) := de_var (pe_var hN hv hd hcd)
/-- xs.append(e) -/
theorem d_append (ho : PE X o (tE g W mo)) (ha : PA X [e] (tL g W m))
    (hbase : attributeBase o "append" X.env (eval o X.env) = eval o X.env := by rfl)
    (hfew : ((backTo cpos (starEach [e] X.env)).all (fun x => !x.1) && (backToKw cpos (keywordEach [] X.env)).all (fun x => x.1.isSome)
      && decide (([e] : List Expr).length + ([] : List Keyword).length + (if ([] : List Keyword).isEmpty then 0 else 1) < 30)) = true := by rfl)
    (hline : (apos.endLine == cpos.line) = true := by rfl) (hs : starEach [e] X.env = (false, eval e X.env) :: starEach [] X.env := by rfl) (hplain : (backTo cpos (starEach [] X.env)).any (·.1) = false := by rfl) :
    PE X (.Call (.Attribute o "append" apos) [e] [] cpos) (tE g W (bmM mo m appendF)) :=
  de_bm PySem.F.plainAttrs_list PySem.F.slot_list_append PySem.F.type_list_append mt_append rs_append ho ha hbase hfew hline hs hplain
theorem d_extend (hK : g.K = X.K) (ho : PE X o (tE g W mo)) (ha : PA X [e] (tL g W m))
    (hbase : attributeBase o "extend" X.env (eval o X.env) = eval o X.env := by rfl)
    (hfew : ((backTo cpos (starEach [e] X.env)).all (fun x => !x.1) && (backToKw cpos (keywordEach [] X.env)).all (fun x => x.1.isSome)
      && decide (([e] : List Expr).length + ([] : List Keyword).length + (if ([] : List Keyword).isEmpty then 0 else 1) < 30)) = true := by rfl)
    (hline : (apos.endLine == cpos.line) = true := by rfl) (hs : starEach [e] X.env = (false, eval e X.env) :: starEach [] X.env := by rfl) (hplain : (backTo cpos (starEach [] X.env)).any (·.1) = false := by rfl) :
    PE X (.Call (.Attribute o "extend" apos) [e] [] cpos) (tE g W (bmM mo m extendF)) :=
  de_bm PySem.F.plainAttrs_list PySem.F.slot_list_extend PySem.F.type_list_extend mt_extAny (by rw [← hK]; exact rs_extend) ho ha hbase hfew hline hs hplain
theorem d_find (ho : PE X o (tE g W mo)) (he : PE X e (tE g W ma))
    (hs : starEach [e] X.env = [(false, eval e X.env)] := by rfl) (hbase : attributeBase o "find" X.env (eval o X.env) = eval o X.env := by rfl) (hline : (apos.endLine == pos.line) = true := by rfl) :
    PE X (.Call (.Attribute o "find" apos) [e] [] pos) (tE g W (smM mo ma findS)) :=
  de_sm PySem.F.slot_str_find PySem.F.type_str_find mt_find rs_find ho he hs hbase hline
theorem d_join (hK : g.K = X.K) (ho : PE X o (tE g W mo)) (he : PE X e (tE g W ma))
    (hs : starEach [e] X.env = [(false, eval e X.env)] := by rfl) (hbase : attributeBase o "join" X.env (eval o X.env) = eval o X.env := by rfl) (hline : (apos.endLine == pos.line) = true := by rfl) :
    PE X (.Call (.Attribute o "join" apos) [e] [] pos) (tE g W (smM mo ma joinS)) :=
  de_sm PySem.F.slot_str_join PySem.F.type_str_join mt_join (by rw [← hK]; exact rs_join) ho he hs hbase hline
theorem d_len (hK : g.K = X.K) (hm : X.mg "len" = none) (ha : PE X e (tE g W ma)) (hg : Gl X "len" := by rfl) (hs : starEach [e] X.env = (false, eval e X.env) :: starEach [] X.env := by rfl) (hpl : (backTo pos (starEach [] X.env)).any (·.1) = false := by rfl) :
    PE X (.Call (.Name "len" p) [e] [] pos) (tE g W (callM (consM ma nilM) lenF)) :=
  de_callB call_lenAny (by rw [← hK]; exact rs_len) hg hm PySem.boot_len (dl_cons ha dl_nil hs) (by decide) (by decide) hs hpl
/-! ### a def of the head -/
theorem fn_okD2 {P : Program} {w : World} {K : PySem.W.Frag} {mg : Str → Option Value} {base : Heap} {x qual : Str} {st : Stmt} {N ps : List Str} {m : SM} {dvs : List V} {kws : List (Str × V)} {k : Nat} {f : Addr} {fd : FuncData} (F : FunD K x qual (defArgs st) (defBody st) (defScope st) dvs kws f fd) (S : FnScope N ps (defScope st))
    (hb : ∀ (A : Around) (outer : List Env) (s : Shared) (H : Hp) (E : XK), Room k (A.deeper (PyProof.Rows.envOfC qual (defScope st) s.heap.objs.size f fd.code)) →
      PSs (cxOf (L2.CX P w) P w K mg base N qual (defScope st) f fd.code A outer s H E) (defBody st) (tS g (fun cls d _ H => E cls d H) m)) :
    FnOk P w K mg base (L2.CX P w) (k + 1) f fd ps (spD g ps.length fun ds h => retOf (m (startD N.length ds) h)) := by
  have hb' := hb
  obtain ⟨oc, od, dV, kV, doc, pm, an, cdv, ct, osl, e, lk, hcd, _, _⟩ := F.ex
  have ec : fd.code = cdv := by rw [e] <;> rfl
  rw [ec] at hb'
  subst e
  refine fn_of lk hcd S (fun vs H Q E q => ?_) fun A outer s H vs Q E hr q => ?_
  · obtain ⟨α, h, ds, _, dl, hn, _⟩ := q
    rw [← dl.length, hn]
  · obtain ⟨α, h, ds, R, dl, hn, q⟩ := q
    have q : PostE g (fun cls d _ H => E cls d H) α H [] Q (retOf (m (startD N.length ds) h)) := q
    refine ⟨_, hb' A outer s H E hr, α, h, startD N.length ds, R, den_start dl, ?_⟩
    cases e : m (startD N.length ds) h with
    | nx τ' h' => rw [e] at q; exact fun α' H' σ' E' R' s' => q α' H' .non E' R' .non
    | rt d h' => rw [e] at q; exact q
    | bk τ' h' => rw [e] at q; exact q.elim
    | ct τ' h' => rw [e] at q; exact q.elim
    | exc c τ' h' => rw [e] at q; exact fun α' H' σ' E' R' s' => q α' H' E' R'
    | bad => rw [e] at q; exact q.elim
/-- nothing is promised at the bottom of a recursion -/
theorem fn_bot {P : Program} {w : World} {K : PySem.W.Frag} {mg : Str → Option Value} {base : Heap} {CX : CXT} {k n : Nat} {f : Addr} {fd : FuncData} {ps : List Str} : FnOk P w K mg base CX k f fd ps (spD g n fun _ _ => .bad) :=
  ⟨fun vs H Q E q => by obtain ⟨_, _, _, _, _, _, z⟩ := q; exact z.elim, fun A outer s H args us vs Q E hr he hb hv q => by obtain ⟨_, _, _, _, _, _, z⟩ := q; exact z.elim⟩
end
/-! ### code objects of defs that make lambdas -/
def codeA (K : PySem.W.Frag) (p : Str × Option Str) : Addr := match K.lookup (He.fAd K p) with
  | some ⟨_, _, .func fd, _⟩ => (match fd.code with
    | .ref c => c
    | _ => 0)
  | _ => 0
def tabA (K : PySem.W.Frag) (p : Str × Option Str) : Addr := match K.lookup (codeA K p) with
  | some ⟨_, _, .fields vs, _⟩ => (match (vs[11]? : Option Value) with
    | some (.ref P) => P
    | _ => 0)
  | _ => 0
def lamB (K : PySem.W.Frag) (ts : List Addr) (p : Str × Option Str) : Bool := (match K.lookup (He.fAd K p) with
  | some ⟨_, _, .func fd, _⟩ => decide (fd.code = .ref (codeA K p))
  | _ => false) && PySem.W.codeHdIn K (codeA K p) (tabA K p) && decide (tabA K p ∈ ts) && (K.lookup (tabA K p)).isNone
theorem lamB_ok {K : PySem.W.Frag} {ts : List Addr} {p : Str × Option Str} (h : lamB K ts p = true) : (∀ x y par body sc dvs kws fd, FunD K x y par body sc dvs kws (He.fAd K p) fd → fd.code = .ref (codeA K p)) ∧ PySem.W.codeHdIn K (codeA K p) (tabA K p) = true ∧ tabA K p ∈ ts ∧ K.lookup (tabA K p) = none := by
  unfold lamB at h
  simp only [Bool.and_eq_true, decide_eq_true_eq, Option.isNone_iff_eq_none] at h
  obtain ⟨⟨⟨h1, h2⟩, h3⟩, h4⟩ := h
  refine ⟨fun x y par body sc dvs kws fd F => ?_, h2, h3, h4⟩
  obtain ⟨oc, od, dV, kV, doc, pm, an, cdv, ct, osl, e, lk, hcd, _, _⟩ := F.ex
  rw [lk] at h1
  simpa using h1
/-- the def's data at a place -/
def fdA (K : PySem.W.Frag) (p : Str × Option Str) : FuncData := match K.lookup (He.fAd K p) with
  | some ⟨_, _, .func fd, _⟩ => fd
  | _ => PySem.W.fnOf "" "" ⟨[], [], none, [], [], none, []⟩ [] { kind := .function, names := [], isGenerator := false, isCoroutine := false, more := [] } .none .none .none .none none .none .none
theorem fdA_ok {K : PySem.W.Frag} {p : Str × Option Str} {x q : Str} {par : Arguments} {body : List Stmt} {sc : Scope} {dvs : List V} {kws : List (Str × V)} (h : ∃ fd, FunD K x q par body sc dvs kws (He.fAd K p) fd) : FunD K x q par body sc dvs kws (He.fAd K p) (fdA K p) := by
  obtain ⟨fd, F⟩ := h
  obtain ⟨oc, od, dV, kV, doc, pm, an, cdv, ct, osl, e, lk, hcd, _, _⟩ := F.ex
  have : fdA K p = fd := by
    unfold fdA
    rw [lk] <;> rfl
  rw [this]
  exact F
theorem binds_allD {K : PySem.W.Frag} {x qual : Str} {params : Arguments} {body : List Stmt} {scope : Scope} {dvs : List V} {kws : List (Str × V)} {f : Addr} {fd : FuncData} {ps : List Str} (F : FunD K x qual params body scope dvs kws f fd)
    (h : ∀ (dV kV doc pm : Value) (an : Option Addr) (cdv ct : Value) (us : List Value), us.length = ps.length → bindArgs (PySem.W.fnOf x qual params body scope dV kV doc pm an cdv ct) ⟨us, []⟩ = pure (ps.zip us)) : Binds K fd ps [] := by
  obtain ⟨oc, od, dV, kV, doc, pm, an, cdv, ct, osl, rfl, lk, hcd, hD, hK⟩ := F.ex
  exact .all (h dV kV doc pm an cdv ct)
theorem fn_okD3 {P : Program} {w : World} {K : PySem.W.Frag} {mg : Str → Option Value} {base : Heap} {g : G} {x qual : Str} {st : Stmt} {N ps : List Str} {m : SM} {dvs : List V} {kws : List (Str × V)} {k n : Nat} {f : Addr} {fd : FuncData} {F : List D → AH → EO} (Fd : FunD K x qual (defArgs st) (defBody st) (defScope st) dvs kws f fd) (S : FnScope N ps (defScope st)) (hn : ps.length = n) (hF : F = fun ds h => retOf (m (startD N.length ds) h))
    (hb : ∀ (A : Around) (outer : List Env) (s : Shared) (H : Hp) (E : XK), Room k (A.deeper (PyProof.Rows.envOfC qual (defScope st) s.heap.objs.size f fd.code)) →
      PSs (cxOf (L2.CX P w) P w K mg base N qual (defScope st) f fd.code A outer s H E) (defBody st) (tS g (fun cls d _ H => E cls d H) m)) :
    FnOk P w K mg base (L2.CX P w) (k + 1) f fd ps (spD g n F) := by
  subst hn hF
  exact fn_okD2 Fd S hb
end DD
end

section
set_option Elab.async false
set_option linter.all false
set_option maxRecDepth 100000
set_option maxHeartbeats 2000000
/-! dicts, texts by a number, list(..) -/
namespace DD
open PySem L2
theorem u1 {n : Nat} (h : n + 64 < cLine) : n + 1 < cLine := Nat.lt_of_le_of_lt (Nat.add_le_add_left (by decide : 1 ≤ 64) _) h
/-! ### keys and entries -/
def keyD : D → Option Key
  | .int i => some (.inl i)
  | .str x => some (.inr x)
  | _ => none
def valK (kvs : List (Key × D)) (k : Key) : Option D := (kvs.find? fun kv => decide (kv.1 = k)).map (·.2)
def putKD (kvs : List (Key × D)) (k : Key) (d : D) : List (Key × D) :=
  if (kvs.any fun kv => decide (kv.1 = k)) = true then kvs.map fun kv => if kv.1 = k then (kv.1, d) else kv else kvs ++ [(k, d)]
def dropKD (kvs : List (Key × D)) (k : Key) : List (Key × D) := kvs.filter fun kv => decide (kv.1 ≠ k)
section
variable {g : G} {α : List Addr} {H : Hp} {d : D} {v : V} {k : Key} {kvs : List (Key × D)} {ws : List (Key × V)}
theorem keyD_den (e : keyD d = some k) (h : Den g α H d v) : v = kV k := by
  cases h <;> simp only [keyD, Option.some.injEq, reduceCtorEq] at e <;> subst e <;> rfl
/-- entries stand for entries -/
inductive DenK (g : G) (α : List Addr) (H : Hp) : List (Key × D) → List (Key × V) → Prop
  | nil : DenK g α H [] []
  | cons {k : Key} {d : D} {v : V} {kvs : List (Key × D)} {ws : List (Key × V)} : Den g α H d v → DenK g α H kvs ws → DenK g α H ((k, d) :: kvs) ((k, v) :: ws)
theorem DenK.of : ∀ {kvs : List (Key × D)} {ws : List (Key × V)}, ws.map (·.1) = kvs.map (·.1) → DenL g α H (kvs.map (·.2)) (ws.map (·.2)) → DenK g α H kvs ws
  | [], [], _, _ => .nil
  | [], _ :: _, e, _ => by simp at e
  | _ :: _, [], e, _ => by simp at e
  | (k, d) :: kvs, (j, v) :: ws, e, h => by
    simp only [List.map_cons, List.cons.injEq] at e
    obtain ⟨rfl, e⟩ := e
    cases h with
    | cons h1 h2 => exact .cons h1 (DenK.of e h2)
theorem DenK.to (h : DenK g α H kvs ws) : ws.map (·.1) = kvs.map (·.1) ∧ DenL g α H (kvs.map (·.2)) (ws.map (·.2)) := by
  induction h with
  | nil => exact ⟨rfl, .nil⟩
  | cons h1 h2 ih => exact ⟨by simp [ih.1], .cons h1 ih.2⟩
theorem DenK.len (h : DenK g α H kvs ws) : ws.length = kvs.length := by
  induction h with
  | nil => rfl
  | cons h1 h2 ih => simp [ih]
theorem DenK.val_some (h : DenK g α H kvs ws) (e : valK kvs k = some d) : ∃ v, valV ws k = some v ∧ Den g α H d v := by
  induction h with
  | nil => cases e
  | @cons j d' v' kvs ws h1 h2 ih =>
    by_cases q : j = k
    · unfold valK at e
      rw [List.find?_cons_of_pos (by simpa using q)] at e
      simp only [Option.map_some, Option.some.injEq] at e
      subst e
      exact ⟨v', valV_pos q, h1⟩
    · unfold valK at e
      rw [List.find?_cons_of_neg (by simpa using q)] at e
      obtain ⟨v, a, b⟩ := ih e
      exact ⟨v, by rw [valV_neg q]; exact a, b⟩
theorem DenK.val_none (h : DenK g α H kvs ws) (e : valK kvs k = none) : valV ws k = none := by
  induction h with
  | nil => rfl
  | @cons j d' v' kvs ws h1 h2 ih =>
    by_cases q : j = k
    · unfold valK at e
      rw [List.find?_cons_of_pos (by simpa using q)] at e
      cases e
    · unfold valK at e
      rw [List.find?_cons_of_neg (by simpa using q)] at e
      rw [valV_neg q]
      exact ih e
theorem DenK.any (h : DenK g α H kvs ws) : (ws.any fun kv => decide (kv.1 = k)) = (kvs.any fun kv => decide (kv.1 = k)) := by
  induction h with
  | nil => rfl
  | cons h1 h2 ih => simp only [List.any_cons, ih]
theorem DenK.snoc (h : DenK g α H kvs ws) (hd : Den g α H d v) : DenK g α H (kvs ++ [(k, d)]) (ws ++ [(k, v)]) := by
  induction h with
  | nil => exact .cons hd .nil
  | cons h1 h2 ih => exact .cons h1 ih
theorem DenK.upd (h : DenK g α H kvs ws) (hd : Den g α H d v) : DenK g α H (kvs.map fun kv => if kv.1 = k then (kv.1, d) else kv) (ws.map fun kv => if kv.1 = k then (kv.1, v) else kv) := by
  induction h with
  | nil => exact .nil
  | @cons j d' v' kvs ws h1 h2 ih =>
    simp only [List.map_cons]
    by_cases q : j = k
    · rw [if_pos q, if_pos q]; exact .cons hd ih
    · rw [if_neg q, if_neg q]; exact .cons h1 ih
theorem DenK.put (h : DenK g α H kvs ws) (hd : Den g α H d v) : DenK g α H (putKD kvs k d) (putK ws k v) := by
  unfold putKD putK
  rw [h.any]
  split
  · exact h.upd hd
  · exact h.snoc hd
theorem DenK.drop (h : DenK g α H kvs ws) : DenK g α H (dropKD kvs k) (dropK ws k) := by
  unfold dropKD dropK
  induction h with
  | nil => exact .nil
  | @cons j d' v' kvs ws h1 h2 ih =>
    by_cases q : j = k
    · rw [List.filter_cons_of_neg (by simpa using q), List.filter_cons_of_neg (by simpa using q)]; exact ih
    · rw [List.filter_cons_of_pos (by simpa using q), List.filter_cons_of_pos (by simpa using q)]; exact .cons h1 ih
end
section
variable {X : Cx} {g : G} {W : WX} {a b c e o : Expr} {ma mb mc me mo mk : EM} {pos apos cpos : Pos} {σ : St} {H : Hp} {Q : VK} {α : List Addr} {h : AH} {l : Nat} {x : V}
theorem Rep.dct {p : Addr} {kvs : List (Key × D)} (R : Rep g α h H) (hl : α[l]? = some p) (e : h[l]? = some (.dct kvs)) : ∃ ws, H p = some (.dK ws) ∧ DenK g α H kvs ws := by
  obtain ⟨ws, a1, a2, a3⟩ := R.ob _ _ _ e hl
  exact ⟨ws, a1, DenK.of a2 a3⟩
/-! ### {} -/
def dnewM : EM := fun _ h => .ok (.ref h.length) (h ++ [.dct []])
theorem de_dnew : PE X (.Dict [] [] pos) (tE g W dnewM) := by
  refine PE.imp pe_dnewK fun σ H Q p => ?_
  obtain ⟨α, h, τ, R, s, p⟩ := p
  intro z hz
  obtain ⟨a1, a2⟩ := R.push (o := .dct []) hz (u := .dK []) ⟨[], upd_same, rfl, .nil⟩
  refine p _ _ _ a2 a1 (.ref ?_)
  rw [← R.len]
  simp
/-! ### d[k] -/
def kgM (kvs : List (Key × D)) (y : D) (h : AH) : EO := match keyD y with
  | some k => match valK kvs k with
    | some d => .ok d h
    | none => .bad
  | none => .bad
def dgetM (x y : D) (h : AH) : EO := match x with
  | .ref l => match h[l]? with
    | some (.dct kvs) => kgM kvs y h
    | some (.fdct kvs) => kgM kvs y h
    | _ => .bad
  | _ => .bad
theorem Rep.fdct {p : Addr} {kvs : List (Key × D)} (R : Rep g α h H) (hl : α[l]? = some p) (e : h[l]? = some (.fdct kvs)) : ∃ o ws, H p = some (.frz o (.dK ws)) ∧ DenK g α H kvs ws := by
  obtain ⟨o, ws, a1, a2, a3⟩ := R.ob _ _ _ e hl
  exact ⟨o, ws, a1, DenK.of a2 a3⟩
theorem rs_dget : RS2 g W (fun x y H Q => ∃ a v, x = .ref a ∧ DGet H a y (some v) ∧ Q v H) dgetM := by
  intro α h H σ x y dx dy Q R hx hy p
  cases hx <;> try exact False.elim p
  rename_i l a hl
  simp only [dgetM] at p
  split at p
  · rename_i kvs e
    unfold kgM at p
    split at p
    · rename_i k ek
      split at p
      · rename_i d ed
        obtain ⟨ws, b1, b2⟩ := R.dct hl e
        obtain ⟨v, c1, c2⟩ := b2.val_some ed
        refine ⟨a, v, rfl, .inl ⟨ws, k, .inl b1, keyD_den ek hy, c1.symm⟩, p α H v .refl R c2⟩
      · exact p.elim
    · exact p.elim
  · rename_i kvs e
    unfold kgM at p
    split at p
    · rename_i k ek
      split at p
      · rename_i d ed
        obtain ⟨o, ws, b1, b2⟩ := R.fdct hl e
        obtain ⟨v, c1, c2⟩ := b2.val_some ed
        refine ⟨a, v, rfl, .inl ⟨ws, k, .inr ⟨o, b1⟩, keyD_den ek hy, c1.symm⟩, p α H v .refl R c2⟩
      · exact p.elim
    · exact p.elim
  · exact p.elim
theorem de_dget (hu : X.A.units + 1 < cLine) (ho : PE X o (tE g W mo)) (hi : PE X e (tE g W me)) (hs : NoSl e) : PE X (.Subscript o e pos) (tE g W (binM mo me dgetM)) :=
  PE.imp (pe_dget hu ho hi hs) fun _ _ _ p => tE_bin rs_dget p
/-! ### k in d -/
def dinM (y x : D) (h : AH) : EO := match x with
  | .ref l => match h[l]? with
    | some (.dct kvs) => (match keyD y with
      | some k => .ok (.bl ((valK kvs k).isSome)) h
      | none => .bad)
    | some (.fdct kvs) => (match keyD y with
      | some k => .ok (.bl ((valK kvs k).isSome)) h
      | none => .bad)
    | _ => .bad
  | _ => .bad
def dninM (y x : D) (h : AH) : EO := match x with
  | .ref l => match h[l]? with
    | some (.dct kvs) => (match keyD y with
      | some k => .ok (.bl (!(valK kvs k).isSome)) h
      | none => .bad)
    | some (.fdct kvs) => (match keyD y with
      | some k => .ok (.bl (!(valK kvs k).isSome)) h
      | none => .bad)
    | _ => .bad
  | _ => .bad
theorem dget_opt {p : Addr} {kvs : List (Key × D)} {k : Key} {dy : D} {y : V} (R : Rep g α h H) (hl : α[l]? = some p) (e : h[l]? = some (.dct kvs) ∨ h[l]? = some (.fdct kvs)) (ek : keyD dy = some k) (hy : Den g α H dy y) : ∃ o, DGet H p y o ∧ o.isSome = (valK kvs k).isSome ∧ ∀ d, valK kvs k = some d → ∃ v, o = some v ∧ Den g α H d v := by
  obtain ⟨ws, b1, b2⟩ : ∃ ws, Rd H p (.dK ws) ∧ DenK g α H kvs ws := by
    rcases e with e | e
    · obtain ⟨ws, b1, b2⟩ := R.dct hl e; exact ⟨ws, .inl b1, b2⟩
    · obtain ⟨o, ws, b1, b2⟩ := R.fdct hl e; exact ⟨ws, .inr ⟨o, b1⟩, b2⟩
  refine ⟨valV ws k, .inl ⟨ws, k, b1, keyD_den ek hy, rfl⟩, ?_, fun d ed => b2.val_some ed⟩
  cases ev : valK kvs k with
  | none => rw [b2.val_none ev]; rfl
  | some d => obtain ⟨v, c1, c2⟩ := b2.val_some ev; rw [c1]; rfl
theorem rs_din : RS2 g W (fun y x H Q => ∃ a o, x = .ref a ∧ DGet H a y o ∧ Q (.bl o.isSome) H) dinM := by
  intro α h H σ y x dy dx Q R hy hx p
  cases hx <;> try exact False.elim p
  rename_i l a hl
  simp only [dinM] at p
  split at p
  · rename_i kvs e
    split at p
    · rename_i k ek
      obtain ⟨o, c1, c2, _⟩ := dget_opt R hl (.inl e) ek hy
      exact ⟨a, o, rfl, c1, by rw [c2]; exact p α H _ .refl R (.bl _)⟩
    · exact p.elim
  · rename_i kvs e
    split at p
    · rename_i k ek
      obtain ⟨o, c1, c2, _⟩ := dget_opt R hl (.inr e) ek hy
      exact ⟨a, o, rfl, c1, by rw [c2]; exact p α H _ .refl R (.bl _)⟩
    · exact p.elim
  · exact p.elim
theorem rs_dnin : RS2 g W (fun y x H Q => ∃ a o, x = .ref a ∧ DGet H a y o ∧ Q (.bl (!o.isSome)) H) dninM := by
  intro α h H σ y x dy dx Q R hy hx p
  cases hx <;> try exact False.elim p
  rename_i l a hl
  simp only [dninM] at p
  split at p
  · rename_i kvs e
    split at p
    · rename_i k ek
      obtain ⟨o, c1, c2, _⟩ := dget_opt R hl (.inl e) ek hy
      exact ⟨a, o, rfl, c1, by rw [c2]; exact p α H _ .refl R (.bl _)⟩
    · exact p.elim
  · rename_i kvs e
    split at p
    · rename_i k ek
      obtain ⟨o, c1, c2, _⟩ := dget_opt R hl (.inr e) ek hy
      exact ⟨a, o, rfl, c1, by rw [c2]; exact p α H _ .refl R (.bl _)⟩
    · exact p.elim
  · exact p.elim
theorem de_din (hu : X.A.units + 1 < cLine) (hi : PE X e (tE g W me)) (ho : PE X o (tE g W mo)) (hm : behindInMarks .In o = false) : PE X (.Compare e [.In] [o] pos) (tE g W (binM me mo dinM)) :=
  PE.imp (pe_cmp (pc_din hu hi ho) hm) fun _ _ _ p => tE_bin rs_din p
theorem de_dnin (hu : X.A.units + 1 < cLine) (hi : PE X e (tE g W me)) (ho : PE X o (tE g W mo)) (hm : behindInMarks .NotIn o = false) : PE X (.Compare e [.NotIn] [o] pos) (tE g W (binM me mo dninM)) :=
  PE.imp (pe_cmp (pc_dnotin hu hi ho) hm) fun _ _ _ p => tE_bin rs_dnin p
theorem dt_din (hu : X.A.units + 1 < cLine) (hi : PE X e (tE g W me)) (ho : PE X o (tE g W mo)) (hm : behindInMarks .In o = false) : PT X (.Compare e [.In] [o] pos) (tT g W (binM me mo dinM)) :=
  PT.imp (pt_cmp (pc_din hu hi ho) hm) fun _ _ _ p => tE_bin rs_din p
theorem dt_dnin (hu : X.A.units + 1 < cLine) (hi : PE X e (tE g W me)) (ho : PE X o (tE g W mo)) (hm : behindInMarks .NotIn o = false) : PT X (.Compare e [.NotIn] [o] pos) (tT g W (binM me mo dninM)) :=
  PT.imp (pt_cmp (pc_dnotin hu hi ho) hm) fun _ _ _ p => tE_bin rs_dnin p
/-! ### d.get(k) -/
def isDO : Option O → Bool
  | some (.dct _) => true
  | some (.fdct _) => true
  | _ => false
def kvO : Option O → Option (List (Key × D))
  | some (.dct kvs) => some kvs
  | some (.fdct kvs) => some kvs
  | _ => none
theorem kvO_of {o : Option O} {kvs : List (Key × D)} (q : kvO o = some kvs) : o = some (.dct kvs) ∨ o = some (.fdct kvs) := by
  unfold kvO at q
  split at q
  · cases q; exact .inl rfl
  · cases q; exact .inr rfl
  · cases q
theorem Rep.isD {p : Addr} (R : Rep g α h H) (hl : α[l]? = some p) (e : isDO h[l]? = true) : IsD H p := by
  unfold isDO at e
  split at e
  · rename_i kvs q
    obtain ⟨ws, b1, b2⟩ := R.dct hl q; exact .inl ⟨ws, .inl b1⟩
  · rename_i kvs q
    obtain ⟨o, ws, b1, b2⟩ := R.fdct hl q; exact .inl ⟨ws, .inr ⟨o, b1⟩⟩
  · cases e
def dg1M (mo mk : EM) : EM := fun τ h => (mo τ h).bind fun d h1 => match d with
  | .ref l => (match isDO h1[l]? with
    | true => (mk τ h1).bind fun y h2 => match kvO h2[l]? with
      | some kvs => (match keyD y with
        | some k => .ok ((valK kvs k).getD .non) h2
        | none => .bad)
      | _ => .bad
    | false => .bad)
  | _ => .bad
theorem de_dget1 (hu : X.A.units + 1 < cLine) (ho : PE X o (tE g W mo)) (hk : PE X e (tE g W mk)) (m : M1 X o "get" apos e cpos) : PE X (.Call (.Attribute o "get" apos) [e] [] cpos) (tE g W (dg1M mo mk)) := by
  refine PE.imp (pe_dget1 hu ho hk m) fun σ H Q p => ?_
  obtain ⟨α, h, τ, R, s, p⟩ := p
  refine ⟨α, h, τ, R, s, PostE.imp (PostE.bind p) ?_⟩
  rintro v H1 ⟨α1, d, h1, E1, R1, D1, p1⟩
  cases D1 <;> try exact False.elim p1
  rename_i l a hl
  simp only [] at p1
  split at p1
  · rename_i e0
    refine ⟨a, rfl, R1.isD hl e0, α1, h1, τ, R1, s.ext E1, PostE.imp (PostE.bind p1) ?_⟩
    rintro y H2 ⟨α2, dy, h2, E2, R2, D2, p2⟩
    split at p2
    · rename_i kvs e2
      split at p2
      · rename_i k ek
        obtain ⟨ob, c1, c2, c3⟩ := dget_opt R2 (E2.pre _ _ hl) (kvO_of e2) ek D2
        refine ⟨ob, c1, ?_⟩
        cases ev : valK kvs k with
        | none =>
          rw [ev] at p2 c2
          have : ob = none := by cases ob with | none => rfl | some _ => cases c2
          subst this
          exact p2 α2 H2 _ .refl R2 .non
        | some d =>
          rw [ev] at p2
          obtain ⟨v, rfl, dv⟩ := c3 d ev
          exact p2 α2 H2 _ .refl R2 dv
      · exact p2.elim
    · exact p2.elim
  · exact p1.elim
/-! ### d[k] = v -/
def setDF (d k v : D) (h : AH) : Option AH := match d with
  | .ref l => match h[l]?, keyD k with
    | some (.dct kvs), some j => if kvs.length < sizeLine then some (h.set l (.dct (putKD kvs j v))) else none
    | _, _ => none
  | _ => none
theorem put_dct {p : Addr} {kvs kvs' : List (Key × D)} {ws' : List (Key × V)} (R : Rep g α h H) (hl : α[l]? = some p) (e : h[l]? = some (.dct kvs)) (k : DenK g α H kvs' ws') : Rep g α (h.set l (.dct kvs')) (upd H p (.dK ws')) ∧ Ext α H α (upd H p (.dK ws')) := by
  obtain ⟨ws, b1, _⟩ := R.dct hl e
  have E : Ext α H α (upd H p (.dK ws')) := Ext.put b1 True.intro
  obtain ⟨q1, q2⟩ := k.to
  exact R.write hl b1 True.intro (u' := .dK ws') (o := .dct kvs') ⟨ws', upd_same, q1, DenL.ext E _ _ q2⟩
theorem rset_dict : RSet g rSetD setDF := by
  intro α h h' H o i v d k w Q R hd hk hw e q
  cases hd <;> simp only [setDF, reduceCtorEq] at e
  rename_i l a hl
  split at e
  · rename_i kvs j ex ej
    split at e
    · rename_i hz
      cases e
      obtain ⟨ws, b1, b2⟩ := R.dct hl ex
      obtain ⟨c1, c2⟩ := put_dct R hl ex (b2.put (k := j) hw)
      exact ⟨a, _, rfl, .inl ⟨ws, j, b1, keyD_den ej hk, by rw [b2.len]; exact hz, rfl⟩, q _ c2 c1⟩
    · cases e
  · cases e
/-! ### a text by a number -/
def repS (z : Str) (n : Nat) : Str := if n = 0 then Str.empty else if n = 1 ∨ z.length = 0 then z else ⟨(List.replicate n z.cps).foldl (· ++ ·) #[]⟩
def repM (x y : D) (h : AH) : EO := match x, y with
  | .str z, .int k => if 0 ≤ k ∧ k ≤ 1000 ∧ z.length ≤ 1000 then .ok (.str (repS z k.toNat)) h else .bad
  | _, _ => .bad
def rRepS : R2 := fun x y H Q => ∃ z k, x = .str z ∧ y = .int k ∧ 0 ≤ k ∧ k ≤ 1000 ∧ z.length ≤ 1000 ∧ Q (.str (repS z k.toNat)) H
theorem rep_size (a : Array Nat) : ∀ (n : Nat) (acc : Array Nat), ((List.replicate n a).foldl (· ++ ·) acc).size = acc.size + n * a.size
  | 0, acc => by simp
  | n + 1, acc => by
    rw [List.replicate_succ, List.foldl_cons, rep_size a n, Array.size_append, Nat.succ_mul]
    omega
theorem rep_len (z : Str) (n : Nat) : Str.length ⟨(List.replicate n z.cps).foldl (· ++ ·) #[]⟩ = n * z.length := by
  show Array.size _ = _
  rw [rep_size]
  show 0 + n * z.cps.size = n * z.cps.size
  omega
theorem op_repS : OpR X (binaryOp .Mult) rRepS := by
  intro pins s σ H x y v u Q I rx ry h
  obtain ⟨z, k, rfl, rfl, k0, k1, hz, q⟩ := h
  obtain ⟨t, rfl⟩ := rx
  obtain ⟨t', rfl⟩ := ry
  refine P.mul_str (by
    have h1 : ¬ k < -(2 ^ 63 : Int) := by omega
    have h2 : ¬ k ≥ 2 ^ 63 := by omega
    rw [decide_eq_false h1, decide_eq_false h2]; rfl) (fun h1 _ => ?_) (fun h1 _ => ?_) ?_
  · have : (1000 : Int) ≤ (2 ^ 63 - 1) / k := by
      apply Int.le_ediv_of_mul_le (by omega)
      omega
    omega
  · have h4 : z.length * k.toNat ≤ 1000 * 1000 := Nat.mul_le_mul hz (by omega)
    show decide (_ > sizeLine) = false
    rw [sizeLine_eq]
    exact decide_eq_false (by omega)
  · unfold repS at q
    by_cases h1 : k < 1
    · rw [if_pos h1]
      have : k.toNat = 0 := by omega
      rw [this, if_pos rfl] at q
      exact ⟨by decide, ⟨.str Str.empty, H, I.tok _, ⟨_, rfl⟩, q⟩⟩
    · rw [if_neg h1]
      have : ¬ k.toNat = 0 := by omega
      rw [if_neg this] at q
      by_cases h2 : (k == 1 || z.length == 0) = true
      · rw [if_pos h2]
        have h3 : k.toNat = 1 ∨ z.length = 0 := by
          simp only [Bool.or_eq_true, beq_iff_eq] at h2
          omega
        rw [if_pos h3] at q
        exact ⟨.str z, H, I, ⟨_, rfl⟩, q⟩
      · rw [if_neg h2]
        have h3 : ¬ (k.toNat = 1 ∨ z.length = 0) := by
          simp only [Bool.or_eq_true, beq_iff_eq] at h2
          omega
        rw [if_neg h3] at q
        exact ⟨by rw [sizeLine_eq, rep_len]; have : k.toNat * z.length ≤ 1000 * 1000 := Nat.mul_le_mul (by omega) hz; omega, ⟨.str _, H, I.tok _, ⟨_, rfl⟩, q⟩⟩
theorem rs_rep : RS2 g W rRepS repM := by
  intro α h H σ x y dx dy Q R hx hy p
  cases hx <;> try exact False.elim p
  cases hy <;> try exact False.elim p
  rename_i z k
  simp only [repM] at p
  split at p
  · rename_i hc
    exact ⟨z, k, rfl, rfl, hc.1, hc.2.1, hc.2.2, p α H _ .refl R (.str _)⟩
  · exact p.elim
end
end DD
end

section
set_option Elab.async false
set_option linter.all false
set_option maxRecDepth 100000
set_option maxHeartbeats 2000000
/-! more of dicts, x in xs, sorted -/
namespace DD
open PySem L2
section
variable {X : Cx} {g : G} {W : WX} {a b c e f o : Expr} {ma mb mc me mf mo mk : EM} {pos apos cpos tpos : Pos} {σ : L2.St} {H : Hp} {Q : VK} {α : List Addr} {h : AH} {l : Nat} {x : V}
/-! ### d.get(k, x) -/
def dg2M (mo mk mx : EM) : EM := fun τ h => (mo τ h).bind fun d h1 => match d with
  | .ref l => (match isDO h1[l]? with
    | true => (mk τ h1).bind fun y h2 => (mx τ h2).bind fun z h3 => match kvO h3[l]? with
      | some kvs => (match keyD y with
        | some k => .ok ((valK kvs k).getD z) h3
        | none => .bad)
      | _ => .bad
    | false => .bad)
  | _ => .bad
theorem de_dget2 (hu : X.A.units + 1 < cLine) (ho : PE X o (tE g W mo)) (hk : PE X e (tE g W mk)) (hf : PE X f (tE g W mf)) (m : M2 X o "get" apos e f cpos) : PE X (.Call (.Attribute o "get" apos) [e, f] [] cpos) (tE g W (dg2M mo mk mf)) := by
  refine PE.imp (pe_dget2 hu ho hk hf m) fun σ H Q p => ?_
  obtain ⟨α, h, τ, R, s, p⟩ := p
  refine ⟨α, h, τ, R, s, PostE.imp (PostE.bind p) ?_⟩
  rintro v H1 ⟨α1, d, h1, E1, R1, D1, p1⟩
  cases D1 <;> try exact False.elim p1
  rename_i l a hl
  simp only [] at p1
  split at p1
  · rename_i e0
    refine ⟨a, rfl, R1.isD hl e0, α1, h1, τ, R1, s.ext E1, PostE.imp (PostE.bind p1) ?_⟩
    rintro y H2 ⟨α2, dy, h2, E2, R2, D2, p2⟩
    refine ⟨α2, h2, τ, R2, (s.ext E1).ext E2, PostE.imp (PostE.bind p2) ?_⟩
    rintro z H3 ⟨α3, dz, h3, E3, R3, D3, p3⟩
    split at p3
    · rename_i kvs e2
      split at p3
      · rename_i k ek
        obtain ⟨ob, c1, c2, c3⟩ := dget_opt R3 (E3.pre _ _ (E2.pre _ _ hl)) (kvO_of e2) ek (Den.ext E3 _ _ D2)
        refine ⟨ob, c1, ?_⟩
        cases ev : valK kvs k with
        | none =>
          rw [ev] at p3 c2
          have : ob = none := by cases ob with | none => rfl | some _ => cases c2
          subst this
          exact p3 α3 H3 _ .refl R3 D3
        | some d =>
          rw [ev] at p3
          obtain ⟨v, rfl, dv⟩ := c3 d ev
          exact p3 α3 H3 _ .refl R3 dv
      · exact p3.elim
    · exact p3.elim
  · exact p1.elim
/-! ### d.pop(k), d.pop(k, x), del d[k] -/
def dp1M (mo mk : EM) : EM := fun τ h => (mo τ h).bind fun d h1 => match d with
  | .ref l => (match h1[l]? with
    | some (.dct _) => (mk τ h1).bind fun y h2 => match h2[l]? with
      | some (.dct kvs) => (match keyD y with
        | some k => (match valK kvs k with
          | some d => .ok d (h2.set l (.dct (dropKD kvs k)))
          | none => .bad)
        | none => .bad)
      | _ => .bad
    | _ => .bad)
  | _ => .bad
theorem de_dpop1 (ho : PE X o (tE g W mo)) (hk : PE X e (tE g W mk)) (m : M1 X o "pop" apos e cpos) : PE X (.Call (.Attribute o "pop" apos) [e] [] cpos) (tE g W (dp1M mo mk)) := by
  refine PE.imp (pe_dpop1 ho hk m) fun σ H Q p => ?_
  obtain ⟨α, h, τ, R, s, p⟩ := p
  refine ⟨α, h, τ, R, s, PostE.imp (PostE.bind p) ?_⟩
  rintro v H1 ⟨α1, d, h1, E1, R1, D1, p1⟩
  cases D1 <;> try exact False.elim p1
  rename_i l a hl
  simp only [] at p1
  split at p1
  · rename_i kv0 e0
    obtain ⟨ws0, b1, b2⟩ := R1.dct hl e0
    refine ⟨a, rfl, .inl ⟨ws0, .inl b1⟩, α1, h1, τ, R1, s.ext E1, PostE.imp (PostE.bind p1) ?_⟩
    rintro y H2 ⟨α2, dy, h2, E2, R2, D2, p2⟩
    have hl2 := E2.pre _ _ hl
    split at p2
    · rename_i kvs e2
      split at p2
      · rename_i k ek
        split at p2
        · rename_i d ed
          obtain ⟨ws, c1, c2⟩ := R2.dct hl2 e2
          obtain ⟨v, d1, d2⟩ := c2.val_some ed
          obtain ⟨q1, q2⟩ := put_dct R2 hl2 e2 (c2.drop (k := k))
          exact ⟨ws, k, v, c1, keyD_den ek D2, d1, p2 α2 _ _ q2 q1 (Den.ext q2 _ _ d2)⟩
        · exact p2.elim
      · exact p2.elim
    · exact p2.elim
  · exact p1.elim
def dp2M (mo mk mx : EM) : EM := fun τ h => (mo τ h).bind fun d h1 => match d with
  | .ref l => (match h1[l]? with
    | some (.dct _) => (mk τ h1).bind fun y h2 => (mx τ h2).bind fun z h3 => match h3[l]? with
      | some (.dct kvs) => (match keyD y with
        | some k => (match valK kvs k with
          | some d => .ok d (h3.set l (.dct (dropKD kvs k)))
          | none => .ok z h3)
        | none => .bad)
      | _ => .bad
    | _ => .bad)
  | _ => .bad
theorem de_dpop2 (ho : PE X o (tE g W mo)) (hk : PE X e (tE g W mk)) (hf : PE X f (tE g W mf)) (m : M2 X o "pop" apos e f cpos) : PE X (.Call (.Attribute o "pop" apos) [e, f] [] cpos) (tE g W (dp2M mo mk mf)) := by
  refine PE.imp (pe_dpop2 ho hk hf m) fun σ H Q p => ?_
  obtain ⟨α, h, τ, R, s, p⟩ := p
  refine ⟨α, h, τ, R, s, PostE.imp (PostE.bind p) ?_⟩
  rintro v H1 ⟨α1, d, h1, E1, R1, D1, p1⟩
  cases D1 <;> try exact False.elim p1
  rename_i l a hl
  simp only [] at p1
  split at p1
  · rename_i kv0 e0
    obtain ⟨ws0, b1, b2⟩ := R1.dct hl e0
    refine ⟨a, rfl, .inl ⟨ws0, .inl b1⟩, α1, h1, τ, R1, s.ext E1, PostE.imp (PostE.bind p1) ?_⟩
    rintro y H2 ⟨α2, dy, h2, E2, R2, D2, p2⟩
    refine ⟨α2, h2, τ, R2, (s.ext E1).ext E2, PostE.imp (PostE.bind p2) ?_⟩
    rintro z H3 ⟨α3, dz, h3, E3, R3, D3, p3⟩
    have hl3 := E3.pre _ _ (E2.pre _ _ hl)
    split at p3
    · rename_i kvs e2
      split at p3
      · rename_i k ek
        obtain ⟨ws, c1, c2⟩ := R3.dct hl3 e2
        have hk := keyD_den ek (Den.ext E3 _ _ D2)
        cases ev : valK kvs k with
        | none =>
          rw [ev] at p3
          refine ⟨ws, k, c1, hk, fun v hv => ?_, fun _ => p3 α3 H3 _ .refl R3 D3⟩
          rw [c2.val_none ev] at hv
          cases hv
        | some d =>
          rw [ev] at p3
          obtain ⟨v, d1, d2⟩ := c2.val_some ev
          obtain ⟨q1, q2⟩ := put_dct R3 hl3 e2 (c2.drop (k := k))
          refine ⟨ws, k, c1, hk, fun v' hv => ?_, fun hv => ?_⟩
          · rw [d1] at hv
            cases hv
            exact p3 α3 _ _ q2 q1 (Den.ext q2 _ _ d2)
          · rw [d1] at hv; cases hv
      · exact p3.elim
    · exact p3.elim
  · exact p1.elim
def delM (mo mk : EM) : SM := fun τ h => (mo τ h).toS τ fun d h1 => (mk τ h1).toS τ fun y h2 => match d with
  | .ref l => (match h2[l]? with
    | some (.dct kvs) => (match keyD y with
      | some k => if (valK kvs k).isSome = true then .nx τ (h2.set l (.dct (dropKD kvs k))) else .bad
      | none => .bad)
    | _ => .bad)
  | _ => .bad
theorem ds_ddel (ho : PE X o (tE g W mo)) (hk : PE X e (tE g W mk)) : PS X (.Delete [.Subscript o e tpos] pos) (tS g W (delM mo mk)) := by
  refine PS.imp (ps_ddel ho hk) fun Dn σ H p => ?_
  obtain ⟨α, h, τ, R, s, p⟩ := p
  refine ⟨α, h, τ, R, s, PostE.imp (PostS.toS p s) ?_⟩
  rintro x H1 ⟨α1, d1, h1, E1, R1, D1, s1, p1⟩
  refine ⟨α1, h1, τ, R1, s1, PostE.imp (PostS.toS p1 s1) ?_⟩
  rintro y H2 ⟨α2, d2, h2, E2, R2, D2, s2, p2⟩
  have D1' := Den.ext E2 _ _ D1
  cases D1' <;> try exact False.elim p2
  rename_i l a hl
  simp only [] at p2
  split at p2
  · rename_i kvs e2
    split at p2
    · rename_i k ek
      split at p2
      · rename_i hs
        obtain ⟨ws, c1, c2⟩ := R2.dct hl e2
        obtain ⟨q1, q2⟩ := put_dct R2 hl e2 (c2.drop (k := k))
        refine ⟨a, ws, k, rfl, c1, keyD_den ek D2, ?_, p2 α2 _ _ q2 q1 (s2.ext q2)⟩
        cases ev : valK kvs k with
        | none => rw [ev] at hs; cases hs
        | some d => obtain ⟨v, d1, _⟩ := c2.val_some ev; rw [d1]; rfl
      · exact p2.elim
    · exact p2.elim
  · exact p2.elim
end
end DD
end

section
set_option Elab.async false
set_option linter.all false
set_option maxRecDepth 100000
set_option maxHeartbeats 2000000
/-! x in xs, sorted, list(d), displays, dict(pairs) -/
namespace DD
open PySem L2
def flD : D → Bool
  | .non => true
  | .bl _ => true
  | .int _ => true
  | .str _ => true
  | _ => false
section
variable {X : Cx} {g : G} {W : WX} {a b c e f o : Expr} {ma mb mc me mf mo mk : EM} {pos apos cpos tpos : Pos} {σ : L2.St} {H : Hp} {Q : VK} {α : List Addr} {h : AH} {l : Nat}
theorem flD_flatV {d : D} {v : V} (hd : Den g α H d v) (q : flD d = true) : flatV v = true := by
  cases hd <;> first | rfl | (simp [flD] at q)
theorem flDs_flatV : ∀ {ds : List D} {vs : List V}, DenL g α H ds vs → ds.all flD = true → vs.all flatV = true
  | [], _, h, _ => by cases h; rfl
  | d :: ds, _, h, q => by
    cases h with
    | cons h1 h2 =>
      simp only [List.all_cons, Bool.and_eq_true] at q ⊢
      exact ⟨flD_flatV h1 q.1, flDs_flatV h2 q.2⟩
theorem eqV_eqD {x y : D} {u v : V} (hx : Den g α H x u) (hy : Den g α H y v) (qx : flD x = true) (qy : flD y = true) : eqV u v = eqD x y := by
  cases hx <;> (try (simp [flD] at qx; done)) <;> cases hy <;> (try (simp [flD] at qy; done)) <;> rfl
theorem inV_any {x : D} {u : V} (hx : Den g α H x u) (qx : flD x = true) : ∀ {ds : List D} {vs : List V}, DenL g α H ds vs → ds.all flD = true → inV u vs = ds.any fun y => eqD y x
  | [], _, h, _ => by cases h; rfl
  | d :: ds, _, h, q => by
    cases h with
    | cons h1 h2 =>
      simp only [List.all_cons, Bool.and_eq_true] at q
      have := inV_any hx qx h2 q.2
      unfold inV at this ⊢
      rw [List.any_cons, List.any_cons, this, eqV_eqD h1 hx q.1 qx]
/-- the items of a list or tuple -/
def itemsD (h : AH) : D → Option (List D)
  | .tup xs => some xs
  | .fls xs => some xs
  | .ref l => match h[l]? with
    | some (.lst xs) => some xs
    | _ => none
  | _ => none
theorem itemsD_den {d : D} {v : V} {xs : List D} (R : Rep g α h H) (hd : Den g α H d v) (q : itemsD h d = some xs) : ∃ p vs, v = .ref p ∧ (SqL g.K H p vs ∨ SqT g.K H p vs) ∧ DenL g α H xs vs := by
  cases hd <;> simp only [itemsD, Option.some.injEq, reduceCtorEq] at q
  · subst q
    rename_i a ds vs hs hl
    exact ⟨a, vs, rfl, .inr hs, hl⟩
  · rename_i l a hl
    split at q
    · rename_i ys e
      cases q
      obtain ⟨vs, b1, b2⟩ := R.ob _ _ _ e hl
      exact ⟨a, vs, rfl, .inl (SqL.of b1), b2⟩
    · cases q
  · subst q
    rename_i a ds vs hs hl
    exact ⟨a, vs, rfl, .inl hs.seq, hl⟩
def inM (x y : D) (h : AH) : EO := match itemsD h y with
  | some xs => if flD x = true ∧ xs.all flD = true then .ok (.bl (xs.any fun z => eqD z x)) h else .bad
  | none => .bad
def ninM (x y : D) (h : AH) : EO := match itemsD h y with
  | some xs => if flD x = true ∧ xs.all flD = true then .ok (.bl (!xs.any fun z => eqD z x)) h else .bad
  | none => .bad
theorem rs_in : RS2 g W (rIn g.K false) inM := by
  intro α h H σ x y dx dy Q R hx hy p
  unfold inM at p
  split at p
  · rename_i xs q
    split at p
    · rename_i hc
      obtain ⟨a, vs, e, s, d⟩ := itemsD_den R hy q
      exact ⟨a, vs, e, s, flD_flatV hx hc.1, flDs_flatV d hc.2, by rw [inV_any hx hc.1 d hc.2]; exact p α H _ .refl R (.bl _)⟩
    · exact p.elim
  · exact p.elim
theorem rs_nin : RS2 g W (rIn g.K true) ninM := by
  intro α h H σ x y dx dy Q R hx hy p
  unfold ninM at p
  split at p
  · rename_i xs q
    split at p
    · rename_i hc
      obtain ⟨a, vs, e, s, d⟩ := itemsD_den R hy q
      exact ⟨a, vs, e, s, flD_flatV hx hc.1, flDs_flatV d hc.2, by rw [inV_any hx hc.1 d hc.2]; exact p α H _ .refl R (.bl _)⟩
    · exact p.elim
  · exact p.elim
theorem de_in (hK : g.K = X.K) (ha : PE X e (tE g W me)) (hb : PE X o (tE g W mo)) (hm : behindInMarks .In o = false) : PE X (.Compare e [.In] [o] pos) (tE g W (binM me mo inM)) :=
  de_cmp (r := rIn g.K false) (by rw [hK]; exact op_in_seq) rs_in ha hb hm
theorem de_nin (hK : g.K = X.K) (ha : PE X e (tE g W me)) (hb : PE X o (tE g W mo)) (hm : behindInMarks .NotIn o = false) : PE X (.Compare e [.NotIn] [o] pos) (tE g W (binM me mo ninM)) :=
  de_cmp (r := rIn g.K true) (by rw [hK]; exact op_notIn_seq) rs_nin ha hb hm
theorem dt_in (hK : g.K = X.K) (ha : PE X e (tE g W me)) (hb : PE X o (tE g W mo)) (hm : behindInMarks .In o = false) : PT X (.Compare e [.In] [o] pos) (tT g W (binM me mo inM)) :=
  dt_cmp (r := rIn g.K false) (by rw [hK]; exact op_in_seq) rs_in ha hb hm
theorem dt_nin (hK : g.K = X.K) (ha : PE X e (tE g W me)) (hb : PE X o (tE g W mo)) (hm : behindInMarks .NotIn o = false) : PT X (.Compare e [.NotIn] [o] pos) (tT g W (binM me mo ninM)) :=
  dt_cmp (r := rIn g.K true) (by rw [hK]; exact op_notIn_seq) rs_nin ha hb hm
end
/-! ### sorted(..) of texts or numbers -/
def leT (a b : Str) : Prop := a.cps.toList ≤ b.cps.toList
theorem leT_trans {a b c : Str} (h1 : leT a b) (h2 : leT b c) : leT a c := List.le_trans h1 h2
theorem leT_anti {a b : Str} (h1 : leT a b) (h2 : leT b a) : a = b := by
  have : a.cps.toList = b.cps.toList := List.le_antisymm h1 h2
  cases a; cases b
  simpa using this
theorem leT_lt {a b : Str} : PySem.Spec.ltCps b.cps.toList a.cps.toList = false ↔ leT a b := by
  rw [PyProof.Rows.ltCps_eq, decide_eq_false_iff_not]
  exact Iff.rfl
theorem leT_of_lt {a b : Str} (h : PySem.Spec.ltCps b.cps.toList a.cps.toList = true) : leT b a := by
  rw [PyProof.Rows.ltCps_eq, decide_eq_true_eq] at h
  rcases List.le_total b.cps.toList a.cps.toList with q | q
  · exact q
  · exact absurd h q
def insT (x : Str) : List Str → List Str
  | [] => [x]
  | y :: r => if PySem.Spec.ltCps y.cps.toList x.cps.toList = true then y :: insT x r else x :: y :: r
def sortT : List Str → List Str
  | [] => []
  | x :: r => insT x (sortT r)
theorem insT_perm (x : Str) : ∀ l, (insT x l).Perm (x :: l)
  | [] => .refl _
  | y :: r => by
    unfold insT
    split
    · exact ((insT_perm x r).cons y).trans (.swap x y r)
    · exact .refl _
theorem sortT_perm : ∀ l, (sortT l).Perm l
  | [] => .refl _
  | x :: r => (insT_perm x _).trans ((sortT_perm r).cons x)
theorem insT_pw (x : Str) : ∀ l : List Str, l.Pairwise leT → (insT x l).Pairwise leT
  | [], _ => by simp [insT]
  | y :: r, h => by
    obtain ⟨h1, h2⟩ := List.pairwise_cons.mp h
    unfold insT
    split
    · rename_i c
      refine List.pairwise_cons.mpr ⟨fun z hz => ?_, insT_pw x r h2⟩
      rcases List.mem_cons.mp ((insT_perm x r).mem_iff.mp hz) with q | q
      · rw [q]; exact leT_of_lt c
      · exact h1 z q
    · rename_i c
      have cx : leT x y := leT_lt.mp (by simpa using c)
      refine List.pairwise_cons.mpr ⟨fun z hz => ?_, h⟩
      rcases List.mem_cons.mp hz with q | q
      · rw [q]; exact cx
      · exact leT_trans cx (h1 z q)
theorem sortT_pw : ∀ l : List Str, (sortT l).Pairwise leT
  | [] => .nil
  | x :: r => insT_pw x _ (sortT_pw r)
theorem rising_pw : ∀ (l : List Str) (p : Str), PyProof.Rows.risingS p l = true → (p :: l).Pairwise leT
  | [], p, _ => by simp
  | x :: r, p, h => by
    have h' : (!PySem.Spec.ltCps x.cps.toList p.cps.toList && PyProof.Rows.risingS x r) = true := h
    simp only [Bool.and_eq_true, Bool.not_eq_true'] at h'
    have hx := rising_pw r x h'.2
    have px : leT p x := leT_lt.mp h'.1
    refine List.pairwise_cons.mpr ⟨fun z hz => ?_, hx⟩
    rcases List.mem_cons.mp hz with q | q
    · rw [q]; exact px
    · exact leT_trans px ((List.pairwise_cons.mp hx).1 z q)
theorem sorted_pw {l : List Str} (h : PyProof.Rows.sortedS l = true) : l.Pairwise leT := by
  cases l with
  | nil => exact .nil
  | cons x r => exact rising_pw r x h
theorem sortT_eq {ys ks : List Str} (p : ys.Perm ks) (s : PyProof.Rows.sortedS ys = true) : ys = sortT ks :=
  List.Perm.eq_of_pairwise (le := leT) (fun a b _ _ h1 h2 => leT_anti h1 h2) (sorted_pw s) (sortT_pw ks) (p.trans (sortT_perm ks).symm)
def insI (x : Int) : List Int → List Int
  | [] => [x]
  | y :: r => if x ≤ y then x :: y :: r else y :: insI x r
def sortI : List Int → List Int
  | [] => []
  | x :: r => insI x (sortI r)
theorem insI_perm (x : Int) : ∀ l, (insI x l).Perm (x :: l)
  | [] => .refl _
  | y :: r => by
    unfold insI
    split
    · exact .refl _
    · exact ((insI_perm x r).cons y).trans (.swap x y r)
theorem sortI_perm : ∀ l, (sortI l).Perm l
  | [] => .refl _
  | x :: r => (insI_perm x _).trans ((sortI_perm r).cons x)
theorem insI_pw (x : Int) : ∀ l : List Int, l.Pairwise (· ≤ ·) → (insI x l).Pairwise (· ≤ ·)
  | [], _ => by simp [insI]
  | y :: r, h => by
    obtain ⟨h1, h2⟩ := List.pairwise_cons.mp h
    unfold insI
    split
    · rename_i c
      refine List.pairwise_cons.mpr ⟨fun z hz => ?_, h⟩
      rcases List.mem_cons.mp hz with q | q
      · rw [q]; exact c
      · exact Int.le_trans c (h1 z q)
    · rename_i c
      refine List.pairwise_cons.mpr ⟨fun z hz => ?_, insI_pw x r h2⟩
      rcases List.mem_cons.mp ((insI_perm x r).mem_iff.mp hz) with q | q
      · rw [q]; omega
      · exact h1 z q
theorem sortI_pw : ∀ l : List Int, (sortI l).Pairwise (· ≤ ·)
  | [] => .nil
  | x :: r => insI_pw x _ (sortI_pw r)
theorem sortI_eq {ys ks : List Int} (p : ys.Perm ks) (s : ys.Pairwise (· ≤ ·)) : ys = sortI ks :=
  List.Perm.eq_of_pairwise (le := (· ≤ ·)) (fun a b _ _ h1 h2 => Int.le_antisymm h1 h2) s (sortI_pw ks) (p.trans (sortI_perm ks).symm)
def intsOf : List D → Option (List Int)
  | [] => some []
  | .int i :: r => (intsOf r).map (i :: ·)
  | _ :: _ => none
def txtKeys : List Key → Option (List Str)
  | [] => some []
  | .inr x :: r => (txtKeys r).map (x :: ·)
  | _ :: _ => none
def intKeys : List Key → Option (List Int)
  | [] => some []
  | .inl i :: r => (intKeys r).map (i :: ·)
  | _ :: _ => none
theorem txtKeys_eq : ∀ {ks : List Key} {xs : List Str}, txtKeys ks = some xs → ks = xs.map Sum.inr
  | [], _, h => by cases h; rfl
  | .inr x :: r, _, h => by
    simp only [txtKeys, Option.map_eq_some_iff] at h
    obtain ⟨ys, h1, rfl⟩ := h
    rw [txtKeys_eq h1]; rfl
  | .inl _ :: _, _, h => by cases h
theorem intKeys_eq : ∀ {ks : List Key} {xs : List Int}, intKeys ks = some xs → ks = xs.map Sum.inl
  | [], _, h => by cases h; rfl
  | .inl x :: r, _, h => by
    simp only [intKeys, Option.map_eq_some_iff] at h
    obtain ⟨ys, h1, rfl⟩ := h
    rw [intKeys_eq h1]; rfl
  | .inr _ :: _, _, h => by cases h
def newL (xs : List D) (h : AH) : EO := .ok (.ref h.length) (h ++ [.lst xs])
def sortedF : List D → AH → EO
  | [.ref l], h => match h[l]? with
    | some (.lst xs) => (match strsOf xs with
      | some ss => if ss.length < 64 then newL ((sortT ss).map D.str) h else .bad
      | none => match intsOf xs with
        | some ns => newL ((sortI ns).map D.int) h
        | none => .bad)
    | some (.dct kvs) => (match txtKeys (kvs.map (·.1)) with
      | some ss => if ss.length < 64 then newL ((sortT ss).map D.str) h else .bad
      | none => match intKeys (kvs.map (·.1)) with
        | some ns => if ns.length < 64 then newL ((sortI ns).map D.int) h else .bad
        | none => .bad)
    | _ => .bad
  | _, _ => .bad
section
variable {X : Cx} {g : G} {W : WX} {a b c e f o : Expr} {ma mb mc me mf mo mk : EM} {pos apos cpos tpos : Pos} {σ : L2.St} {H : Hp} {Q : VK} {α : List Addr} {h : AH} {l : Nat}
theorem den_strs : ∀ ss : List Str, DenL g α H (ss.map D.str) (ss.map V.str)
  | [] => .nil
  | s :: ss => .cons (.str s) (den_strs ss)
theorem den_intsL : ∀ ss : List Int, DenL g α H (ss.map D.int) (ss.map V.int)
  | [] => .nil
  | s :: ss => .cons (.int s) (den_intsL ss)
theorem intsOf_den : ∀ {ds : List D} {vs : List V} {ns : List Int}, DenL g α H ds vs → intsOf ds = some ns → vs = ns.map V.int
  | [], _, _, h, q => by cases h; cases q; rfl
  | d :: ds, _, _, h, q => by
    cases h with
    | cons h1 h2 =>
      cases h1 <;> simp only [intsOf, reduceCtorEq] at q
      simp only [Option.map_eq_some_iff] at q
      obtain ⟨ys, q1, rfl⟩ := q
      rw [intsOf_den h2 q1]; rfl
theorem newL_post {xs : List D} {ys : List V} (R : Rep g α h H) (d : ∀ α H, DenL g α H xs ys) (p : PostE g W α H σ Q (newL xs h)) {z : Addr} (hz : H z = none) : Q (.ref z) (upd H z (.lst ys)) := by
  obtain ⟨a1, a2⟩ := R.push (o := .lst xs) hz (u := .lst ys) ⟨ys, upd_same, d _ _⟩
  refine p _ _ _ a2 a1 (.ref ?_)
  rw [← R.len]
  simp
def rSortAny (K : PySem.W.Frag) : List V → Hp → VK → Prop := fun xs H Q => rSortedS K xs H Q ∨ rSortedI K xs H Q ∨
  (∃ (a : Addr) (kvs : List (Key × V)) (ks : List Str), xs = [V.ref a] ∧ Rd H a (.dK kvs) ∧ kvs.map (·.1) = ks.map Sum.inr ∧ ks.length < 64 ∧ ∀ (ys : List Str) (p : Addr), ys.Perm ks → PyProof.Rows.sortedS ys = true → H p = none → Q (V.ref p) (upd H p (.lst (ys.map V.str)))) ∨
  (∃ (a : Addr) (kvs : List (Key × V)) (ks : List Int), xs = [V.ref a] ∧ Rd H a (.dK kvs) ∧ kvs.map (·.1) = ks.map Sum.inl ∧ ks.length < 64 ∧ ∀ (ys : List Int) (p : Addr), ys.Perm ks → ys.Pairwise (· ≤ ·) → H p = none → Q (V.ref p) (upd H p (.lst (ys.map V.int))))
theorem call_sortAny (hc : X.calm = true) : CallR X (.builtin "sorted") (rSortAny X.K) := CallR.or cr_sortedS (CallR.or cr_sortedI (CallR.or (call_sortedD hc) (call_sortedDI hc)))
theorem rs_sorted : RSn g W (rSortAny g.K) sortedF := by
  intro α h H σ vs ds Q R hd p
  cases hd with
  | nil => exact p.elim
  | cons h1 h2 =>
    cases h2 with
    | cons _ _ => cases h1 <;> exact p.elim
    | nil =>
      cases h1 <;> try exact False.elim p
      rename_i l a hl
      simp only [sortedF] at p
      split at p
      · rename_i xs e
        obtain ⟨vs, b1, b2⟩ := R.ob _ _ _ e hl
        split at p
        · rename_i ss q
          split at p
          · rename_i hz
            refine .inl ⟨a, ss, rfl, SqL.of (by rw [← strsOf_den b2 q]; exact b1), hz, fun ys z pm st hn => ?_⟩
            rw [sortT_eq pm st]
            exact newL_post R (fun _ _ => den_strs _) p hn
          · exact p.elim
        · split at p
          · rename_i ns q
            refine .inr (.inl ⟨a, ns, rfl, SqL.of (by rw [← intsOf_den b2 q]; exact b1), fun ys z pm st hn => ?_⟩)
            rw [sortI_eq pm st]
            exact newL_post R (fun _ _ => den_intsL _) p hn
          · exact p.elim
      · rename_i kvs e
        obtain ⟨ws, b1, b2⟩ := R.dct hl e
        have bk := b2.to.1
        split at p
        · rename_i ss q
          split at p
          · rename_i hz
            refine .inr (.inr (.inl ⟨a, ws, ss, rfl, .inl b1, by rw [bk, txtKeys_eq q], hz, fun ys z pm st hn => ?_⟩))
            rw [sortT_eq pm st]
            exact newL_post R (fun _ _ => den_strs _) p hn
          · exact p.elim
        · split at p
          · rename_i ns q
            split at p
            · rename_i hz
              refine .inr (.inr (.inr ⟨a, ws, ns, rfl, .inl b1, by rw [bk, intKeys_eq q], hz, fun ys z pm st hn => ?_⟩))
              rw [sortI_eq pm st]
              exact newL_post R (fun _ _ => den_intsL _) p hn
            · exact p.elim
          · exact p.elim
      · exact p.elim
end
end DD
end

section
set_option Elab.async false
set_option linter.all false
set_option maxRecDepth 100000
set_option maxHeartbeats 2000000
/-! dict comprehensions, displays, dict(..), list of a dict -/
namespace DD
open PySem L2
def dcLoop (live : AH → Bool) (f : TM) (mc : Option EM) (mk mv : EM) (own : List Nat) (τ : SL) (l : Nat) : List D → AH → EO
  | [] => fun h => if live h = true then .ok (.ref l) h else .bad
  | d :: ds => fun h => if live h = true then match f d (wipeD τ own) h with
    | .nx τ1 h1 => (match mc with
      | none => EO.ok (.bl true) h1
      | some c => c τ1 h1).bind fun k h2 => match k with
        | .bl true => (mk τ1 h2).bind fun y h3 => (mv τ1 h3).bind fun z h4 => match h4[l]?, keyD y with
          | some (.dct kvs), some k => if kvs.length < sizeLine then dcLoop live f mc mk mv own τ l ds (h4.set l (.dct (putKD kvs k z))) else .bad
          | _, _ => .bad
        | .bl false => dcLoop live f mc mk mv own τ l ds h2
        | _ => .bad
    | _ => .bad else .bad
def dcM (e : EM) (items : D → AH → Option (List D × (AH → Bool))) (f : TM) (mc : Option EM) (mk mv : EM) (own : List Nat) : EM := fun τ h => (e τ h).bind fun d h1 => match items d h1 with
  | some (ds, live) => dcLoop live f mc mk mv own τ h1.length ds (h1 ++ [.dct []])
  | none => .bad
def dcQ (e : EM) (items : D → AH → Option (List D × (AH → Bool))) (f : TM) (mc : Option EM) (mk mv : EM) (own : List Nat) : EM := fun τ h => noexc (dcM e items f mc mk mv own τ h)
section
variable {X : Cx} {g : G} {W : WX} {a b c e o kx vx : Expr} {ma mb mo mk mv : EM} {mc : Option EM} {m : LM} {pos p apos cpos : Pos} {σ : L2.St} {H H' : Hp} {Q : VK} {Dn : Ends} {α α' : List Addr} {τ : SL} {sa sb : SM} {st : Stmt} {rest : List Stmt} {body : List Stmt} {tg iter : Expr} {ifs : List Expr} {scope : Scope} {own : List (Str × Nat)} {wi : TI} {t : TG} {f : TM} {items : D → AH → Option (List D × (AH → Bool))} {l : Nat} {h : AH}
theorem new_dict (R : Rep g α h H) (hD : H l = none) : Rep g (α ++ [l]) (h ++ [.dct []]) (upd H l (.dK [])) ∧ Ext α H (α ++ [l]) (upd H l (.dK [])) ∧ Den g (α ++ [l]) (upd H l (.dK [])) (.ref h.length) (.ref l) := by
  obtain ⟨a1, a2⟩ := R.push (o := .dct []) hD (u := .dK []) ⟨[], upd_same, rfl, .nil⟩
  refine ⟨a1, a2, .ref ?_⟩
  rw [← R.len]
  simp
theorem tE_dc (io : IterOk g W0 wi ma items) (rg : ∀ W, RG g W t f) (gf : Goes f) (ot : OwnT t (own.map (·.2))) (q : tE g W (fun τ h => noexc (dcM ma items f mc mk mv (own.map (·.2)) τ h)) σ H Q) : tDc wi t (tTs g W0 mc) (tE g W0 mk) (tE g W0 mv) (own.map (·.2)) σ H Q := by
  unfold tDc
  refine io σ H _ ?_
  obtain ⟨α, h, τ, R, s, q⟩ := q
  have q := PostE.noexc q
  refine ⟨α, h, τ, R, s, ?_⟩
  unfold dcM at q
  cases e0 : ma τ h with
  | exc c h1 => rw [e0] at q; exact q
  | bad => rw [e0] at q; exact q
  | ok d h1 =>
    rw [e0] at q
    intro α1 H1 E1 R1 _
    have p1 := PostE.mono q E1
    simp only [EO.bind] at p1
    obtain ⟨⟨ds, live⟩, hit⟩ : ∃ dl, items d h1 = some dl := by
      cases hit : items d h1 with
      | none => rw [hit] at p1; exact p1.elim
      | some dl => exact ⟨dl, rfl⟩
    rw [hit] at p1
    refine ⟨ds, live, hit, fun J wk => ?_⟩
    obtain ⟨stop, go, yld⟩ := wk
    intro L hD
    obtain ⟨R2, E2, D2⟩ := new_dict R1 hD
    refine ⟨fun i m H' => m = ds.length - i ∧ ∃ α' h', Ext (α1 ++ [L]) (upd H1 L (.dK [])) α' H' ∧ Rep g α' h' H' ∧ PostE g W0 α' H' σ Q (dcLoop live f mc mk mv (own.map (·.2)) τ h1.length (ds.drop i) h'), ⟨ds.length, by simp, _, _, .refl, R2, PostE.mono p1 E2⟩, ?_⟩
    rintro i m H' ⟨rfl, α', h', E', R', p'⟩
    have EE := E2.trans E'
    have DD := Den.ext E' _ _ D2
    by_cases hi : i < ds.length
    · have hd : ds.drop i = ds[i] :: ds.drop (i + 1) := by rw [List.drop_eq_getElem_cons hi]
      have hg : ds[i]? = some ds[i] := List.getElem?_eq_getElem hi
      rw [hd] at p'
      simp only [dcLoop] at p'
      split at p'
      · rename_i hl
        refine .inr ⟨go α' H' h' EE R' hl i _ hg, fun H3 => ∃ α' h', Ext (α1 ++ [L]) (upd H1 L (.dK [])) α' H3 ∧ Rep g α' h' H3 ∧ PostE g W0 α' H3 σ Q (dcLoop live f mc mk mv (own.map (·.2)) τ h1.length (ds.drop (i + 1)) h'), fun H3 w => ⟨ds.length - (i + 1), by omega, rfl, w⟩, fun x H3 hy => ?_⟩
        obtain ⟨E3, R3, D3⟩ := yld α' H' h' x H3 EE R' hl i _ hg hy
        have s3 : DenS g α' H3 (wipeD τ (own.map (·.2))) (wipe σ (own.map (·.2))) := wipe_wipeD (((s.ext E1).ext EE).ext E3) _
        split at p'
        · rename_i τ4 h4 e4
          refine ot x _ H3 _ (rg W0 α' h' H3 _ _ x _ _ R3 s3 D3 ?_)
          rw [e4]
          intro α4 H4 σ4 E4 R4 s4 hw
          rw [wipe_wipe] at hw
          have EE4 := (EE.trans E3).trans E4
          have p4 := PostE.mono (PostE.mono p' E3) E4
          refine ⟨hw, ?_⟩
          -- behind the test
          have fin : ∀ (k : Bool) (α5 : List Addr) (h5 : AH) (H5 : Hp), Ext α4 H4 α5 H5 → Rep g α5 h5 H5 → PostE g W0 α5 H5 σ Q (match D.bl k with
              | .bl true => (mk τ4 h5).bind fun y h3 => (mv τ4 h3).bind fun z h4 => match h4[h1.length]?, keyD y with
                | some (.dct kvs), some k => if kvs.length < sizeLine then dcLoop live f mc mk mv (own.map (·.2)) τ h1.length (ds.drop (i + 1)) (h4.set h1.length (.dct (putKD kvs k z))) else .bad
                | _, _ => .bad
              | .bl false => dcLoop live f mc mk mv (own.map (·.2)) τ h1.length (ds.drop (i + 1)) h5
              | _ => .bad) → (if k = true then tE g W0 mk σ4 H5 fun y H4 => tE g W0 mv σ4 H4 fun z H6 => ∃ kvs kk, y = kV kk ∧ H6 L = some (.dK kvs) ∧ kvs.length < sizeLine ∧ ∃ α' h', Ext (α1 ++ [L]) (upd H1 L (.dK [])) α' (upd H6 L (.dK (putK kvs kk z))) ∧ Rep g α' h' (upd H6 L (.dK (putK kvs kk z))) ∧
                PostE g W0 α' (upd H6 L (.dK (putK kvs kk z))) σ Q (dcLoop live f mc mk mv (own.map (·.2)) τ h1.length (ds.drop (i + 1)) h')
              else ∃ α' h', Ext (α1 ++ [L]) (upd H1 L (.dK [])) α' H5 ∧ Rep g α' h' H5 ∧ PostE g W0 α' H5 σ Q (dcLoop live f mc mk mv (own.map (·.2)) τ h1.length (ds.drop (i + 1)) h')) := by
            intro k α5 h5 H5 E5 R5 p5
            cases k with
            | false => exact iteF ⟨α5, h5, ((E'.trans E3).trans E4).trans E5, R5, p5⟩
            | true =>
              refine iteT ⟨α5, h5, τ4, R5, s4.ext E5, PostE.imp (PostE.bind p5) ?_⟩
              rintro y H6 ⟨α6, dy, h6, E6, R6, D6, p6⟩
              refine ⟨α6, h6, τ4, R6, (s4.ext E5).ext E6, PostE.imp (PostE.bind p6) ?_⟩
              rintro z H7 ⟨α7, dz, h7, E7, R7, D7, p7⟩
              have DD7 := Den.ext E7 _ _ (Den.ext E6 _ _ (Den.ext E5 _ _ (Den.ext E4 _ _ (Den.ext E3 _ _ DD))))
              split at p7
              · rename_i kvs kk hacc hkk
                split at p7
                · rename_i hz
                  cases DD7 with
                  | ref hl7 =>
                    obtain ⟨ws, a1, a2⟩ := R7.dct hl7 hacc
                    obtain ⟨b1, b2⟩ := put_dct R7 hl7 hacc (a2.put (k := kk) D7)
                    exact ⟨ws, kk, keyD_den hkk (Den.ext E7 _ _ D6), a1, by rw [a2.len]; exact hz, α7, _, (((((E'.trans E3).trans E4).trans E5).trans E6).trans E7).trans b2, b1, PostE.mono p7 b2⟩
                · exact p7.elim
              · exact p7.elim
          cases mc with
          | none => exact fin true α4 h4 H4 .refl R4 p4
          | some c =>
            show tT g W0 c σ4 H4 _
            refine ⟨α4, h4, τ4, R4, s4, PostE.imp (PostE.bind p4) ?_⟩
            rintro z H5 ⟨α5, dz, h5, E5, R5, D5, p5⟩
            cases D5 <;> try exact False.elim p5
            rename_i k
            exact ⟨k, rfl, fin k α5 h5 H5 E5 R5 p5⟩
        · exact p'.elim
      · exact p'.elim
    · have hd : ds.drop i = [] := List.drop_eq_nil_of_le (by omega)
      rw [hd] at p'
      simp only [dcLoop] at p'
      split at p'
      · rename_i hl
        exact .inl ⟨stop α' H' h' EE R' hl i (by omega), p' α' H' _ .refl R' DD⟩
      · exact p'.elim
theorem de_dcQ (hc : X.calm = true) (hN : X.N.Nodup) (hi : PI X tg iter wi) (io : IterOk g W0 wi ma items) (ok : BlkOk X.N X.env.scope scope own) (rg : ∀ W, RG g W t f) (gf : Goes f) (ot : OwnT t (own.map (·.2)))
    (hg : ∀ (s : Shared) (H : Hp) (C : Addr) (cl : List (Str × Addr)) (fp : List Addr), PG (X.blk s H scope (compEnvC scope cl C X.env) fp) tg t) (ht : ∀ (s : Shared) (H : Hp) (C : Addr) (cl : List (Str × Addr)) (fp : List Addr), PTs (X.blk s H scope (compEnvC scope cl C X.env) fp) ifs (tTs g W0 mc))
    (hk : ∀ (s : Shared) (H : Hp) (C : Addr) (cl : List (Str × Addr)) (fp : List Addr), PE (X.blk s H scope (compEnvC scope cl C X.env) fp) kx (tE g W0 mk)) (hv : ∀ (s : Shared) (H : Hp) (C : Addr) (cl : List (Str × Addr)) (fp : List Addr), PE (X.blk s H scope (compEnvC scope cl C X.env) fp) vx (tE g W0 mv))
    (hs : ∀ x, foldedSetIterable iter X.env x = pure x := by intro _; rfl) :
    PE X (.DictComp kx vx [⟨tg, iter, ifs, 0⟩] scope pos) (tE g W (dcQ ma items f mc mk mv (own.map (·.2)))) :=
  PE.imp (pe_dc hc hN hi ok hg ht hk hv hs) fun _ _ _ q => tE_dc io rg gf ot q
end
end DD
end

section
set_option Elab.async false
set_option linter.all false
set_option maxRecDepth 100000
set_option maxHeartbeats 2000000
namespace DD
open PySem L2
def kD : Key → D
  | .inl i => .int i
  | .inr x => .str x
section
variable {X : Cx} {g : G} {W : WX} {a b c e f o : Expr} {ma mb mc me mf mo mk mv : EM} {pos apos cpos tpos : Pos} {σ : L2.St} {H : Hp} {Q : VK} {α : List Addr} {h : AH} {l : Nat}
theorem den_kD (k : Key) : Den g α H (kD k) (kV k) := by cases k <;> first | exact .int _ | exact .str _
theorem den_kDs : ∀ ks : List Key, DenL g α H (ks.map kD) (ks.map kV)
  | [] => .nil
  | k :: ks => .cons (den_kD k) (den_kDs ks)
/-! ### list(d) -/
def listDF : List D → AH → EO
  | [.ref l], h => match h[l]? with
    | some (.dct kvs) => newL ((kvs.map (·.1)).map kD) h
    | _ => .bad
  | _, _ => .bad
theorem rs_listD : RSn g W rListD listDF := by
  intro α h H σ vs ds Q R hd p
  cases hd with
  | nil => exact p.elim
  | cons h1 h2 =>
    cases h2 with
    | cons _ _ => cases h1 <;> exact p.elim
    | nil =>
      cases h1 <;> try exact False.elim p
      rename_i l a hl
      simp only [listDF] at p
      split at p
      · rename_i kvs e
        obtain ⟨ws, b1, b2⟩ := R.dct hl e
        refine ⟨a, ws, rfl, b1, fun z hz => ?_⟩
        have := newL_post R (fun _ _ => den_kDs (kvs.map (·.1))) p hz
        rw [← b2.to.1, List.map_map] at this
        exact this
      · exact p.elim
/-! ### dict(pairs), dict(d) -/
def mergeKD (kvs more : List (Key × D)) : List (Key × D) := more.foldl (fun acc kv => putKD acc kv.1 kv.2) kvs
theorem DenK.merge {kvs more : List (Key × D)} {ws wm : List (Key × V)} (h1 : DenK g α H kvs ws) (h2 : DenK g α H more wm) : DenK g α H (mergeKD kvs more) (mergeK ws wm) := by
  unfold mergeKD mergeK
  induction h2 generalizing kvs ws with
  | nil => exact h1
  | cons d _ ih => exact ih (h1.put d)
def pairsOf : List D → Option (List (Key × D))
  | [] => some []
  | .tup [y, z] :: r => match keyD y, pairsOf r with
    | some k, some kvs => some ((k, z) :: kvs)
    | _, _ => none
  | _ :: _ => none
theorem pairs_den : ∀ {xs : List D} {vs : List V} {kvs : List (Key × D)}, DenL g α H xs vs → pairsOf xs = some kvs → ∃ (ps : List Addr) (ws : List (Key × V)), vs = ps.map V.ref ∧ PySem.Paired (fun p kv => SqT g.K H p [kV kv.1, kv.2]) ps ws ∧ DenK g α H kvs ws
  | [], _, _, h, q => by
    cases h
    cases q
    exact ⟨[], [], rfl, .nil, .nil⟩
  | d :: ds, _, _, h, q => by
    cases h with
    | @cons _ _ v vs h1 h2 =>
      cases h1 with
      | @tup a es us hs hl =>
        match es, hl with
        | [], _ => simp [pairsOf] at q
        | [_], _ => simp [pairsOf] at q
        | _ :: _ :: _ :: _, _ => simp [pairsOf] at q
        | [y, z], hl =>
          simp only [pairsOf] at q
          split at q
          · rename_i k kvs ek er
            cases q
            obtain ⟨ps, ws, e1, e2, e3⟩ := pairs_den h2 er
            cases hl with
            | @cons _ _ u us2 u1 u2 =>
              cases u2 with
              | @cons _ _ w us3 w1 w2 =>
                cases w2
                refine ⟨a :: ps, (k, w) :: ws, by rw [e1]; rfl, .cons ?_ e2, .cons w1 e3⟩
                rw [← keyD_den ek u1]
                exact hs
          · cases q
      | _ => simp [pairsOf] at q
def newD (kvs : List (Key × D)) (h : AH) : EO := .ok (.ref h.length) (h ++ [.dct kvs])
theorem newD_post {kvs : List (Key × D)} {ws : List (Key × V)} (R : Rep g α h H) (d : DenK g α H kvs ws) (p : PostE g W α H σ Q (newD kvs h)) {z : Addr} (hz : H z = none) : Q (.ref z) (upd H z (.dK ws)) := by
  obtain ⟨q1, q2⟩ := d.to
  obtain ⟨a1, a2⟩ := R.push (o := .dct kvs) hz (u := .dK ws) ⟨ws, upd_same, q1, DenL.ext ((Ext.new hz).trans (Ext.app _)) _ _ q2⟩
  refine p _ _ _ a2 a1 (.ref ?_)
  rw [← R.len]
  simp
def dictF : List D → AH → EO
  | [.ref l], h => match h[l]? with
    | some (.lst xs) => (match pairsOf xs with
      | some kvs => newD (mergeKD [] kvs) h
      | none => .bad)
    | some (.dct kvs) => newD kvs h
    | _ => .bad
  | _, _ => .bad
def rDictAny (K : PySem.W.Frag) : List V → Hp → VK → Prop := fun xs H Q =>
  (∃ (a : Addr) (ps : List Addr) (kvs : List (Key × V)), xs = [.ref a] ∧ SqL K H a (ps.map V.ref) ∧ PySem.Paired (fun p kv => SqT K H p [kV kv.1, kv.2]) ps kvs ∧ ∀ p, H p = none → Q (.ref p) (upd H p (.dK (mergeK [] kvs)))) ∨
  (∃ (a : Addr) (kvs : List (Key × V)), xs = [.ref a] ∧ Rd H a (.dK kvs) ∧ ∀ p, H p = none → Q (.ref p) (upd H p (.dK kvs)))
theorem call_dictAny (hc : X.calm = true) : CallR X (.type "dict") (rDictAny X.K) := CallR.or (call_dictP hc) call_dictD
theorem rs_dict : RSn g W (rDictAny g.K) dictF := by
  intro α h H σ vs ds Q R hd p
  cases hd with
  | nil => exact p.elim
  | cons h1 h2 =>
    cases h2 with
    | cons _ _ => cases h1 <;> exact p.elim
    | nil =>
      cases h1 <;> try exact False.elim p
      rename_i l a hl
      simp only [dictF] at p
      split at p
      · rename_i xs e
        obtain ⟨vs, b1, b2⟩ := R.ob _ _ _ e hl
        split at p
        · rename_i kvs q
          obtain ⟨ps, ws, e1, e2, e3⟩ := pairs_den b2 q
          exact .inl ⟨a, ps, ws, rfl, SqL.of (by rw [← e1]; exact b1), e2, fun z hz => newD_post R (DenK.merge .nil e3) p hz⟩
        · exact p.elim
      · rename_i kvs e
        obtain ⟨ws, b1, b2⟩ := R.dct hl e
        exact .inr ⟨a, ws, rfl, .inl b1, fun z hz => newD_post R b2 p hz⟩
      · exact p.elim
/-! ### {k: v, ..} -/
def prsM : List (EM × EM) → (List (D × D) → AH → EO) → EM
  | [], k => fun _ h => k [] h
  | (mk, mv) :: r, k => fun τ h => (mk τ h).bind fun y h1 => (mv τ h1).bind fun z h2 => prsM r (fun ps h3 => k ((y, z) :: ps) h3) τ h2
def keysOf : List (D × D) → Option (List (Key × D))
  | [] => some []
  | (y, z) :: r => match keyD y, keysOf r with
    | some k, some kvs => some ((k, z) :: kvs)
    | _, _ => none
def dispM (ms : List (EM × EM)) : EM := fun τ h => prsM ms (fun ps h' => match h'[h.length]?, keysOf ps with
  | some (.dct []), some kvs => if kvs.length ≤ 15 then .ok (.ref h.length) (h'.set h.length (.dct (mergeKD [] kvs))) else .bad
  | _, _ => .bad) τ (h ++ [.dct []])
inductive DenP (g : G) (α : List Addr) (H : Hp) : List (D × D) → List (V × V) → Prop
  | nil : DenP g α H [] []
  | cons {y z : D} {u w : V} {ps : List (D × D)} {qs : List (V × V)} : Den g α H y u → Den g α H z w → DenP g α H ps qs → DenP g α H ((y, z) :: ps) ((u, w) :: qs)
theorem prs_den : ∀ {ms : List (EM × EM)} {k : List (D × D) → AH → EO} {α : List Addr} {h : AH} {τ : SL} {H : Hp} {R : List (V × V) → Hp → Prop} {Q : VK}, Rep g α h H → DenS g α H τ σ → PostE g W α H σ Q (prsM ms k τ h) →
    (∀ α' h' H' ps qs, Ext α H α' H' → Rep g α' h' H' → DenP g α' H' ps qs → PostE g W α' H' σ Q (k ps h') → R qs H') → tPairs (ms.map fun m => (tE g W m.1, tE g W m.2)) σ H R
  | [], k, α, h, τ, H, R, Q, R0, s, p, c => c α h H [] [] .refl R0 .nil p
  | (mk, mv) :: r, k, α, h, τ, H, R, Q, R0, s, p, c => by
    refine ⟨α, h, τ, R0, s, PostE.imp (PostE.bind p) ?_⟩
    rintro u H1 ⟨α1, y, h1, E1, R1, D1, p1⟩
    refine ⟨α1, h1, τ, R1, s.ext E1, PostE.imp (PostE.bind p1) ?_⟩
    rintro w H2 ⟨α2, z, h2, E2, R2, D2, p2⟩
    refine prs_den R2 ((s.ext E1).ext E2) p2 fun α3 h3 H3 ps qs E3 R3 D3 p3 => ?_
    exact c α3 h3 H3 _ _ ((E1.trans E2).trans E3) R3 (.cons (Den.ext (E2.trans E3) _ _ D1) (Den.ext E3 _ _ D2) D3) p3
theorem keysOf_den : ∀ {ps : List (D × D)} {qs : List (V × V)} {kvs : List (Key × D)}, DenP g α H ps qs → keysOf ps = some kvs → ∃ ws : List (Key × V), qs = ws.map (fun kv => (kV kv.1, kv.2)) ∧ DenK g α H kvs ws
  | [], _, _, h, q => by cases h; cases q; exact ⟨[], rfl, .nil⟩
  | (y, z) :: ps, _, _, h, q => by
    cases h with
    | @cons _ _ u w _ qs h1 h2 h3 =>
      simp only [keysOf] at q
      split at q
      · rename_i k kvs ek er
        cases q
        obtain ⟨ws, e1, e2⟩ := keysOf_den h3 er
        exact ⟨(k, w) :: ws, by rw [e1, keyD_den ek h1]; rfl, .cons h2 e2⟩
      · cases q
theorem de_disp {keys : List (Option Expr)} {values : List Expr} {ms : List (EM × EM)} (hp : PPs X pos keys values (ms.map fun m => (tE g W m.1, tE g W m.2))) (h1 : (keys.all fun x => x.isSome) = true) (h2 : keys.length = values.length) (h3 : keys ≠ []) (h4 : keys.length ≤ 15) : PE X (.Dict keys values pos) (tE g W (dispM ms)) := by
  refine PE.imp (pe_disp hp h1 h2 h3 h4) fun σ H Q p => ?_
  obtain ⟨α, h, τ, R, s, p⟩ := p
  intro z hz
  obtain ⟨a1, a2, a3⟩ := new_dict R hz
  refine prs_den a1 (s.ext a2) (PostE.mono p a2) fun α' h' H' ps qs E' R' D' p' => ?_
  split at p'
  · rename_i kvs e0 e1
    split at p'
    · rename_i hl
      obtain ⟨ws, w1, w2⟩ := keysOf_den D' e1
      have D3 := Den.ext E' _ _ a3
      cases D3 with
      | ref hz' =>
        obtain ⟨ws0, c1, c2⟩ := R'.dct hz' e0
        cases c2
        obtain ⟨b1, b2⟩ := put_dct R' hz' e0 (DenK.merge (kvs := []) (ws := []) .nil w2)
        exact ⟨c1, ws, w1, by rw [w2.len]; exact hl, p' _ _ _ b2 b1 (Den.ext b2 _ _ (.ref hz'))⟩
    · exact p'.elim
  · exact p'.elim
end
end DD
end

section
set_option Elab.async false
set_option linter.all false
set_option maxRecDepth 100000
set_option maxHeartbeats 2000000
namespace DD
open PySem L2
/-- a tuple of any targets -/
def tupX (fs : List TM) : TM := fun d τ h => match d with
  | .tup ds => if ds.length = fs.length then unpackG fs ds τ h else .bad
  | _ => .bad
section
variable {g : G} {W : WX}
theorem rg_tups {t : TGs} {fs : List TM} (hr : RGs g W t fs) : RG g W (gTup g.K fs.length t) (tupX fs) := fun α h H τ σ v d Q R s hd p => by
  cases hd <;> try exact False.elim p
  rename_i a ds vs hs hl
  simp only [tupX] at p
  split at p
  · rename_i e
    exact ⟨a, vs, rfl, hs, by rw [← hl.length, e], hr α h H τ σ vs ds Q R s hl p⟩
  · exact p.elim
theorem gl_nil : ∀ f ∈ ([] : List TM), Goes f := fun f hf => by cases hf
theorem gl_cons {f : TM} {fs : List TM} (h : Goes f) (k : ∀ f ∈ fs, Goes f) : ∀ x ∈ f :: fs, Goes x := fun x hx => by
  rcases List.mem_cons.mp hx with q | q
  · rw [q]; exact h
  · exact k x q
theorem goes_tupX {fs : List TM} (k : ∀ f ∈ fs, Goes f) : Goes (tupX fs) := fun d τ h => by
  cases d <;> try exact .inr (.inr rfl)
  rename_i ds
  simp only [tupX]
  split
  · exact goes_unpack fs k ds τ h
  · exact .inr (.inr rfl)
end
end DD
end

section
set_option Elab.async false
set_option linter.all false
set_option maxRecDepth 100000
set_option maxHeartbeats 2000000
/-! lambdas as values: they stand in the abstract heap by their number; what they capture stands in the cells of the frame that makes them (g.C) -/
namespace DD
open PySem L2
theorem lamO_ok {P : Program} {w : World} {H : Hp} {h : Heap} {f c : Addr} {q : Str} {params : Arguments} {body : Expr} {scope : Scope} {cl : List (Str × Addr)} {pm ct : Value} (e : h.get? f = some (PySem.W.kla_obj "<lambda>" q params body scope cl pm c ct)) : ObjOk P w H h f (LamO f q params body scope cl pm c ct) :=
  ⟨e, ⟨_, e⟩, fun _ _ p k => k _ p⟩
section
variable {X : Cx} {pins : List (Addr × Obj)} {σ : L2.St} {H : Hp} {s : Shared}
theorem lamO_get {f c : Addr} {q : Str} {params : Arguments} {body : Expr} {scope : Scope} {cl : List (Str × Addr)} {pm ct : Value} (I : Inv X pins σ H s) (e : H f = some (LamO f q params body scope cl pm c ct)) : s.heap.get? f = some (PySem.W.kla_obj "<lambda>" q params body scope cl pm c ct) := (I.hok f _ e).1
theorem clo_nil {cells : List (Str × Addr)} : ∀ {names : List (Str × NameKind)}, (∀ y ∈ names, y.2 ≠ .free) → ∀ acc, cloFrom cells names acc = acc
  | [], _, _ => rfl
  | (n, k) :: r, h, acc => by
    have hk : k ≠ NameKind.free := h (n, k) (by simp)
    show (if (k == NameKind.free) = true then _ else _) = _
    rw [if_neg (by simpa using hk)]
    exact clo_nil (fun y hy => h y (by simp [hy])) acc
/-- the lambda itself, as a value -/
def tLamV (T : List (Addr × Str)) (q : Str) (params : Arguments) (body : Expr) (scope : Scope) (cl : List (Str × Addr)) : TE := fun σ H Q => LamX.Tabs T H ∧
  ∀ (f c : Addr) (pm ct : Value) (H1 : Hp), LamX.ExtN H H1 → LamX.Tabs T H1 → H1 f = none → H1 c = some (LamX.CodeO c q) → Q (.ref f) (upd H1 f (LamO f q params body scope cl pm c ct))
theorem pe_lamV {T : List (Addr × Str)} {c P : Addr} {params : Arguments} {body : Expr} {scope : Scope} {pos : Pos} (TB : LamX.TabB X.base X.mg c P) (hcode : X.env.code = .ref c) (hmT : (P, X.env.qual ++ "<lambda>") ∈ T)
    (hu : ∀ p ∈ T, p.1 = P → p.2 = X.env.qual ++ "<lambda>") (hdef : defaultsOf params X.env = ([], [])) (hfr : ∀ y ∈ scope.names, y.2 = .free → X.env.scope.names.lookup y.1 = some .cell ∨ X.env.scope.names.lookup y.1 = some .free) : PE X (.Lambda params body scope pos) (tLamV T (X.env.qual ++ "<lambda>") params body scope (cloFrom X.env.cells scope.names [])) := by
  constructor
  intro pins s σ H Q I h
  obtain ⟨hT, h⟩ := h
  generalize hq : X.env.qual ++ "<lambda>" = q at *
  obtain ⟨ps, hP, ht, ha⟩ := hT _ hmT
  have hP' := I.hok P _ hP
  have bP := TB.bm.keeps I.bk
  have hc0 : closureFor scope X.env = pure (cloFrom X.env.cells scope.names []) := closure_ok fun y hy e => (hfr y hy e).elim (fun k => I.ok.has _ (.inl k)) fun k => I.ok.has _ (.inr k)
  refine PySem.W.kla_eval hdef ?_
  rw [hq]
  have done : ∀ (f c' : Addr) (pm ct : Value) (H1 : Hp) (s1 : Shared), Inv X pins σ H1 s1 → LamX.ExtN H H1 → LamX.Tabs T H1 → s1.heap.objs.size = f → H1 c' = some (LamX.CodeO c' q) →
      EP X pins σ Q (.ref f) { s1 with heap := s1.heap.push (PySem.W.kla_obj "<lambda>" q params body scope (cloFrom X.env.cells scope.names []) pm c' ct) } := fun f c' pm ct H1 s1 I1 eN T1 hf hco => by
    subst hf
    have hn : H1 s1.heap.objs.size = none := I1.hok.fresh (Nat.le_refl _)
    have new := lamO_ok (P := X.prog) (w := X.w) (H := upd H1 s1.heap.objs.size (LamO s1.heap.objs.size q params body scope (cloFrom X.env.cells scope.names []) pm c' ct)) (h := s1.heap.push (PySem.W.kla_obj "<lambda>" q params body scope (cloFrom X.env.cells scope.names []) pm c' ct)) (f := s1.heap.objs.size) (Heap.get?_push_size _ rfl)
    have I2 := I1.laid (t' := s1.toks) (fun b u e => Heap.get?_push_of_some _ e) (Nat.le_refl _) new
    exact ⟨.ref _, _, I2, rfl, h _ c' pm ct H1 eN T1 hn hco⟩
  cases hc : codeAmong pos ps.toList with
  | some cv =>
    obtain ⟨c', e, hco⟩ := ha pos cv hc
    subst e
    refine PySem.W.kla_makeFunctionHit (mg := X.mg) (c := c) (P := P) (ps := ps) hc0 I.ok.glob (I.mod.glob.keeps I.bk) hcode (TB.code.keeps I.bk) hP' ht hc bP fun ct h' tk hx hsz => ?_
    have I1 : Inv X pins σ H { s with heap := h', toks := tk } := I.kept hx
    exact done _ c' _ ct H _ I1 (LamX.ExtN.refl H) hT rfl hco
  | none =>
    refine PySem.W.kla_makeFunction (mg := X.mg) (c := c) (P := P) (ps := ps) hc0 I.ok.glob (I.mod.glob.keeps I.bk) hcode (TB.code.keeps I.bk) hP' ht hc TB.gP bP fun c' ct h' tk hx hge hlt hrec htb => ?_
    obtain ⟨c2, oc, vs, t, e2, hoc, hd, hv⟩ := hrec
    cases e2
    have nC : H c' = none := I.hok.fresh hge
    have I1 := LamX.inv_table (t' := tk) (more := #[rawInt pos.line, rawInt pos.col, .ref c']) (h' := h') (c := c') (q := q) I hP hx htb hge ⟨oc, vs, t, hoc, hd, hv⟩
    have keep : ∀ b o, H b = some o → (∀ ps, o ≠ .tbl ps) → upd (upd H P (.tbl (ps ++ #[rawInt pos.line, rawInt pos.col, .ref c']))) c' (LamX.CodeO c' q) b = some o := fun b o e n => by
      have n1 : b ≠ P := fun z => by
        rw [z, hP] at e
        exact n ps (Option.some.inj e).symm
      rw [upd_ne (ne_of_none e nC), upd_ne n1]
      exact e
    refine done _ c' _ ct _ _ I1 keep (fun p hp => ?_) rfl upd_same
    by_cases hb : p.1 = P
    · rw [hu p hp hb, hb]
      refine ⟨ps ++ #[rawInt pos.line, rawInt pos.col, .ref c'], by rw [upd_ne (ne_of_none hP nC), upd_same], ?_, fun p' cv hcv => ?_⟩
      · rw [Array.toList_append]
        exact PySem.TriplesOk_snoc _ _ _ _ ht
      · rw [Array.toList_append] at hcv
        rcases LamX.among_app _ ht hcv with z | z
        · obtain ⟨c0, e1, e2⟩ := ha p' cv z
          exact ⟨c0, e1, keep _ _ e2 LamX.codeO_ne⟩
        · exact ⟨c', z, upd_same⟩
    · obtain ⟨ps', a1, a2, a3⟩ := hT p hp
      refine ⟨ps', by rw [upd_ne (ne_of_none a1 nC), upd_ne hb]; exact a1, a2, fun p' cv hcv => ?_⟩
      obtain ⟨c0, e1, e2⟩ := a3 p' cv hcv
      exact ⟨c0, e1, keep _ _ e2 LamX.codeO_ne⟩
end
section
variable {X : Cx} {g : G} {W : WX}
def lamM (i : Nat) : EM := fun _ h => .ok (.ref h.length) (h ++ [.lam i])
theorem de_lamV {i : Nat} {c P : Addr} {params : Arguments} {body : Expr} {scope : Scope} {pos : Pos} (TB : LamX.TabB X.base X.mg c P) (hcode : X.env.code = .ref c) (hmT : (P, X.env.qual ++ "<lambda>") ∈ g.T)
    (hu : ∀ p ∈ g.T, p.1 = P → p.2 = X.env.qual ++ "<lambda>") (hL : g.L i = some ⟨X.env.qual ++ "<lambda>", params, body, scope⟩) (hC : g.C i = cloFrom X.env.cells scope.names []) (hdef : defaultsOf params X.env = ([], [])) (L : LamX.LamS X.env.scope scope) :
    PE X (.Lambda params body scope pos) (tE g W (lamM i)) := by
  refine PE.imp (pe_lamV TB hcode hmT hu hdef L.free) fun σ H Q q => ?_
  obtain ⟨α, h, τ, R, s, p⟩ := q
  refine ⟨R.tabs, fun f c' pm ct H1 eN T1 hn hc => ?_⟩
  have R1 := R.extN eN T1
  have p1 := PostE.mono p (Ext.ofN (α := α) eN)
  have x : RepO g (α ++ [f]) (upd H1 f (LamO f (X.env.qual ++ "<lambda>") params body scope (cloFrom X.env.cells scope.names []) pm c' ct)) f (.lam i) :=
    ⟨_, pm, c', ct, hL, by rw [hC]; exact upd_same, by rw [upd_ne (ne_of_none hc hn)]; exact hc⟩
  obtain ⟨a1, a2⟩ := R1.push hn x
  refine p1 _ _ _ a2 a1 (.ref ?_)
  rw [← R1.len]
  simp
/-- what is known of a lambda where it is called -/
structure LamOk (X : Cx) (k : Nat) (I : LamI) (cl : List (Str × Addr)) (t : XK → TE) : Prop where
  q : I.q = X.env.qual ++ "<lambda>"
  L : LamX.LamS X.env.scope I.scope
  clo : cl = cloFrom X.env.cells I.scope.names []
  bind : ∀ (q : Str) (cl : List (Str × Addr)) (pm cv ctv : Value), bindArgs (PySem.W.kla_fn "<lambda>" q I.params I.body I.scope cl pm cv ctv) ⟨[], []⟩ = pure []
  body : ∀ (A : Around) (outer : List Env) (s : Shared) (H : Hp) (E : XK) (f c : Addr), Room k (A.deeper (LamX.lamEnv X I.scope s.heap.objs.size f c)) → PE (LamX.lamCx X A outer s H E I.scope f c) I.body (t E)
def LamAt (H : Hp) (I : LamI) (cl : List (Str × Addr)) (f c : Addr) (pm ct : Value) : Prop := H f = some (LamO f I.q I.params I.body I.scope cl pm c ct) ∧ H c = some (LamX.CodeO c I.q)
section
variable {pins : List (Addr × Obj)} {σ : L2.St} {H : Hp} {s : Shared}
/-- a(), where a holds a lambda of ours: in the def that was called out of X's frame at s -/
theorem pe_actV {CXg : CXT} {Eg : XK} {Ng : List Str} {qg : Str} {sg : Scope} {gg f c : Addr} {cdg pm ctv : Value} {I0 : LamI} {cl : List (Str × Addr)} {k i : Nat} {a : Str} {pn : List (Addr × Obj)} {xe : Value → Shared → Prop} {E : XK} {t : XK → TE} {p1 p2 : Pos}
    (I : Inv X pins σ H s) (O : LamOk X k I0 cl t)
    (tk : Takes ((cxOf CXg X.prog X.w X.K X.mg X.base Ng qg sg gg cdg X.A X.stack s H Eg).tr pn xe) W) (hW : ∀ cls d σ' H', E cls d H' → W cls d σ' H') (hr : Room (k + 1) (X.A.deeper (PyProof.Rows.envOfC qg sg s.heap.objs.size gg cdg)))
    (hN : Ng[i]? = some a) (hv : Vis sg a) (hd : (a == ("__debug__" : Str)) = false) (hcd : (a == ("__classdict__" : Str)) = false) :
    PE ((cxOf CXg X.prog X.w X.K X.mg X.base Ng qg sg gg cdg X.A X.stack s H Eg).tr pn xe) (.Call (.Name a p1) [] [] p2)
      (fun σZ HZ Q => σZ[i]? = some (some (.ref f)) ∧ HZ c = some (LamX.CodeO c I0.q) ∧ (HZ f = some (LamO f I0.q I0.params I0.body I0.scope cl pm c ctv) ∧ t E σ HZ Q)) := by
  obtain ⟨q, params, body, scope⟩ := I0
  obtain ⟨hq, L, hclo, hbind, hbody⟩ := O
  simp only [] at hq L hclo hbind hbody
  subst hq hclo
  constructor
  intro pinsZ sZ σZ HZ Q IZ h
  obtain ⟨hs, hc, hf, ht⟩ := h
  have rd := (pe_var (pos := p1) (i := i) hN hv hd hcd).run pinsZ sZ σZ HZ (fun v H1 => v = .ref f ∧ H1 = HZ) IZ ⟨.ref f, hs, rfl, rfl⟩
  refine wpAny_Call_Name_kw (wpAny_mono rd (fun u s1 hu => ?_) fun _ _ z => z)
  obtain ⟨v, H1, I1, r1, ev, eH⟩ := hu
  subst ev
  rw [eH] at I1
  obtain rfl : u = Value.ref f := r1
  have of1 := lamO_get I1 hf
  refine PySem.W.callWith_F0 ⟨_, _, _, _, of1⟩ ?_
  obtain ⟨⟨oc, vs, tt, hoc, hdc, hvc⟩, _, _⟩ := I1.hok c _ hc
  have kept : Un (frs X.stack) [] H HZ s.heap s1.heap := I1.base
  have rc : codeAny (model X.prog X.w) (X.A.deeper (PyProof.Rows.envOfC qg sg s.heap.objs.size gg cdg)) (.call (.ref f) ⟨[], []⟩) (CR (L2.CX X.prog X.w) (PyProof.Rows.envOfC qg sg s.heap.objs.size gg cdg :: X.stack) X.prog X.w HZ s1 Q E) s1 := by
    refine PySem.W.kla_callFunE hr.depth of1 rfl L.co L.gen rfl ⟨c, oc, vs, tt, rfl, hoc, hdc, hvc⟩ ?_
    rw [hbind]
    refine wpAny_pure (wpAny_newFunctionEnv (fun y hy => (L.own y hy).2) (fun y hy => absurd hy (by simp)) (fun h₁ hns hsb => ?_) L.kind)
    have kp : ∀ b o, s1.heap.get? b = some o → h₁.get? b = some o := fun b o e => hsb.extBut b o (Nat.ne_of_lt (Heap.lt_size e)) (Heap.get?_push_of_some _ e)
    refine ⟨I1.nolimit.fresh _ hsb, ?_⟩
    show codeAny _ _ (.expr body (LamX.lamEnv X scope s1.heap.objs.size f c)) _ _
    have J := LamX.lam_start2 (f := f) (c' := c) (E := E) (tk := s1.toks + ([] : List (Str × Value)).length) I L I1.env0 hr.hd kept hns kp
    have run := (hbody _ _ s1 HZ E f c (hr.deeper _)).run [] _ _ HZ Q J ht
    refine PySem.W.kla_codeExpr (wpAny_mono run (fun v s' hq => ?_) fun e s' hq => hq)
    obtain ⟨w', H', J', rv, q'⟩ := hq
    exact ⟨w', H', J'.os, J'.bare, J'.base, J'.hok, rv, q'⟩
  have hx := passes_call tk hW
  refine wpAny_call (codeAny_mono rc fun r s' hq => ?_)
  match r, hq with
  | .error e, hq => exact hx pinsZ σZ HZ s1 e s' I1 hq
  | .ok (.ret u), hq => exact I1.after hq
  | .ok .next, hq => exact False.elim hq
  | .ok .brk, hq => exact False.elim hq
  | .ok .cont, hq => exact False.elim hq
end
/-- x(e), where e gives a lambda of ours and x calls it -/
theorem pe_toldV {TT : (XK → Hp → VK → Prop) → Hp → VK → Prop} {x a : Str} {gg : Addr} {k : Nat} {pg : Arguments} {bg : List Stmt} {sg : Scope} {dV kV doc pm0 cdv ct0 oc : Value} {an od : Option Addr} {osl : Array (Option Value)} {Ng : List Str} {e : Expr} {ta : TA} {p pos : Pos}
    (hg : Gl X x) (hm : X.mg x = some (.ref gg)) (hk : PySem.W.keepIn X.K (.ref gg) = true) (lk : X.K.lookup gg = some ⟨oc, od, .func (PySem.W.fnOf x x pg bg sg dV kV doc pm0 an cdv ct0), osl⟩) (hcg : PySem.W.codeIn X.K cdv x = true)
    (hb : L2.Binds X.K (PySem.W.fnOf x x pg bg sg dV kV doc pm0 an cdv ct0) [a] []) (Sg : FnScope Ng [a] sg) (hNg : Ng[0]? = some a) (hva : Vis sg a) (hG : LamX.GivesTo X Ng x sg gg cdv bg a (X.env.qual ++ "<lambda>") TT) (hr : Room (k + 2) X.A) (ha : PA X [e] ta)
    (hs : starEach [e] X.env = (false, eval e X.env) :: starEach [] X.env) (hpl : (backTo pos (starEach [] X.env)).any (·.1) = false) (hdb : (x == ("__debug__" : Str)) = false) (hd : (a == ("__debug__" : Str)) = false) (hcd : (a == ("__classdict__" : Str)) = false) :
    PE X (.Call (.Name x p) [e] [] pos) (fun σ H Q => ta σ H fun vs H1 => ∃ (f c : Addr) (pm ct : Value) (I0 : LamI) (cl : List (Str × Addr)) (t : XK → TE), vs = [.ref f] ∧ LamOk X k I0 cl t ∧ LamAt H1 I0 cl f c pm ct ∧
      TT (fun E H' Q' => H' f = some (LamO f I0.q I0.params I0.body I0.scope cl pm c ct) ∧ t E σ H' Q') H1 Q) := by
  constructor
  intro pins s σ H Q I h
  have args := ha.run pos pins s σ H _ I h
  refine wpAny_Call_Name_kw (ld_glob I hg hm ?_ hdb)
  refine PySem.W.callWith_K (h₀ := X.base) I.ok.mod.kin hk (wpAny_mono args (fun us s1 hu => ?_) fun _ _ z => z) hs hpl
  obtain ⟨vs, H1, I1, rv, f, c, pm, ct, I0, cl, t, ev, O, ⟨at1, at2⟩, q⟩ := hu
  subst ev
  obtain ⟨u, rfl⟩ : ∃ u, us = [u] := by
    cases rv with
    | cons r1 r2 =>
      cases r2
      exact ⟨_, rfl⟩
  have ru : u = Value.ref f := by
    cases rv with
    | cons r1 r2 => exact r1
  subst ru
  refine ⟨I1.kIn, ?_⟩
  have rc : codeAny (model X.prog X.w) X.A (.call (.ref gg) ⟨[.ref f], []⟩) (CR C8.CX0 X.stack X.prog X.w H1 s1 Q C8.E0) s1 := by
    refine LamX.run_ofS (N := Ng) (ps := [a]) (us := [.ref f]) (vs := [.ref f]) lk hcg Sg hr I1.env0 (hb s1 [.ref f] I1.kIn rfl) (.cons rfl .nil) rfl fun hr' => ?_
    have hq := O.q
    rw [hq] at at2
    obtain ⟨t', ht', hq'⟩ := hG f c s1 H1 Q (fun E H' Q' => H' f = some (LamO f I0.q I0.params I0.body I0.scope cl pm c ct) ∧ t E σ H' Q') (fun W pn xe E p1 p2 tk hW => by
      have act := pe_actV (W := W) (f := f) (c := c) (pm := pm) (ctv := ct) (i := 0) (p1 := p1) (p2 := p2) I1 O tk hW hr' hNg hva hd hcd
      rw [hq] at act ⊢
      exact act) at2 q
    exact ⟨t', ht'.nox, hq'⟩
  refine wpAny_call (codeAny_mono rc fun r s2 hq => ?_)
  match r, hq with
  | .error e, hq => exact (show False from hq).elim
  | .ok (.ret u), hq => exact I1.after hq
  | .ok .next, hq => exact False.elim hq
  | .ok .brk, hq => exact False.elim hq
  | .ok .cont, hq => exact False.elim hq
end
section
variable {X : Cx} {g : G} {W : WX}
/-- x(e) where x tells and e gives the lambda of some number -/
def toldVM (c : Nat → Option Bool) (ret : Str) (ms : Nat → EM) (mf : EM) : EM := fun τ h => (mf τ h).bind fun d h1 => match d with
  | .ref l => (match h1[l]? with
    | some (.lam i) => toldM c ret (ms i) τ h1
    | _ => .bad)
  | _ => .bad
theorem de_toldV {x a e' : Str} {fg CS : Addr} {k : Nat} {pg : Arguments} {sg : Scope} {dV kV doc pm cdv ct oc : Value} {an od : Option Addr} {osl : Array (Option Value)} {Ng : List Str} {e : Expr} {me : EM} {ms : Nat → EM} {p pos : Pos}
    {ret : Str} {ci : Nat → Option Bool} {j : Nat} {p1 p2 p3 p4 p5 p6 p7 p8 : Pos}
    (hcl : ∀ i b, ci i = some b → PySem.W.exmOne X.K (.ref (g.cl i)) (.ref CS) = some b)
    (hge : sg.names.lookup e' = some .globalImplicit) (hme : X.mg e' = some (.ref CS)) (hde : (e' == ("__debug__" : Str)) = false) (h0 : ∀ f : Addr, (L2.start Ng [V.ref f])[0]? = some (some (V.ref f)))
    (hg : Gl X x) (hm : X.mg x = some (.ref fg)) (hk : PySem.W.keepIn X.K (.ref fg) = true)
    (lk : X.K.lookup fg = some ⟨oc, od, .func (PySem.W.fnOf x x pg [.Try [.Return (some (.Call (.Name a p1) [] [] p2)) p3] [.ExceptHandler (some (.Name e' p4)) none [.Return (some (.Constant (.str ret) j p5)) p6] p7] [] [] p8] sg dV kV doc pm an cdv ct), osl⟩) (hcg : PySem.W.codeIn X.K cdv x = true)
    (hb : L2.Binds X.K (PySem.W.fnOf x x pg [.Try [.Return (some (.Call (.Name a p1) [] [] p2)) p3] [.ExceptHandler (some (.Name e' p4)) none [.Return (some (.Constant (.str ret) j p5)) p6] p7] [] [] p8] sg dV kV doc pm an cdv ct) [a] []) (Sg : FnScope Ng [a] sg) (hNg : Ng[0]? = some a) (hva : Vis sg a)
    (hr : Room (k + 2) X.A) (he : PE X e (tE g W me)) (fam : ∀ i I0, g.L i = some I0 → LamOk X k I0 (g.C i) (fun E => tE g (fun cls d _ H => E cls d H) (ms i)))
    (hs : starEach [e] X.env = (false, eval e X.env) :: starEach [] X.env := by rfl) (hpl : (backTo pos (starEach [] X.env)).any (·.1) = false := by rfl)
    (hdb : (x == ("__debug__" : Str)) = false := by decide) (hd : (a == ("__debug__" : Str)) = false := by decide) (hcd : (a == ("__classdict__" : Str)) = false := by decide) :
    PE X (.Call (.Name x p) [e] [] pos) (tE g W (toldVM ci ret ms me)) := by
  refine PE.imp (pe_toldV hg hm hk lk hcg hb Sg hNg hva (LamX.told_gives hge hme hde h0) hr (pa_cons he pa_nil hs) hs hpl hdb hd hcd) fun σ H Q q => ?_
  obtain ⟨α, h, τ, R, s, q⟩ := q
  refine ⟨α, h, τ, R, s, PostE.imp (PostE.bind q) ?_⟩
  rintro v H1 ⟨α1, d, h1, E1, R1, D1, p1⟩
  cases D1 <;> try exact False.elim p1
  rename_i l f hl
  simp only [] at p1
  split at p1
  · rename_i i ei
    obtain ⟨I0, pm', c, ct', hL, at1, at2⟩ := R1.ob _ _ _ ei hl
    refine ⟨f, c, pm', ct', I0, _, _, rfl, fam i I0 hL, ⟨at1, at2⟩, at1, α1, h1, τ, R1, s.ext E1, ?_⟩
    unfold toldM at p1
    cases em : ms i τ h1 with
    | ok d h' => rw [em] at p1; exact p1
    | exc n h' =>
      rw [em] at p1
      simp only at p1
      split at p1
      · rename_i hc
        intro α' H' e2 R'
        exact ⟨true, hcl n true hc, fun _ => p1 α' H' _ e2 R' (.str _), fun z => by cases z⟩
      · exact p1.elim
    | bad => rw [em] at p1; exact p1.elim
  · exact p1.elim
end
end DD
end

section
set_option Elab.async false
set_option linter.all false
set_option maxRecDepth 100000
set_option maxHeartbeats 2000000
/-! sets of texts and numbers whose members can be walked: made, added to, sorted -/
namespace DD
open PySem PySem.Spec PyProof.Rows L2
/-- the key that a member is -/
def kyV : Value → Key
  | .str x _ => .inr x
  | .int i _ => .inl i
  | _ => .inl 0
theorem kyV_of {k : Key} {v : Value} (h : keyIs k v = true) : kyV v = k := by
  rcases keyIs_shape h with ⟨i, t, rfl, rfl⟩ | ⟨x, t, rfl, rfl⟩ <;> rfl
def kys (es : Array (Int × Value)) : List Key := es.toList.map fun e => kyV e.2
/-- members in their table -/
structure InT (P : Program) (w : World) (S : Key → Bool) (es : Array (Int × Value)) (t : SetTable) : Prop where
  el : ElemsOf (mixKind P w) es.toList
  nd : (kys es).Nodup
  mem : ∀ k, S k = true ↔ k ∈ kys es
  few : es.size < scanBound
  fit : t.fits es.size = true
  ris : Ris t.place.toList
  ord : w.params.followText "set-order" = true ∨ t.led = true
def SeT (P : Program) (w : World) (h : Heap) (a : Addr) (S : Key → Bool) (n : Nat) : Prop := ∃ o es ep t, h.get? a = some o ∧ o.ExactSet ∧ o.data = .set es ep t ∧ InT P w S es t ∧ es.size = n
section
variable {P : Program} {w : World} {S : Key → Bool} {es es' : Array (Int × Value)} {t t' : SetTable}
theorem kys_perm (p : es'.toList.Perm es.toList) : (kys es').Perm (kys es) := p.map _
theorem perm_size (p : es'.toList.Perm es.toList) : es'.size = es.size := by rw [← Array.length_toList, p.length_eq, Array.length_toList]
theorem InT.perm (i : InT P w S es t) (p : es'.toList.Perm es.toList) (f : t'.fits es'.size = true) (r : Ris t'.place.toList) (l : t'.led = t.led) : InT P w S es' t' where
  el := fun e he => i.el e (p.mem_iff.mp he)
  nd := (kys_perm p).nodup_iff.mpr i.nd
  mem := fun k => (i.mem k).trans (kys_perm p).mem_iff.symm
  few := by rw [perm_size p]; exact i.few
  fit := f
  ris := r
  ord := i.ord.imp id fun z => l.trans z
theorem InT.has (i : InT P w S es t) {k : Key} {e : Int × Value} (he : e ∈ es.toList) (q : keyIs k e.2 = true) : S k = true := by
  rw [i.mem]
  exact List.mem_map.mpr ⟨e, he, kyV_of q⟩
theorem InT.get (i : InT P w S es t) {k : Key} (q : S k = true) : ∃ e ∈ es.toList, keyIs k e.2 = true := by
  obtain ⟨e, he, z⟩ := List.mem_map.mp ((i.mem k).mp q)
  obtain ⟨⟨k0, h0, _⟩, _⟩ := i.el e he
  have : k0 = k := (kyV_of h0).symm.trans z
  exact ⟨e, he, this ▸ h0⟩
theorem InT.more (i : InT P w S es t) {k : Key} {v : Value} (hv : keyIs k v = true) (hk : S k = false) (p : es'.toList.Perm (((mixKind P w).hash k, v) :: es.toList)) (f : t'.fits es'.size = true) (r : Ris t'.place.toList) (l : t'.led = t.led)
    (z : es.size + 1 < scanBound) : InT P w (fun j => S j || decide (j = k)) es' t' ∧ es'.size = es.size + 1 := by
  have pk : (kys es').Perm (k :: kys es) := by
    have := p.map fun e => kyV e.2
    rw [List.map_cons, kyV_of hv] at this
    exact this
  have sz : es'.size = es.size + 1 := by rw [← Array.length_toList, p.length_eq, List.length_cons, Array.length_toList]
  refine ⟨{ el := fun e he => ?_, nd := ?_, mem := fun j => ?_, few := by omega, fit := f, ris := r, ord := i.ord.imp id fun z => l.trans z }, sz⟩
  · rcases List.mem_cons.mp (p.mem_iff.mp he) with q | q
    · rw [q]
      exact ⟨⟨k, hv, rfl⟩, by rcases keyIs_shape hv with ⟨j, u, _, rfl⟩ | ⟨x, u, _, rfl⟩ <;> rfl⟩
    · exact i.el e q
  · rw [pk.nodup_iff, List.nodup_cons]
    exact ⟨fun m => (by rw [(i.mem k).mpr m] at hk; cases hk), i.nd⟩
  · rw [pk.mem_iff, List.mem_cons, Bool.or_eq_true, decide_eq_true_eq, i.mem j]
    exact Or.comm
theorem SeT.keep {h h' : Heap} {a : Addr} {n : Nat} (R : SeT P w h a S n) (k : ∀ o, h.get? a = some o → h'.get? a = some o) : SeT P w h' a S n :=
  let ⟨o, es, ep, t, ho, r⟩ := R
  ⟨o, es, ep, t, k o ho, r⟩
theorem SeT.of_set {h : Heap} {a : Addr} {n : Nat} (R : SeT P w h a S n) : h.SetOf (mixKind P w) a S n := by
  obtain ⟨o, es, ep, t, ho, hx, hd, i, hn⟩ := R
  exact ⟨o, es, ep, t, ho, hx, hd, i.el, fun k => ⟨fun q => i.get q, fun ⟨e, he, q⟩ => i.has he q⟩, i.few, i.fit, hn⟩
end
section
variable {P : Program} {w : World} {A : Around} {E : Value → Shared → Prop} {s : Shared} {a : Addr} {S S' : Key → Bool} {n : Nat}
theorem laid_set {h : Heap} {o : Obj} {es e2 : Array (Int × Value)} {ep : Nat} {t tb : SetTable} (ho : h.get? a = some o) (hd : o.data = .set es ep t) : (h.update a (Obj.putSet e2 tb)).get? a = some { o with data := .set e2 (ep + 1) tb } := by
  have q := Heap.get?_update_self (Obj.putSet e2 tb) ho (by rw [putSet_of e2 tb hd]; rfl)
  rwa [putSet_of e2 tb hd] at q
theorem lay_tail {gv : Bool → Sem Unit} (hg : ∀ (b : Bool) (s1 : Shared) (Z : Unit → Shared → Prop), Z () s1 → wpAny (model P w) A (gv b) Z E s1) {o : Obj} {es e2 : Array (Int × Value)} {ep : Nat} {t tb : SetTable} {wd : Bool} {R : Option Bool → Shared → Prop}
    (ho : s.heap.get? a = some o) (hex : o.ExactSet) (hd : o.data = .set es ep t) (i : InT P w S' e2 tb) (hR : ∀ h', Heap.SameBut a s.heap h' → SeT P w h' a S' e2.size → R (some true) { s with heap := h' }) :
    wpAny (model P w) A (do
        storeSet a e2 tb
        if (!wd && tb.tooFull) = true then do
            gv (relayAll tb e2 (SetTable.grown e2.size)).2.2
            storeSet a (relayAll tb e2 (SetTable.grown e2.size)).1 (relayAll tb e2 (SetTable.grown e2.size)).2.1
            pure (some true)
          else pure (some true)) R E s := by
  refine wpAny_bind (wpAny_storeSet_of ho hd ?_ (fits_of_scanBound i.few))
  have o1 := laid_set (e2 := e2) (tb := tb) ho hd
  have b1 := Heap.SameBut.update s.heap a (Obj.putSet e2 tb)
  split
  · have p3 := relayAll_perm tb e2 (SetTable.grown e2.size)
    have i3 := i.perm p3 (relayAll_fits tb e2 (SetTable.grown e2.size)) (relayAll_ris tb e2 (SetTable.grown e2.size)) (relayAll_led tb e2 (SetTable.grown e2.size))
    have z3 := perm_size p3
    refine wpAny_bind (hg _ _ _ (wpAny_bind (wpAny_storeSet_of o1 rfl ?_ (fits_of_scanBound i3.few))))
    exact wpAny_pure (hR _ (b1.trans (Heap.SameBut.update _ a _)) ⟨_, _, _, _, laid_set o1 rfl, hex, rfl, i3, z3⟩)
  · exact wpAny_pure (hR _ b1 ⟨_, _, _, _, o1, hex, rfl, i, rfl⟩)
theorem add_hashed {k : Key} {v : Value} {Q : Bool → Shared → Prop} (hv : keyIs k v = true) (R : SeT P w s.heap a S n) (room : n + 1 < scanBound)
    (hQ : ∀ h', Heap.SameBut a s.heap h' → SeT P w h' a (fun j => S j || decide (j = k)) (if S k = true then n else n + 1) → Q (!S k) { s with heap := h' }) : wpAny (model P w) A (setAddHashed a v ((mixKind P w).hash k)) Q E s := by
  obtain ⟨o, es, ep, t, ho, hex, hd, i, hn⟩ := R
  have hsc : v.scannable = true := by rcases keyIs_shape hv with ⟨j, u, _, rfl⟩ | ⟨x, u, _, rfl⟩ <;> rfl
  have hkey : (mixKind P w).is k v = true := hv
  unfold setAddHashed setAddHashedIn
  refine wpAny_holding (wpAny_bind (wpAny_setState_of ho hd i.fit ?_))
  dsimp only
  rw [byScan_of hsc i.few i.el]
  simp only [↓reduceIte]
  unfold setAddByScan
  refine wpAny_bind ?_
  refine wpAny_bind (wpAny_rule ?_)
  refine wpAny_bind (wpAny_setScan_of hkey ho hd i.fit i.el ?_)
  cases hfi : List.findIdx? (fun e => (mixKind P w).is k e.2) es.toList with
  | some j =>
    dsimp only
    obtain ⟨hj, pj, _⟩ := List.findIdx?_eq_some_iff_getElem.mp hfi
    have hSk : S k = true := i.has (List.getElem_mem hj) pj
    have q := hQ s.heap (Heap.SameBut.refl a s.heap)
    rw [hSk, if_pos rfl] at q
    refine wpAny_pure (wpAny_pure (q ⟨o, es, ep, t, ho, hex, hd, ?_, hn⟩))
    have e : (fun j => S j || decide (j = k)) = S := funext fun j => by
      by_cases c : j = k
      · rw [c, hSk]; rfl
      · rw [decide_eq_false c, Bool.or_false]
    rw [e]
    exact i
  | none =>
    dsimp only
    have hSk : S k = false := by
      cases q : S k with
      | false => rfl
      | true =>
        obtain ⟨e, he, z⟩ := i.get q
        have c := List.findIdx?_eq_none_iff.mp hfi e he
        rw [show (mixKind P w).is k e.2 = true from z] at c
        cases c
    have gaveWay : ∀ (b : Bool) {s1 : Shared} {Z : Unit → Shared → Prop}, Z () s1 → wpAny (model P w) A (match b with | true => rule "set.scan.the-table-gave-way" | false => pure ()) Z E s1 := by
      intro b s1 Z q
      cases b <;> first | exact wpAny_pure q | exact wpAny_rule q
    have pm := layNew_perm t es ((mixKind P w).hash k) v
    have f1 := layNew_fits t es ((mixKind P w).hash k) v
    have r1 := layNew_ris t es ((mixKind P w).hash k) v i.ris
    have l1 := layNew_led t es ((mixKind P w).hash k) v
    generalize layNew t es ((mixKind P w).hash k) v = lay at pm f1 r1 l1 ⊢
    obtain ⟨e2, tb, wd, gave⟩ := lay
    dsimp only at pm f1 r1 l1 ⊢
    rw [Array.toList_push] at pm
    have pc := pm.trans (List.perm_append_singleton _ _)
    have fin : ∀ tc : SetTable, tc.fits e2.size = true → Ris tc.place.toList → tc.led = t.led → InT P w (fun j => S j || decide (j = k)) e2 tc ∧ e2.size = es.size + 1 := fun tc f r l => i.more hv hSk pc f r l (by rw [hn]; exact room)
    have out : ∀ h', Heap.SameBut a s.heap h' → SeT P w h' a (fun j => S j || decide (j = k)) e2.size → Q true { s with heap := h' } := fun h' sb r => by
      have q := hQ h' sb
      rw [hSk] at q
      rw [(fin tb f1 r1 l1).2, hn] at r
      exact q r
    refine wpAny_bind (gaveWay _ ?_)
    split
    · refine wpAny_bind ?_
      rw [hashByValue_scannable 8 hsc]
      refine wpAny_pure ?_
      refine lay_tail ?_ ho hex hd (fin _ ?_ ?_ ?_).1 ?_
      · intro b s1 Z q; cases b <;> first | exact wpAny_pure q | exact wpAny_rule q
      · first | (split <;> first | exact f1 | exact SetTable.fits_plain_off f1) | exact f1
      · first | (split <;> exact r1) | exact r1
      · first | (split <;> exact l1) | exact l1
      · intro h' sb r; dsimp only; exact wpAny_pure (out h' sb r)
    · refine wpAny_bind (wpAny_pure ?_)
      simp only [↓reduceIte]
      refine lay_tail ?_ ho hex hd (fin _ f1 r1 l1).1 ?_
      · intro b s1 Z q; cases b <;> first | exact wpAny_pure q | exact wpAny_rule q
      · intro h' sb r; dsimp only; exact wpAny_pure (out h' sb r)
theorem seT_add {k : Key} {v : Value} {Q : Value → Shared → Prop} (hv : keyIs k v = true) (R : SeT P w s.heap a S n) (room : n + 1 < scanBound)
    (hQ : ∀ h', Heap.SameBut a s.heap h' → SeT P w h' a (fun j => S j || decide (j = k)) (if S k = true then n else n + 1) → Q .none { s with heap := h', toks := s.toks + 1 }) : wpAny (model P w) A (call (.builtin "set.add") [.ref a, v]) Q E s := by
  refine wpAny_call_entry F.slot_set_add R.of_set.typeIs F.entry_set_add ?_ (F.args_set_add_2 _ _)
  unfold Builtin.«set.add» Builtin.Frozenset.oneOther
  simp only [List.isEmpty_nil, bind_assoc]
  unfold Builtin.Frozenset.addrOf setAdd
  refine wpAny_bind (wpAny_pure ?_)
  try dsimp only
  refine wpAny_bind (wpAny_pure ?_)
  try dsimp only
  refine wpAny_bind (wpAny_holding (wpAny_bind ((mixKind P w).pyHash (k := k) hv ?_)))
  refine add_hashed (s := { s with toks := s.toks + 1 }) hv R room fun h' sb r => ?_
  show wpAny _ _ (ret Value.none) _ _ _
  exact wpAny_pure ⟨_, rfl, hQ h' sb r⟩
theorem seT_fresh {h : Heap} (P : Program) (w : World) : SeT P w (h.push { cls := .type "set", dict := none, data := .set #[] 0 (.fresh 0 0 (!w.params.followText "set-order")) }) h.objs.size (fun _ => false) 0 := by
  refine ⟨_, #[], 0, _, Heap.get?_push_size _ rfl, ⟨rfl, rfl, rfl⟩, rfl, ⟨fun e he => by simp at he, by simp [kys], fun k => by simp [kys], by decide, rfl, List.Pairwise.nil, ?_⟩, rfl⟩
  show _ ∨ (!w.params.followText "set-order") = true
  cases w.params.followText "set-order" <;> simp
end
end DD
end

section
set_option Elab.async false
set_option linter.all false
set_option maxRecDepth 100000
set_option maxHeartbeats 2000000
/-! sets of texts and numbers by a comprehension; sorted(..) of such a set of texts -/
namespace DD
open PySem PySem.Spec PyProof.Rows L2
def SeTO (P : Program) (w : World) (a : Addr) (S : Key → Bool) (n : Nat) : HO := .ext fun h => SeT P w h a S n
section
variable {X : Cx} {pins : List (Addr × Obj)} {σ : L2.St} {H : Hp} {s : Shared} {S : Key → Bool} {n : Nat} {D a : Addr}
theorem seTO_ok {P : Program} {w : World} {h : Heap} (R : SeT P w h a S n) : ObjOk P w H h a (SeTO P w a S n) := by
  have ⟨o, _, _, _, ho, _⟩ := R
  exact ⟨R, ⟨o, ho⟩, fun _ _ p k => SeT.keep p k⟩
theorem seTO_at (I : Inv X pins σ H s) (e : H a = some (SeTO X.prog X.w a S n)) : SeT X.prog X.w s.heap a S n := (I.hok a _ e).1
theorem seTO_add {E : Value → Shared → Prop} {k : Key} {u : Value} {Q : Value → Shared → Prop} (I : Inv X pins σ H s) (hD : H D = some (SeTO X.prog X.w D S n)) (room : n + 1 < scanBound) (ru : RelV (kV k) u)
    (go : ∀ s1, Inv X pins σ (upd H D (SeTO X.prog X.w D (fun j => S j || decide (j = k)) (if S k = true then n else n + 1))) s1 → Q .none s1) : wpAny (model X.prog X.w) X.A (call (.builtin "set.add") [.ref D, u]) Q E s := by
  refine seT_add (kV_is (P := X.prog) (w := X.w) ru) (seTO_at I hD) room fun h1 sb new => go _ ?_
  have ⟨o, _, _, _, ho, _⟩ := new
  exact I.write (e := D) (t' := s.toks + 1) (by rw [hD]; trivial) (.inl rfl) (fun b u hb hu => (sb.2 b hb).trans hu) ⟨o, ho⟩ (seTO_ok new)
end
/-! ### the comprehension -/
/-- {y for target in iter if ..}, y a text or a number; D the new set -/
def tScK (P : Program) (w : World) (wi : TI) (g : TG) (tt : TT) (te : TE) (vs : List Nat) : TE := fun σ H Q => wi σ H fun J H1 => ∀ D, H1 D = none → ∃ W : Nat → Nat → Hp → Prop, (∃ m, W 0 m (upd H1 D (SeTO P w D (fun _ => false) 0))) ∧
  ∀ i m H, W i m H → (J.stop i H ∧ Q (.ref D) H) ∨ (J.go i H ∧ ∃ Nx : Hp → Prop, (∀ H', Nx H' → ∃ m', m' < m ∧ W (i + 1) m' H') ∧ ∀ x H', J.yld i H x H' → g x (wipe σ vs) H' fun σ2 H2 => wipe σ2 vs = wipe σ vs ∧ tt σ2 H2 fun b H3 =>
    if b = true then te σ2 H3 fun y H4 => ∃ (k : Key) (S : Key → Bool) (n : Nat), y = kV k ∧ H4 D = some (SeTO P w D S n) ∧ n + 1 < scanBound ∧ Nx (upd H4 D (SeTO P w D (fun j => S j || decide (j = k)) (if S k = true then n else n + 1))) else Nx H3)
section
variable {X : Cx}
theorem setComp_run {elt tg iter : Expr} {ifs : List Expr} {scope : Scope} {own : List (PySem.Str × Nat)} {pos : Pos} {wi : TI} {g : TG} {tt : TT} {te : TE} (hc : X.calm = true) (hN : X.N.Nodup) (hi : PI X tg iter wi) (ok : BlkOk X.N X.env.scope scope own)
    (hg : ∀ (s : Shared) (H : Hp) (C : Addr) (cl : List (PySem.Str × Addr)) (fp : List Addr), PG (X.blk s H scope (compEnvC scope cl C X.env) fp) tg g)
    (ht : ∀ (s : Shared) (H : Hp) (C : Addr) (cl : List (PySem.Str × Addr)) (fp : List Addr), PTs (X.blk s H scope (compEnvC scope cl C X.env) fp) ifs tt)
    (he : ∀ (s : Shared) (H : Hp) (C : Addr) (cl : List (PySem.Str × Addr)) (fp : List Addr), PE (X.blk s H scope (compEnvC scope cl C X.env) fp) elt te) (hs : ∀ x, foldedSetIterable iter X.env x = pure x := by intro _; rfl) :
    PE X (.SetComp elt [⟨tg, iter, ifs, 0⟩] scope pos) (tScK X.prog X.w wi g tt te (own.map (·.2))) := by
  refine ⟨fun pins s σ H Q I h => ?_⟩
  rw [PpSet.eval_SetComp]
  have seen : ∀ y ∈ scope.names, y.2 = .free → ∃ c, X.env.cells.lookup y.1 = some c := fun y hy e => (ok.free y hy e).elim (fun z => I.ok.has _ (.inl z)) fun z => I.ok.has _ (.inr z)
  refine wpAny_comprehension_free (use := none) rfl hs (closure_ok seen) ok.kind (fun y hy e => by rw [ok.uniq y hy, e]) (thn (hi.run pins s σ H _ I h) fun xv s1 hx => thn hx fun itv s2 h2 => ?_)
  obtain ⟨it, fp, tn, J, H2, e, I2, T, st2, f2, q⟩ := h2
  subst e
  refine PpSet.newSet_ok (newEnv_comp ?_)
  generalize eD : s2.heap.objs.size = D
  obtain ⟨W, ⟨m0, w0⟩, turn⟩ := q D (I2.hok.fresh (Nat.le_of_eq eD))
  generalize e3 : ({ s2 with heap := s2.heap.push { cls := .type "set", dict := none, data := .set #[] 0 (.fresh 0 0 (!X.w.params.followText "set-order")) } } : Shared) = s3
  have p3 : s3.heap = s2.heap.push { cls := .type "set", dict := none, data := .set #[] 0 (.fresh 0 0 (!X.w.params.followText "set-order")) } := by rw [← e3]
  have up : ∀ b o, s2.heap.get? b = some o → s3.heap.get? b = some o := fun b o z => by rw [p3]; exact Heap.get?_push_of_some _ z
  have I3 : Inv X pins σ (upd H2 D (SeTO X.prog X.w D (fun _ => false) 0)) s3 := by
    rw [← e3]
    refine I2.laid (t' := s2.toks) (fun b o z => Heap.get?_push_of_some _ z) (Nat.le_of_eq eD) ?_
    rw [← eD]
    exact seTO_ok (seT_fresh X.prog X.w)
  generalize e4 : upd H2 D (SeTO X.prog X.w D (fun _ => false) 0) = H3 at I3 w0
  have low : ∀ b ∈ fp, b < s2.heap.objs.size := fun b hb => let ⟨o, z, _⟩ := T.obj _ _ st2 b hb; Heap.lt_size z
  have f3 : ∀ b ∈ fp, FpOk X pins H3 b ∧ b < s3.heap.objs.size := fun b hb => by
    have lb := low b hb
    refine ⟨⟨?_, (f2 b hb).2⟩, by rw [p3, Heap.size_push]; exact Nat.lt_succ_of_lt lb⟩
    rw [← e4, upd_ne (by rw [← eD]; exact Nat.ne_of_lt lb)]
    exact (f2 b hb).1
  have st3 := T.keep _ _ _ st2 fun b _ o z => up b o z
  have I4 := block_start I3 ok hN f3
  have pg := hg s3 H3 s3.heap.objs.size (cellsFrom (s3.heap.objs.size + 1) scope.names (cloFrom X.env.cells scope.names [])) fp
  have pt := ht s3 H3 s3.heap.objs.size (cellsFrom (s3.heap.objs.size + 1) scope.names (cloFrom X.env.cells scope.names [])) fp
  have pe := he s3 H3 s3.heap.objs.size (cellsFrom (s3.heap.objs.size + 1) scope.names (cloFrom X.env.cells scope.names [])) fp
  let post := compPost (model X.prog X.w) X.A X.xe none (fun v s' => ∃ x H', Inv X pins σ H' s' ∧ RelV x v ∧ Q x H') (.ref D) s3.heap.objs.size
  show codeAny _ _ (.compStart (.SetComp elt [⟨tg, iter, ifs, 0⟩] scope pos) 0 (.ref it) (.ref D) (compEnvC scope (cellsFrom (s3.heap.objs.size + 1) scope.names (cloFrom X.env.cells scope.names [])) s3.heap.objs.size X.env)) _ { s3 with heap := pushCells (s3.heap.push { cls := .type "dict", data := .dict #[] }) scope.names }
  generalize hce : compEnvC scope (cellsFrom (s3.heap.objs.size + 1) scope.names (cloFrom X.env.cells scope.names [])) s3.heap.objs.size X.env = ce at I4 pg pt pe ⊢
  have cL : ce.locals = s3.heap.objs.size := by rw [← hce]; rfl
  generalize e5 : ({ s3 with heap := pushCells (s3.heap.push { cls := .type "dict", data := .dict #[] }) scope.names } : Shared) = s4 at I4 ⊢
  have st4 := T.keep _ _ _ st3 fun b _ o z => show s4.heap.get? b = some o by rw [← e5]; exact pushCells_keeps _ _ _ _ (Heap.get?_push_of_some _ z)
  have stat : ∀ {σ' : L2.St} {H' : Hp} {s' : Shared}, Inv (X.blk s3 H3 scope ce fp) [] σ' H' s' → (∀ b ∈ fp, H' b = none) → ∀ b ∈ fp, FpOk (X.blk s3 H3 scope ce fp) [] H' b :=
    fun I' hn b hb => ⟨hn b hb, (I'.ok.exf b hb).1, I'.ok.exfs b hb, .inl hb, fun x c z => (I'.ok.exf b hb).2 x c z, fun p hp => absurd (show p ∈ ([] : List (Addr × Obj)) ++ [] from hp) (by simp)⟩
  have loop : codeAny (model X.prog X.w) X.A (.compLoop (.SetComp elt [⟨tg, iter, ifs, 0⟩] scope pos) 0 (.ref it) (.ref D) ce) (compPost (model X.prog X.w) X.A X.xe none (fun v s' => ∃ x H', Inv X pins σ H' s' ∧ RelV x v ∧ Q x H') (.ref D) s3.heap.objs.size) s4 := by
    refine PpSet.compLoopS_any (fun n s' => ∃ i H', Inv (X.blk s3 H3 scope ce fp) [] (wipe σ (own.map (·.2))) H' s' ∧ tn i s'.heap ∧ (∀ b ∈ fp, H' b = none) ∧ W i n H') ?_ m0 ⟨0, H3, I4, st4, fun b hb => (f3 b hb).1.1, w0⟩
    rintro n s5 ⟨i, H5, I5, st5, n5, w5⟩
    rcases turn i n H5 w5 with ⟨stop, qq⟩ | ⟨go, Nx, hNx, step⟩
    · refine thnF (T.done (X.blk s3 H3 scope ce fp) rfl rfl rfl hc i [] s5 _ H5 (fun _ _ => False) I5 (stat I5 n5) st5 stop) fun r s6 ⟨hr, I6⟩ => ?_
      subst hr
      have I7 : Inv X pins σ H5 s6 := I3.call' (ch := fp) I6.os I6.base I6.hok I6.bare fun b hb => let z := (f3 b hb).1.2; ⟨z.2.2.1, z.1, z.2.2.2.1, z.2.2.2.2⟩
      have nC : H5 s3.heap.objs.size = none := cL ▸ (show H5 ce.locals = none from I6.free)
      obtain ⟨m, hn, _⟩ := I6.loc
      refine ⟨m, cL ▸ (show s6.heap.Ns ce.locals m from hn), fun h6 sb => ?_⟩
      obtain ⟨g0, g1, g2, g3, g4, g5⟩ := I3.fpOk (Nat.le_refl _) nC
      exact ⟨.ref D, H5, I7.turned (t' := s6.toks) (fun b o hb z => (sb.2 b hb).trans z) g0 g1 g3 g4 g5, rfl, qq⟩
    · refine thnF (T.item (X.blk s3 H3 scope ce fp) rfl rfl rfl hc i [] s5 _ H5 (fun _ _ => False) I5 (stat I5 n5) st5 go) fun r s6 ⟨u, hr, h6⟩ => ?_
      subst hr
      refine thnF h6 fun _ s7 ⟨x, H7, I7, r7, y7, st7, n7⟩ => ?_
      refine thnF (pg.run _ s7 _ H7 x u _ (I7.pinned (stat I7 n7) (T.obj _ _ st7)) r7 (step x H7 y7)) fun _ s8 ⟨σ8, H8, I8, hw8, q8⟩ => ?_
      refine thnF (pt.run _ s8 σ8 H8 _ I8 q8) fun b s9 ⟨H9, I9, q9⟩ => ?_
      have fin : ∀ {sz : Shared} {Hz : Hp}, Inv (X.blk s3 H3 scope ce fp) ([] ++ pinsAt fp s7.heap) σ8 Hz sz → Nx Hz → ∃ m, m < n ∧ ∃ i H', Inv (X.blk s3 H3 scope ce fp) [] (wipe σ (own.map (·.2))) H' sz ∧ tn i sz.heap ∧ (∀ b ∈ fp, H' b = none) ∧ W i m H' := by
        intro sz Hz Iz nx
        obtain ⟨m1, lt, w1⟩ := hNx Hz nx
        have pin : ∀ b ∈ fp, ∀ o, s7.heap.get? b = some o → sz.heap.get? b = some o ∧ Hz b = none := fun b hb o z =>
          let y := Iz.pin (b, o) (List.mem_append_right _ (List.mem_append_right _ (mem_pinsAt hb z))); ⟨y.1, y.2.1⟩
        refine ⟨m1, lt, i + 1, Hz, (Iz.unpinned (pins := [])).weak (by rw [← hw8, wipe_length]) (fun j v z => ?_), T.keep _ _ _ st7 fun b hb o z => (pin b hb o z).1, fun b hb => ?_, w1⟩
        · exact (wipe_some (hw8 ▸ z)).1
        · obtain ⟨o, z, _⟩ := T.obj _ _ st7 b hb
          exact (pin b hb o z).2
      cases b with
      | false => simpa using fin I9 (by simpa using q9)
      | true =>
        simp only [if_true] at q9 ⊢
        refine thnF (pe.run _ s9 σ8 H9 _ I9 q9) fun z s10 ⟨yv, H10, I10, r10, kb, S0, n0, ey, hD10, hz10, nx⟩ => ?_
        subst ey
        exact seTO_add (X := X.blk s3 H3 scope ce fp) I10 hD10 hz10 r10 fun s11 I11 => fin I11 nx
  exact PpSet.codeAny_compStart_set loop (T.self X.A 0 _ _ _ st4 loop)
end
end DD
end

section
set_option Elab.async false
set_option linter.all false
set_option maxRecDepth 100000
set_option maxHeartbeats 2000000
/-! sorted({y for target in iter if ..}), y texts -/
namespace DD
open PySem PySem.Spec PyProof.Rows L2
/-! ### a set's object is no other's -/
theorem seTO_eq {P : Program} {w : World} {a : Addr} {S : Key → Bool} {n : Nat} {p : Heap → Prop} (e : SeTO P w a S n = .ext p) (h : Heap) (q : p h) : ∃ o es ep t, h.get? a = some o ∧ o.data = .set es ep t := by
  unfold SeTO at e
  injection e with e
  rw [← e] at q
  obtain ⟨o, es, ep, t, h1, _, h2, _⟩ := q
  exact ⟨o, es, ep, t, h1, h2⟩
theorem get_rep {o : Obj} {a : Addr} (k : o.data ≠ .freed) : ({ objs := Array.replicate (a + 1) o } : Heap).get? a = some o := by
  unfold Heap.get?
  have z : ({ objs := Array.replicate (a + 1) o } : Heap).objs[a]? = some o := by simp
  rw [z]
  cases o with
  | mk c d x s => cases x <;> first | rfl | exact absurd rfl k
theorem seTO_ne_code {P : Program} {w : World} {a : Addr} {S : Key → Bool} {n : Nat} {q : Str} : SeTO P w a S n ≠ LamX.CodeO a q := fun e => by
  let ob : Obj := { cls := .type "code", data := .fields #[.none, .str q 0] }
  have k : ob.data ≠ .freed := by intro z; cases z
  obtain ⟨o, es, ep, t, h1, h2⟩ := seTO_eq (p := _) e { objs := Array.replicate (a + 1) ob } ⟨ob, #[.none, .str q 0], 0, get_rep k, rfl, rfl⟩
  rw [get_rep k] at h1
  cases h1
  cases h2
theorem seTO_ne_lam {P : Program} {w : World} {a : Addr} {S : Key → Bool} {n : Nat} {q : Str} {ps : Arguments} {b : Expr} {sc : Scope} {cl : List (Str × Addr)} {pm : Value} {c : Addr} {ct : Value} : SeTO P w a S n ≠ LamO a q ps b sc cl pm c ct := fun e => by
  have k : (PySem.W.kla_obj "<lambda>" q ps b sc cl pm c ct).data ≠ .freed := by intro z; cases z
  obtain ⟨o, es, ep, t, h1, h2⟩ := seTO_eq (p := _) e { objs := Array.replicate (a + 1) (PySem.W.kla_obj "<lambda>" q ps b sc cl pm c ct) } (get_rep k)
  rw [get_rep k] at h1
  cases h1
  cases h2
section
variable {P : Program} {w : World} {g : G} {α α' : List Addr} {H H' : Hp} {h : AH} {da : Addr} {S S' : Key → Bool} {n n' : Nat} {u : HO} {W : WX} {σ : L2.St} {Q : VK}
theorem Ext.putNew (e : Ext α H α' H') (hD : H da = none) : Ext α H α' (upd H' da u) := by
  have n1 : ∀ {b : Addr} {x : HO}, H b = some x → b ≠ da := fun q z => by rw [z, hD] at q; cases q
  refine ⟨e.pre, fun b xs r => ?_, fun b o xs q => by rw [upd_ne (n1 q)]; exact e.frl b o xs q, fun b p q => by rw [upd_ne (n1 q)]; exact e.ext b p q⟩
  have hb : b ≠ da := by
    rcases r with r | ⟨o, r⟩ <;> exact n1 r
  have z := e.tup b xs r
  rcases z with z | ⟨o, z⟩
  · exact .inl (by rw [upd_ne hb]; exact z)
  · exact .inr ⟨o, by rw [upd_ne hb]; exact z⟩
theorem Rep.putSet (R : Rep g α h H) (hD : H da = some (SeTO P w da S n)) : Rep g α h (upd H da (SeTO P w da S' n')) := by
  have nd : ∀ {b : Addr} {q : Str}, H b = some (LamX.CodeO b q) → b ≠ da := fun {b q} z e => by
    subst e
    rw [hD] at z
    exact seTO_ne_code (Option.some.inj z)
  have nc : ∀ {b : Addr} {q : Str}, H b = some (LamX.CodeO b q) → upd H da (SeTO P w da S' n') b = some (LamX.CodeO b q) := fun z => by rw [upd_ne (nd z)]; exact z
  have ew : ExtW α H α (upd H da (SeTO P w da S' n')) := by
    refine ⟨fun _ _ z => z, fun b xs r => ?_, fun b o xs q => ?_, fun c q z => nc z⟩
    · rcases r with r | ⟨o, r⟩
      · have hb : b ≠ da := fun z => by rw [z, hD] at r; cases r
        exact .inl (by rw [upd_ne hb]; exact r)
      · have hb : b ≠ da := fun z => by rw [z, hD] at r; cases r
        exact .inr ⟨o, by rw [upd_ne hb]; exact r⟩
    · have hb : b ≠ da := fun z => by rw [z, hD] at q; cases q
      rw [upd_ne hb]; exact q
  refine ⟨R.len, R.nd, fun p hp => ?_, fun l o a h1 h2 => ?_⟩
  · obtain ⟨ps, t1, t2, t3⟩ := R.tabs p hp
    have hb : p.1 ≠ da := fun z => by rw [z, hD] at t1; cases t1
    refine ⟨ps, by rw [upd_ne hb]; exact t1, t2, fun pos cv hc => ?_⟩
    obtain ⟨c, c1, c2⟩ := t3 pos cv hc
    exact ⟨c, c1, nc c2⟩
  · have x := R.ob l o a h1 h2
    refine x.extW ew (upd_ne fun z => ?_)
    subst z
    cases o with
    | lst ds => obtain ⟨vs, q, _⟩ := x; rw [hD] at q; cases q
    | dct ds => obtain ⟨vs, q, _⟩ := x; rw [hD] at q; cases q
    | ins c fs => obtain ⟨dx, vs, q, _⟩ := x; rw [hD] at q; cases q
    | lam i => obtain ⟨I, pm, c, ct, _, q, _⟩ := x; rw [hD] at q; exact seTO_ne_lam (Option.some.inj q)
    | fdct ds => obtain ⟨o, vs, q, _⟩ := x; rw [hD] at q; cases q
theorem PostE.bindB {αb : List Addr} {Hb : Hp} {o : EO} {f : D → AH → EO} (p : PostE g W αb Hb σ Q (o.bind f)) (e : Ext αb Hb α H) :
    PostE g W α H σ (fun v H1 => ∃ α1 d h1, Ext α H α1 H1 ∧ Rep g α1 h1 H1 ∧ Den g α1 H1 d v ∧ PostE g W αb Hb σ Q (f d h1)) o := by
  cases o with
  | ok d h => exact fun α2 H2 v e2 r dd => ⟨α2, d, h, e2, r, dd, p⟩
  | exc c h => exact fun α2 H2 e2 r => p α2 H2 (e.trans e2) r
  | bad => exact p
end
/-! ### sorted -/
section
variable {P : Program} {w : World} {A : Around} {E : Value → Shared → Prop} {s : Shared} {a : Addr} {S : Key → Bool} {n : Nat}
theorem strs_each : ∀ (l : List Value), (∀ v ∈ l, ∃ x t, v = Value.str x t) → StrsAre l (l.map strOf) := strsAre_map
theorem sorted_texts {Q : Value → Shared → Prop} (R : SeT P w s.heap a S n) (hh : A.handled = none) (h64 : n < 64) (ht : ∀ k, S k = true → ∃ x, k = .inr x)
    (hQ : ∀ s1 p (out : Array Value) (c : Nat) (ys : List Str), (∀ b o, s.heap.get? b = some o → s1.heap.get? b = some o) → s1.gens = s.gens → s1.os = s.os → s.heap.objs.size ≤ p → s1.heap.get? p = some (seqObj "list" out c) → StrsAre out.toList ys →
      sortedS ys = true → ys.Nodup → (∀ x, x ∈ ys ↔ S (.inr x) = true) → ys.length = n → Q (.ref p) s1) : wpAny (model P w) A (call (.builtin "sorted") [.ref a]) Q E s := by
  obtain ⟨o, es, ep, t, ho, hex, hd, i, hn⟩ := R
  refine Calls.call_function_entry kind_sorted plain_sorted entry_sorted (args_sorted1 _) ?_
  unfold Builtin.«sorted»
  refine wpAny_bind (m := checkCount "sorted" 1 1 _) (wpAny_pure (wpAny_bind (collect_set (A := A.in1) hh ⟨o, ho, hex.1, hd⟩ i.fit i.few i.ris i.ord fun s1 vs k1 hz g1 o1 pm => ?_)))
  have lv : vs.length = n := by rw [pm.length_eq, List.length_map, Array.length_toList]; exact hn
  have hv : ∀ v ∈ vs, ∃ x u, v = Value.str x u := fun v m => by
    obtain ⟨e, he, q⟩ := List.mem_map.mp (pm.mem_iff.mp m)
    obtain ⟨⟨k, hk, _⟩, _⟩ := i.el e he
    obtain ⟨x, rfl⟩ := ht k (i.has he hk)
    obtain ⟨u, z⟩ := Value.isStrOf_shape (x := x) (v := e.2) hk
    exact ⟨x, u, by rw [← q, z]⟩
  have hS := strsAre_map vs hv
  have pk : (vs.map strOf).map Sum.inr = vs.map kyV := by
    rw [List.map_map]
    refine List.map_congr_left fun v m => ?_
    obtain ⟨x, u, rfl⟩ := hv v m
    rfl
  have pk2 : (vs.map kyV).Perm (kys es) := by
    have := pm.map kyV
    rw [List.map_map] at this
    exact this
  refine wpAny_bind (wpAny_newList ?_ (by rw [lv, sizeLine_eq]; omega))
  have oL : (s1.heap.push (seqObj "list" vs.toArray 0)).get? s1.heap.objs.size = some (seqObj "list" vs.toArray 0) := Heap.get?_push_size _ rfl
  refine wpAny_bind (wpAny_holding (wpAny_call_entry slot_list_sort ⟨_, oL, rfl⟩ entry_list_sort
    (list_sort_treeK strKind_oneLt oL hS.keysOf (fun v1 v2 rest e => keyKind_strs (by rw [← e]; exact hS)) (by rw [lv]; exact h64) fun st' hp hs => ⟨_, rfl, ?_⟩) (args_list_sort _)))
  obtain ⟨ys, g2, g3, g4⟩ := sorted_out_str hS hp hs
  obtain ⟨c, hc⟩ := sortedHeap_at (vs := vs) (out := (arrOf st').map (·.2)) oL
  have py : (ys.map Sum.inr).Perm (kys es) := by
    have := g3.map (Sum.inr : Str → Key)
    rw [pk] at this
    exact this.trans pk2
  refine wpAny_pure ⟨_, rfl, hQ _ s1.heap.objs.size ((arrOf st').map (·.2)) c ys (fun b u e => ?_) g1 o1 hz hc (by simpa using g2) g4 ?_ (fun x => ?_) ?_⟩
  · have q := k1 b u e
    have lt := Heap.lt_size q
    show (sortedHeap (s1.heap.push (seqObj "list" vs.toArray 0)) s1.heap.objs.size vs _).get? b = some u
    rw [sortedHeap_old (Nat.ne_of_lt lt) (by rw [size_push']; exact Nat.lt_succ_of_lt lt)]
    exact Heap.get?_push_of_some _ q
  · have := py.nodup_iff.mpr i.nd
    exact (List.pairwise_map.mp this).imp fun h e => h (congrArg _ e)
  · rw [i.mem, ← py.mem_iff]
    constructor
    · intro q; exact List.mem_map.mpr ⟨x, q, rfl⟩
    · intro q
      obtain ⟨y, hy, e⟩ := List.mem_map.mp q
      rw [← Sum.inr.inj e]; exact hy
  · have := py.length_eq
    rw [List.length_map] at this
    rw [this, ← hn]
    simp [kys]
/-- sorted(found), texts, fewer than 64 -/
def rSortSe (P : Program) (w : World) : List V → Hp → VK → Prop := fun vs H Q => ∃ (a : Addr) (S : Key → Bool) (n : Nat), vs = [V.ref a] ∧ H a = some (SeTO P w a S n) ∧ n < 64 ∧ (∀ k, S k = true → ∃ x, k = .inr x) ∧
  ∀ (ys : List Str) (p : Addr), sortedS ys = true → ys.Nodup → (∀ x, x ∈ ys ↔ S (.inr x) = true) → H p = none → Q (.ref p) (upd H p (.lst (ys.map V.str)))
theorem cr_sortSe {X : Cx} (hc : X.calm = true) : CallR X (.builtin "sorted") (rSortSe X.prog X.w) := by
  intro pins s σ H vs us Q I r h
  obtain ⟨a, S, n, rfl, ha, h64, ht, q⟩ := h
  rw [Vals.ref1 r]
  refine sorted_texts (seTO_at I ha) (I.ok.hd hc) h64 ht fun s1 p out c ys k g o hp hg hi hs hd hm hl => ?_
  have hn : H p = none := I.hok.fresh hp
  have J : Inv X pins σ (upd H p (.lst (ys.map V.str))) { s with heap := s1.heap, gens := s1.gens, drawn := s1.drawn, toks := s1.toks } :=
    I.call (ch := []) (Un.laid k hp hn) (I.hok.laid k hp ⟨by rw [List.length_map, hl, sizeLine_eq]; omega, out.toList, c, vals_of_strs hi, hg⟩) (by rw [g]; exact I.bare) (fun _ z => nomatch z)
  have e : s1 = { s with heap := s1.heap, gens := s1.gens, drawn := s1.drawn, toks := s1.toks } := by
    cases s1
    cases s
    cases o
    rfl
  rw [e]
  exact ⟨.ref p, _, J, rfl, q ys p hs hd hm hn⟩
end
end DD
end

section
set_option Elab.async false
set_option linter.all false
set_option maxRecDepth 100000
set_option maxHeartbeats 2000000
/-! sorted({y for target in iter if ..}), y texts: the mirror -/
namespace DD
open PySem L2
def addT (acc : List Str) (x : Str) : List Str := if x ∈ acc then acc else acc ++ [x]
def scLoop (live : AH → Bool) (f : TM) (mc : Option EM) (me : EM) (own : List Nat) (τ : SL) : List D → List Str → AH → EO
  | [], acc => fun h => if live h = true ∧ acc.length < 64 then newL ((sortT acc).map D.str) h else .bad
  | d :: ds, acc => fun h => if live h = true then match f d (wipeD τ own) h with
    | .nx τ1 h1 => (match mc with
      | none => EO.ok (.bl true) h1
      | some c => c τ1 h1).bind fun k h2 => match k with
        | .bl true => (me τ1 h2).bind fun y h3 => match y with
          | .str x => if acc.length < 64 then scLoop live f mc me own τ ds (addT acc x) h3 else .bad
          | _ => .bad
        | .bl false => scLoop live f mc me own τ ds acc h2
        | _ => .bad
    | _ => .bad else .bad
def scM (e : EM) (items : D → AH → Option (List D × (AH → Bool))) (f : TM) (mc : Option EM) (me : EM) (own : List Nat) : EM := fun τ h => (e τ h).bind fun d h1 => match items d h1 with
  | some (ds, live) => scLoop live f mc me own τ ds [] h1
  | none => .bad
def scQ (e : EM) (items : D → AH → Option (List D × (AH → Bool))) (f : TM) (mc : Option EM) (me : EM) (own : List Nat) : EM := fun τ h => noexc (scM e items f mc me own τ h)
def inAcc (acc : List Str) : Key → Bool
  | .inr x => decide (x ∈ acc)
  | .inl _ => false
theorem inAcc_add (acc : List Str) (x : Str) : inAcc (addT acc x) = fun j => inAcc acc j || decide (j = .inr x) := by
  funext j
  cases j with
  | inl i => rfl
  | inr y =>
    rw [key_rr]
    show decide (y ∈ addT acc x) = (decide (y ∈ acc) || decide (y = x))
    unfold addT
    by_cases h : x ∈ acc
    · rw [if_pos h]
      by_cases e : y = x
      · subst e; simp [h]
      · simp [e]
    · rw [if_neg h]
      by_cases e : y = x
      · subst e; simp
      · simp [e]
theorem addT_len (acc : List Str) (x : Str) : (addT acc x).length = if inAcc acc (.inr x) = true then acc.length else acc.length + 1 := by
  unfold addT inAcc
  by_cases h : x ∈ acc <;> simp [h]
theorem addT_nd {acc : List Str} (x : Str) (h : acc.Nodup) : (addT acc x).Nodup := by
  unfold addT
  split
  · exact h
  · rename_i q
    rw [List.nodup_append]
    refine ⟨h, by simp, fun a ha b hb => ?_⟩
    rw [List.mem_singleton] at hb
    subst hb
    exact fun e => q (e ▸ ha)
section
variable {X : Cx} {g : G} {W : WX} {a b c e o y : Expr} {ma mb mo me : EM} {mc : Option EM} {pos p p2 : Pos} {σ : L2.St} {H H' : Hp} {Q : VK} {α α' : List Addr} {τ : SL} {tg iter : Expr} {ifs : List Expr} {scope : Scope} {own : List (Str × Nat)} {wi : TI} {t : TG} {f : TM} {items : D → AH → Option (List D × (AH → Bool))} {h : AH} {P : Program} {w : World}
theorem tE_sc (io : IterOk g W0 wi ma items) (rg : ∀ W, RG g W t f) (gf : Goes f) (ot : OwnT t (own.map (·.2))) (q : tE g W (fun τ h => noexc (scM ma items f mc me (own.map (·.2)) τ h)) σ H Q) :
    tScK P w wi t (tTs g W0 mc) (tE g W0 me) (own.map (·.2)) σ H fun v H1 => rSortSe P w [v] H1 Q := by
  unfold tScK
  refine io σ H _ ?_
  obtain ⟨α, h, τ, R, s, q⟩ := q
  have q := PostE.noexc q
  refine ⟨α, h, τ, R, s, ?_⟩
  unfold scM at q
  cases e0 : ma τ h with
  | exc c h1 => rw [e0] at q; exact q
  | bad => rw [e0] at q; exact q
  | ok d h1 =>
    rw [e0] at q
    intro α1 H1 E1 R1 _
    have p1 := PostE.mono q E1
    simp only [EO.bind] at p1
    obtain ⟨⟨ds, live⟩, hit⟩ : ∃ dl, items d h1 = some dl := by
      cases hit : items d h1 with
      | none => rw [hit] at p1; exact p1.elim
      | some dl => exact ⟨dl, rfl⟩
    rw [hit] at p1
    refine ⟨ds, live, hit, fun J wk => ?_⟩
    obtain ⟨stop, go, yld⟩ := wk
    intro L hD
    refine ⟨fun i m H' => m = ds.length - i ∧ ∃ acc α' h', acc.Nodup ∧ H' L = some (SeTO P w L (inAcc acc) acc.length) ∧ Ext α1 H1 α' H' ∧ Rep g α' h' H' ∧ PostE g W0 α1 H1 σ Q (scLoop live f mc me (own.map (·.2)) τ (ds.drop i) acc h'), ⟨ds.length, by simp, [], α1, h1, .nil, ?_, Ext.refl.putNew hD, R1.new hD, p1⟩, ?_⟩
    · rw [upd_same, show inAcc [] = fun _ => false from funext fun j => by cases j <;> simp [inAcc]]
      rfl
    rintro i m H' ⟨rfl, acc, α', h', nd, hL, EE, R', p'⟩
    by_cases hi : i < ds.length
    · have hd : ds.drop i = ds[i] :: ds.drop (i + 1) := by rw [List.drop_eq_getElem_cons hi]
      have hg : ds[i]? = some ds[i] := List.getElem?_eq_getElem hi
      rw [hd] at p'
      simp only [scLoop] at p'
      split at p'
      · rename_i hl
        refine .inr ⟨go α' H' h' EE R' hl i _ hg, fun H3 => ∃ acc α' h', acc.Nodup ∧ H3 L = some (SeTO P w L (inAcc acc) acc.length) ∧ Ext α1 H1 α' H3 ∧ Rep g α' h' H3 ∧ PostE g W0 α1 H1 σ Q (scLoop live f mc me (own.map (·.2)) τ (ds.drop (i + 1)) acc h'), fun H3 w => ⟨ds.length - (i + 1), by omega, rfl, w⟩, fun x H3 hy => ?_⟩
        obtain ⟨E3, R3, D3⟩ := yld α' H' h' x H3 EE R' hl i _ hg hy
        have s3 : DenS g α' H3 (wipeD τ (own.map (·.2))) (wipe σ (own.map (·.2))) := wipe_wipeD (((s.ext E1).ext EE).ext E3) _
        split at p'
        · rename_i τ4 h4 e4
          refine ot x _ H3 _ (rg W0 α' h' H3 _ _ x _ _ R3 s3 D3 ?_)
          rw [e4]
          intro α4 H4 σ4 E4 R4 s4 hw
          rw [wipe_wipe] at hw
          have E14 := (EE.trans E3).trans E4
          have hL4 := E4.ext L _ (E3.ext L _ hL)
          refine ⟨hw, ?_⟩
          have fin : ∀ (k : Bool) (α5 : List Addr) (h5 : AH) (H5 : Hp), Ext α4 H4 α5 H5 → Rep g α5 h5 H5 → PostE g W0 α1 H1 σ Q (match D.bl k with
              | .bl true => (me τ4 h5).bind fun y h3 => match y with
                | .str x => if acc.length < 64 then scLoop live f mc me (own.map (·.2)) τ (ds.drop (i + 1)) (addT acc x) h3 else .bad
                | _ => .bad
              | .bl false => scLoop live f mc me (own.map (·.2)) τ (ds.drop (i + 1)) acc h5
              | _ => .bad) → (if k = true then tE g W0 me σ4 H5 fun y H4 => ∃ (k : Key) (S : Key → Bool) (n : Nat), y = kV k ∧ H4 L = some (SeTO P w L S n) ∧ n + 1 < scanBound ∧ ∃ acc α' h', acc.Nodup ∧ (upd H4 L (SeTO P w L (fun j => S j || decide (j = k)) (if S k = true then n else n + 1))) L = some (SeTO P w L (inAcc acc) acc.length) ∧
                  Ext α1 H1 α' (upd H4 L (SeTO P w L (fun j => S j || decide (j = k)) (if S k = true then n else n + 1))) ∧ Rep g α' h' (upd H4 L (SeTO P w L (fun j => S j || decide (j = k)) (if S k = true then n else n + 1))) ∧ PostE g W0 α1 H1 σ Q (scLoop live f mc me (own.map (·.2)) τ (ds.drop (i + 1)) acc h')
              else ∃ acc α' h', acc.Nodup ∧ H5 L = some (SeTO P w L (inAcc acc) acc.length) ∧ Ext α1 H1 α' H5 ∧ Rep g α' h' H5 ∧ PostE g W0 α1 H1 σ Q (scLoop live f mc me (own.map (·.2)) τ (ds.drop (i + 1)) acc h')) := by
            intro k α5 h5 H5 E5 R5 p5
            cases k with
            | false => exact iteF ⟨acc, α5, h5, nd, E5.ext L _ hL4, E14.trans E5, R5, p5⟩
            | true =>
              refine iteT ⟨α5, h5, τ4, R5, s4.ext E5, PostE.imp (PostE.bindB p5 (E14.trans E5)) ?_⟩
              rintro y H6 ⟨α6, dy, h6, E6, R6, D6, p6⟩
              cases D6 <;> try exact False.elim p6
              rename_i x
              simp only at p6
              split at p6
              · rename_i hz
                have hL6 := E6.ext L _ (E5.ext L _ hL4)
                refine ⟨.inr x, inAcc acc, acc.length, rfl, hL6, by rw [show scanBound = scanBound from rfl]; exact Nat.lt_of_le_of_lt (by omega : acc.length + 1 ≤ 64) (by decide), addT acc x, α6, h6, addT_nd x nd, ?_, ((E14.trans E5).trans E6).putNew hD, R6.putSet hL6, p6⟩
                rw [upd_same, inAcc_add, addT_len]
              · exact p6.elim
          cases mc with
          | none => exact fin true α4 h4 H4 .refl R4 p'
          | some c =>
            show tT g W0 c σ4 H4 _
            refine ⟨α4, h4, τ4, R4, s4, PostE.imp (PostE.bindB p' E14) ?_⟩
            rintro z H5 ⟨α5, dz, h5, E5, R5, D5, p5⟩
            cases D5 <;> try exact False.elim p5
            rename_i k
            exact ⟨k, rfl, fin k α5 h5 H5 E5 R5 p5⟩
        · exact p'.elim
      · exact p'.elim
    · have hd : ds.drop i = [] := List.drop_eq_nil_of_le (by omega)
      rw [hd] at p'
      simp only [scLoop] at p'
      split at p'
      · rename_i hl
        refine .inl ⟨stop α' H' h' EE R' hl.1 i (by omega), L, inAcc acc, acc.length, rfl, hL, hl.2, fun k hk => ?_, fun ys z st ny hm hz => ?_⟩
        · cases k with
          | inl i => cases hk
          | inr x => exact ⟨x, rfl⟩
        · have pm : ys.Perm acc := (List.perm_ext_iff_of_nodup ny nd).mpr fun x => by rw [hm x]; simp [inAcc]
          rw [sortT_eq pm st]
          exact newL_post R' (fun _ _ => den_strs _) (PostE.mono p' EE) hz
      · exact p'.elim
end
end DD
namespace DD
open PySem L2
section
variable {X : Cx} {g : G} {W : WX} {y : Expr} {ma me : EM} {mc : Option EM} {pos p p2 : Pos} {tg iter : Expr} {ifs : List Expr} {scope : Scope} {own : List (Str × Nat)} {wi : TI} {t : TG} {f : TM} {items : D → AH → Option (List D × (AH → Bool))}
theorem de_sortSc (hc : X.calm = true) (hN : X.N.Nodup) (hi : PI X tg iter wi) (io : IterOk g W0 wi ma items) (ok : BlkOk X.N X.env.scope scope own) (rg : ∀ W, RG g W t f) (gf : Goes f) (ot : OwnT t (own.map (·.2)))
    (hg : ∀ (s : Shared) (H : Hp) (C : Addr) (cl : List (Str × Addr)) (fp : List Addr), PG (X.blk s H scope (compEnvC scope cl C X.env) fp) tg t) (ht : ∀ (s : Shared) (H : Hp) (C : Addr) (cl : List (Str × Addr)) (fp : List Addr), PTs (X.blk s H scope (compEnvC scope cl C X.env) fp) ifs (tTs g W0 mc))
    (hy : ∀ (s : Shared) (H : Hp) (C : Addr) (cl : List (Str × Addr)) (fp : List Addr), PE (X.blk s H scope (compEnvC scope cl C X.env) fp) y (tE g W0 me)) (hgl : Gl X "sorted") (hm : X.mg "sorted" = none) (hv : bootBuiltins "sorted" = some (.builtin "sorted"))
    (hs : ∀ x, foldedSetIterable iter X.env x = pure x := by intro _; rfl) (he : starEach [Expr.SetComp y [⟨tg, iter, ifs, 0⟩] scope p2] X.env = (false, eval (.SetComp y [⟨tg, iter, ifs, 0⟩] scope p2) X.env) :: starEach [] X.env := by rfl) (hpl : (backTo pos (starEach [] X.env)).any (·.1) = false := by rfl) :
    PE X (.Call (.Name "sorted" p) [.SetComp y [⟨tg, iter, ifs, 0⟩] scope p2] [] pos) (tE g W (scQ ma items f mc me (own.map (·.2)))) :=
  PE.imp (pe_callB (cr_sortSe hc) hgl hm hv (pa_cons (setComp_run hc hN hi ok hg ht hy hs) pa_nil he) (by decide) (by decide) he hpl) fun _ _ _ q => tE_sc io rg gf ot q
end
end DD
end

section
set_option Elab.async false
set_option linter.all false
set_option maxRecDepth 100000
set_option maxHeartbeats 2000000
/-! a dict locked while it is walked; its keys -/
namespace DD
open PySem L2
section
variable {X : Cx} {g : G} {W : WX} {a p : Addr} {e : Expr} {m ma : EM} {pos : Pos} {σ : L2.St} {H H' : Hp} {Q : VK} {α α' : List Addr} {h h' : AH} {l : Nat} {u u' : HO} {o od : Obj} {kvs ks : List (Key × D)} {ws : List (Key × V)}
/-- what may be locked, and what is locked -/
def LkS : HO → Prop
  | .dK _ => True
  | .frz _ (.dK _) => True
  | _ => False
theorem LkS.tup {b : Addr} {xs : List V} (m : LkS u) (ha : H a = some u) (r : Rd H b (.tup xs)) : b ≠ a := fun z => by
  subst z
  rcases r with r | ⟨ob, r⟩ <;> rw [ha] at r <;> cases r <;> exact m
theorem tabs_lk {T : List (Addr × Str)} (t : LamX.Tabs T H) (ha : H a = some u) (m : LkS u) : LamX.Tabs T (upd H a u') := fun q hq => by
  obtain ⟨ps, h1, h2, h3⟩ := t q hq
  have n1 : q.1 ≠ a := fun z => by rw [z, ha] at h1; cases h1; exact m
  refine ⟨ps, by rw [upd_ne n1]; exact h1, h2, fun pos cv hc => ?_⟩
  obtain ⟨c, e1, e2⟩ := h3 pos cv hc
  refine ⟨c, e1, ?_⟩
  have n2 : c ≠ a := fun z => by
    rw [z, ha] at e2
    have e3 := Option.some.inj e2
    unfold LamX.CodeO at e3
    rw [e3] at m
    exact m
  rw [upd_ne n2]
  exact e2
theorem ExtW.lk (ha : H a = some u) (m : LkS u) : ExtW α H α (upd H a u') := by
  refine ⟨fun _ _ h => h, fun b xs r => ?_, fun b o xs e => ?_, fun c q e => ?_⟩
  · have n := m.tup ha r
    rcases r with r | ⟨ob, r⟩
    · exact .inl (by rw [upd_ne n]; exact r)
    · exact .inr ⟨ob, by rw [upd_ne n]; exact r⟩
  · rw [upd_ne (fun z => by rw [z, ha] at e; cases e; exact m)]; exact e
  · have n2 : c ≠ a := fun z => by
      rw [z, ha] at e
      have e3 := Option.some.inj e
      unfold LamX.CodeO at e3
      rw [e3] at m
      exact m
    rw [upd_ne n2]
    exact e
theorem Ext.lock (ha : H a = some (.dK ws)) : Ext α H α (upd H a u') := by
  refine ⟨fun _ _ h => h, (ExtW.lk (α := α) (u' := u') ha True.intro).tup, fun b o xs e => ?_, fun c q e => ?_⟩
  · rw [upd_ne (fun z => by rw [z, ha] at e; cases e)]; exact e
  · rw [upd_ne (fun z => by rw [z, ha] at e; cases e)]; exact e
theorem Rep.lkW {ob : O} (r : Rep g α h H) (hl : α[l]? = some a) (ha : H a = some u) (m : LkS u) (x : RepO g α (upd H a u') a ob) : Rep g α (h.set l ob) (upd H a u') := by
  have e : ExtW α H α (upd H a u') := ExtW.lk ha m
  refine ⟨by simp [r.len], r.nd, tabs_lk r.tabs ha m, fun j o' b h1 h2 => ?_⟩
  by_cases hj : l = j
  · subst hj
    rw [hl] at h2
    cases h2
    have hlt : l < h.length := by rw [← r.len]; exact (List.getElem?_eq_some_iff.mp hl).1
    rw [List.getElem?_set_self hlt] at h1
    cases h1
    exact x
  · rw [List.getElem?_set_ne hj] at h1
    have y := r.ob j o' b h1 h2
    refine y.extW e (upd_ne fun q => hj ?_)
    subst q
    exact (r.inj h2 hl).symm
/-- locked at a: the heap within; and the way back -/
theorem Rep.lock (R : Rep g α h H) (hl : α[l]? = some a) (e : h[l]? = some (.dct kvs)) : ∃ ws, H a = some (.dK ws) ∧ ∀ od, Rep g α (h.set l (.fdct kvs)) (upd H a (.frz od (.dK ws))) ∧ Ext α H α (upd H a (.frz od (.dK ws))) := by
  obtain ⟨ws, a1, a2, a3⟩ := R.ob _ _ _ e hl
  refine ⟨ws, a1, fun od => ⟨R.lkW hl a1 True.intro ⟨od, ws, upd_same, a2, DenL.extW (ExtW.lk a1 True.intro) _ _ a3⟩, Ext.lock a1⟩⟩
theorem Rep.unlock (R : Rep g α h H) (hl : α[l]? = some a) (e : h[l]? = some (.fdct ks)) (ha : H a = some (.frz od (.dK ws))) : Rep g α (h.set l (.dct ks)) (upd H a (.dK ws)) := by
  obtain ⟨o, ws', a1, a2, a3⟩ := R.ob _ _ _ e hl
  rw [ha] at a1
  cases a1
  exact R.lkW hl ha True.intro ⟨ws, upd_same, a2, DenL.extW (ExtW.lk ha True.intro) _ _ a3⟩
theorem Ext.unlock (E : Ext α (upd H a (.frz od (.dK ws))) α' H') (ha : H a = some (.dK ws)) : Ext α H α' (upd H' a (.dK ws)) := by
  have e0 : Ext α H α (upd H a (.frz od (.dK ws))) := Ext.lock ha
  have e1 := e0.trans E
  have hf : H' a = some (.frz od (.dK ws)) := E.frl _ _ _ upd_same
  refine ⟨e1.pre, fun b xs r => ?_, fun b o x q => ?_, fun c q r => ?_⟩
  · have r' := e1.tup b xs r
    have n : b ≠ a := LkS.tup (u := .frz od (.dK ws)) True.intro hf r'
    rcases r' with r' | ⟨ob, r'⟩
    · exact .inl (by rw [upd_ne n]; exact r')
    · exact .inr ⟨ob, by rw [upd_ne n]; exact r'⟩
  · rw [upd_ne (fun z => by rw [z, ha] at q; cases q)]; exact e1.frl b o x q
  · rw [upd_ne (fun z => by rw [z, ha] at r; cases r)]; exact e1.ext c q r
/-- e with a dict locked -/
def lockM (pk : SL → AH → Option Nat) (m : EM) : EM := fun τ h => match pk τ h with
  | some l => (match h[l]? with
    | some (.dct kvs) => (match m τ (h.set l (.fdct kvs)) with
      | .ok d h' => (match h'[l]? with
        | some (.fdct ks) => .ok d (h'.set l (.dct ks))
        | _ => .bad)
      | .exc c h' => .exc c h'
      | .bad => .bad)
    | _ => m τ h)
  | none => m τ h
theorem de_lock {pk : SL → AH → Option Nat} (he : PE X e (tE g W m)) : PE X e (tE g W (lockM pk m)) := by
  refine ⟨fun pins s σ H Q I q => ?_⟩
  obtain ⟨α, h, τ, R, s0, p⟩ := q
  unfold lockM at p
  split at p
  · rename_i l _
    split at p
    · rename_i kvs el
      obtain ⟨a, hl, _⟩ := R.addr el
      obtain ⟨ws, ha, k⟩ := R.lock hl el
      refine (pe_lock he).run pins s σ H Q I ⟨a, .dK ws, ha, True.intro, fun od => ?_⟩
      obtain ⟨R1, E1⟩ := k od
      refine ⟨α, _, τ, R1, s0.ext E1, ?_⟩
      cases em : m τ (h.set l (.fdct kvs)) with
      | ok d h' =>
        rw [em] at p
        simp only at p
        intro α' H' v E' R' D'
        refine ⟨E'.frl _ _ _ upd_same, ?_⟩
        split at p
        · rename_i ks ek
          have hf : H' a = some (.frz od (.dK ws)) := E'.frl _ _ _ upd_same
          have hl' := E'.pre _ _ hl
          exact p α' _ v (E'.unlock ha) (R'.unlock hl' ek hf) (Den.extW (ExtW.lk hf True.intro) _ _ D')
        · exact p.elim
      | exc c h' =>
        rw [em] at p
        simp only at p
        intro α' H' E' R'
        exact p α' H' (E1.trans E') R'
      | bad => rw [em] at p; exact p.elim
    · exact he.run pins s σ H Q I ⟨α, h, τ, R, s0, p⟩
  · exact he.run pins s σ H Q I ⟨α, h, τ, R, s0, p⟩
/-- the object that an expression names -/
def refOf (ma : EM) : SL → AH → Option Nat := fun τ h => match ma τ h with
  | .ok (.ref l) _ => some l
  | _ => none
/-- a statement with a dict locked -/
def unlS (l : Nat) : SO → SO
  | .nx τ h => (match h[l]? with
    | some (.fdct ks) => .nx τ (h.set l (.dct ks))
    | _ => .bad)
  | .rt d h => (match h[l]? with
    | some (.fdct ks) => .rt d (h.set l (.dct ks))
    | _ => .bad)
  | .bk τ h => (match h[l]? with
    | some (.fdct ks) => .bk τ (h.set l (.dct ks))
    | _ => .bad)
  | .ct τ h => (match h[l]? with
    | some (.fdct ks) => .ct τ (h.set l (.dct ks))
    | _ => .bad)
  | .exc c τ h => .exc c τ h
  | .bad => .bad
def lockS (pk : SL → AH → Option Nat) (m : SM) : SM := fun τ h => match pk τ h with
  | some l => (match h[l]? with
    | some (.dct kvs) => unlS l (m τ (h.set l (.fdct kvs)))
    | _ => m τ h)
  | none => m τ h
/-! ### the keys of a locked dict -/
def fkIt (d : D) (h : AH) : Option (List D × (AH → Bool)) := match d with
  | .ref l => (match h[l]? with
    | some (.fdct kvs) => some (kvs.map fun kv => kD kv.1, fun _ => true)
    | _ => none)
  | _ => none
theorem DenK.get : ∀ {kvs : List (Key × D)} {ws : List (Key × V)} {i : Nat}, DenK g α H kvs ws → ∀ k v, ws[i]? = some (k, v) → (kvs.map fun kv => kD kv.1)[i]? = some (kD k)
  | [], _, i, h, k, v, e => by cases h; simp at e
  | (j, d) :: kvs, _, 0, h, k, v, e => by
    cases h with
    | cons h1 h2 => simp at e; obtain ⟨rfl, _⟩ := e; rfl
  | (j, d) :: kvs, _, i + 1, h, k, v, e => by
    cases h with
    | cons h1 h2 => simpa using DenK.get (i := i) h2 k v (by simpa using e)
theorem it_keys : IterOk g W (iKeys (tE g W ma)) ma fkIt := by
  rintro σ H R ⟨α, h, τ, R1, s, p⟩
  refine ⟨α, h, τ, R1, s, PostE.imp (PostI.toE p) ?_⟩
  rintro v H1 ⟨α1, d, h1, E1, R2, D1, ds, live, hit, k⟩
  cases D1 <;> simp only [fkIt, reduceCtorEq] at hit
  rename_i l a hl
  split at hit
  · rename_i kvs hx
    cases hit
    obtain ⟨o, ws, a1, a2⟩ := R2.fdct hl hx
    refine ⟨a, o, rfl, .inl ⟨ws, a1, k _ ⟨fun α' H' h' E r lv i hi => ?_, fun α' H' h' E r lv i d hd => ?_, fun α' H' h' x H2 E r lv i d hd hy => ?_⟩⟩⟩
    · exact ⟨E.frl _ _ _ a1, by rw [a2.len]; simpa using hi⟩
    · refine ⟨E.frl _ _ _ a1, ?_⟩
      have := (List.getElem?_eq_some_iff.mp hd).1
      rw [a2.len]; simpa using this
    · obtain ⟨rfl, k', v', hk, rfl⟩ := hy
      have := a2.get k' v' hk
      rw [hd] at this
      cases this
      exact ⟨.refl, r, den_kD _⟩
  · cases hit
end
end DD
end

section
set_option Elab.async false
set_option linter.all false
set_option maxRecDepth 100000
set_option maxHeartbeats 2000000
/-! x in any, count, max and min of a list, xs[::-1], s.index(x), told with two clauses -/
namespace DD
open PySem L2
section
variable {X : Cx} {g : G} {W : WX} {a b c e o : Expr} {es : List Expr} {ma mb mc mo me : EM} {m : LM} {pos p apos cpos : Pos} {σ : L2.St} {H H' : Hp} {Q : VK} {α α' : List Addr} {h : AH} {τ : SL}
theorem PE.or {t1 t2 : TE} (h1 : PE X e t1) (h2 : PE X e t2) : PE X e (fun σ H Q => t1 σ H Q ∨ t2 σ H Q) :=
  ⟨fun pins s σ H Q I q => q.elim (fun q => h1.run pins s σ H Q I q) fun q => h2.run pins s σ H Q I q⟩
theorem PT.or {t1 t2 : TT} (h1 : PT X e t1) (h2 : PT X e t2) : PT X e (fun σ H Q => t1 σ H Q ∨ t2 σ H Q) :=
  ⟨fun pins s σ H Q I q => q.elim (fun q => h1.run pins s σ H Q I q) fun q => h2.run pins s σ H Q I q⟩
theorem bin_or {f f1 f2 : D → D → AH → EO} (hf : ∀ x y h, f x y h = f1 x y h ∨ f x y h = f2 x y h) (p : tE g W (binM ma mb f) σ H Q) : tE g W (binM ma mb f1) σ H Q ∨ tE g W (binM ma mb f2) σ H Q := by
  obtain ⟨α, h, τ, R, s, p⟩ := p
  cases e1 : ma τ h with
  | ok x h1 =>
    cases e2 : mb τ h1 with
    | ok y h2 =>
      have pe : PostE g W α H σ Q (f x y h2) := by
        have q := p
        unfold binM at q
        rw [e1] at q
        simp only [EO.bind, e2] at q
        exact q
      rcases hf x y h2 with z | z
      · refine .inl ⟨α, h, τ, R, s, ?_⟩
        unfold binM
        rw [e1]
        simp only [EO.bind, e2]
        rw [← z]; exact pe
      · refine .inr ⟨α, h, τ, R, s, ?_⟩
        unfold binM
        rw [e1]
        simp only [EO.bind, e2]
        rw [← z]; exact pe
    | exc c h2 =>
      refine .inl ⟨α, h, τ, R, s, ?_⟩
      unfold binM at p ⊢
      rw [e1] at p ⊢
      simp only [EO.bind, e2] at p ⊢
      exact p
    | bad =>
      unfold binM at p
      rw [e1] at p
      simp only [EO.bind, e2] at p
      exact p.elim
  | exc c h2 =>
    refine .inl ⟨α, h, τ, R, s, ?_⟩
    unfold binM at p ⊢
    rw [e1] at p ⊢
    exact p
  | bad =>
    unfold binM at p
    rw [e1] at p
    exact p.elim
/-- x in y, y a dict, a list or a tuple -/
def inAM (x y : D) (h : AH) : EO := match y with
  | .ref l => (match isDO h[l]? with
    | true => dinM x y h
    | false => inM x y h)
  | _ => inM x y h
def ninAM (x y : D) (h : AH) : EO := match y with
  | .ref l => (match isDO h[l]? with
    | true => dninM x y h
    | false => ninM x y h)
  | _ => ninM x y h
theorem inAM_or (x y : D) (h : AH) : inAM x y h = dinM x y h ∨ inAM x y h = inM x y h := by
  unfold inAM
  split
  · split
    · exact .inl rfl
    · exact .inr rfl
  · exact .inr rfl
theorem ninAM_or (x y : D) (h : AH) : ninAM x y h = dninM x y h ∨ ninAM x y h = ninM x y h := by
  unfold ninAM
  split
  · split
    · exact .inl rfl
    · exact .inr rfl
  · exact .inr rfl
theorem de_inA (hu : X.A.units + 1 < cLine) (hK : g.K = X.K) (hi : PE X e (tE g W me)) (ho : PE X o (tE g W mo)) (hm : behindInMarks .In o = false) : PE X (.Compare e [.In] [o] pos) (tE g W (binM me mo inAM)) :=
  PE.imp (PE.or (de_din hu hi ho hm) (de_in hK hi ho hm)) fun _ _ _ p => bin_or inAM_or p
theorem de_ninA (hu : X.A.units + 1 < cLine) (hK : g.K = X.K) (hi : PE X e (tE g W me)) (ho : PE X o (tE g W mo)) (hm : behindInMarks .NotIn o = false) : PE X (.Compare e [.NotIn] [o] pos) (tE g W (binM me mo ninAM)) :=
  PE.imp (PE.or (de_dnin hu hi ho hm) (de_nin hK hi ho hm)) fun _ _ _ p => bin_or ninAM_or p
theorem dt_inA (hu : X.A.units + 1 < cLine) (hK : g.K = X.K) (hi : PE X e (tE g W me)) (ho : PE X o (tE g W mo)) (hm : behindInMarks .In o = false) : PT X (.Compare e [.In] [o] pos) (tT g W (binM me mo inAM)) :=
  PT.imp (PT.or (dt_din hu hi ho hm) (dt_in hK hi ho hm)) fun _ _ _ p => bin_or inAM_or p
theorem dt_ninA (hu : X.A.units + 1 < cLine) (hK : g.K = X.K) (hi : PE X e (tE g W me)) (ho : PE X o (tE g W mo)) (hm : behindInMarks .NotIn o = false) : PT X (.Compare e [.NotIn] [o] pos) (tT g W (binM me mo ninAM)) :=
  PT.imp (PT.or (dt_dnin hu hi ho hm) (dt_nin hK hi ho hm)) fun _ _ _ p => bin_or ninAM_or p
/-! ### count, of a list or a tuple -/
theorem count_eq {y : V} : ∀ {ys : List V} {its : List Value}, Vals ys its → ys.all flatV = true → its.countP (eqU y) = ys.countP fun z => eqV z y
  | [], _, h, _ => by cases h; rfl
  | z :: ys, _, h, f => by
    cases h with
    | cons r t =>
      rw [List.all_cons, Bool.and_eq_true] at f
      rw [List.countP_cons, List.countP_cons, count_eq t f.2, eqU_of r f.1]
def rCountL (K : PySem.W.Frag) : V → List V → Hp → VK → Prop := fun x xs H Q => ∃ (a : Addr) (ys : List V) (y : V), x = V.ref a ∧ xs = [y] ∧ SqL K H a ys ∧ flatV y = true ∧ ys.all flatV = true ∧ Q (.int ((ys.countP fun z => eqV z y : Nat) : Int)) H
theorem mt_countL : MtR X "list.count" (rCountL X.K) := by
  intro pins s σ H x xs v us Q I rx rxs h
  obtain ⟨a, ys, y, rfl, rfl, hs, fy, fys, q⟩ := h
  cases rx
  cases rxs with
  | cons ry rt =>
    rename_i uy ut
    cases rt
    obtain ⟨its, rv, ⟨⟨cls, dd, data, sl⟩, n, ho, hc, hdn, hd⟩, hlen⟩ := I.list hs
    simp only at hc hd
    subst hc hd
    refine call_meets PySem.F.slot_list_count ⟨_, ho, rfl⟩ PySem.F.entry_list_count (PySem.F.args_list_count_2 _ _) (SeqAt.list_countAt a its.toArray n dd sl uy (eqU y)) ⟨ho, fun u' hu' => mem_eqAt ry fy rv fys u' (by simpa using hu'), ?_⟩
    exact ⟨.int _, H, I.tok _, ⟨s.toks, by rw [show its.toArray.toList = its from rfl, count_eq rv fys]⟩, q⟩
/-- how many items are as x -/
def countI (xs : List D) (x : D) (h : AH) : EO := if flD x = true ∧ xs.all flD = true then .ok (.int ((xs.countP fun z => eqD z x : Nat) : Int)) h else .bad
def countLF (d : D) (ds : List D) (h : AH) : EO := match d, ds with
  | .ref l, [x] => (match h[l]? with
    | some (.lst xs) => countI xs x h
    | _ => .bad)
  | _, _ => .bad
theorem countV_eq {x : D} {u : V} (hx : Den g α H x u) (qx : flD x = true) : ∀ {ds : List D} {vs : List V}, DenL g α H ds vs → ds.all flD = true → (vs.countP fun z => eqV z u) = ds.countP fun z => eqD z x
  | [], _, h, _ => by cases h; rfl
  | d :: ds, _, h, q => by
    cases h with
    | cons h1 h2 =>
      simp only [List.all_cons, Bool.and_eq_true] at q
      rw [List.countP_cons, List.countP_cons, countV_eq hx qx h2 q.2, eqV_eqD h1 hx q.1 qx]
theorem rs_countL : RSm g W (rCountL g.K) countLF := by
  intro α h H σ x dx vs ds Q R hx hd p
  cases hd with
  | nil => cases hx <;> exact False.elim p
  | cons h1 h2 =>
    cases h2 with
    | cons _ _ => cases hx <;> exact False.elim p
    | nil =>
      cases hx <;> try exact False.elim p
      rename_i l a hl
      simp only [countLF] at p
      split at p
      · rename_i xs hx
        unfold countI at p
        split at p
        · rename_i hc
          obtain ⟨ys, b1, d⟩ := R.ob _ _ _ hx hl
          exact ⟨a, ys, _, rfl, rfl, SqL.of b1, flD_flatV h1 hc.1, flDs_flatV d hc.2, by rw [countV_eq h1 hc.1 d hc.2]; exact p α H _ .refl R (.int _)⟩
        · exact p.elim
      · exact p.elim
theorem d_countL (hK : g.K = X.K) (ho : PE X o (tE g W mo)) (ha : PA X [e] (tL g W m))
    (hbase : attributeBase o "count" X.env (eval o X.env) = eval o X.env := by rfl)
    (hfew : ((backTo cpos (starEach [e] X.env)).all (fun x => !x.1) && (backToKw cpos (keywordEach [] X.env)).all (fun x => x.1.isSome)
      && decide (([e] : List Expr).length + ([] : List Keyword).length + (if ([] : List Keyword).isEmpty then 0 else 1) < 30)) = true := by rfl)
    (hline : (apos.endLine == cpos.line) = true := by rfl) (hs : starEach [e] X.env = (false, eval e X.env) :: starEach [] X.env := by rfl) (hplain : (backTo cpos (starEach [] X.env)).any (·.1) = false := by rfl) :
    PE X (.Call (.Attribute o "count" apos) [e] [] cpos) (tE g W (bmM mo m countLF)) :=
  de_bm PySem.F.plainAttrs_list PySem.F.slot_list_count PySem.F.type_list_count mt_countL (by rw [← hK]; exact rs_countL) ho ha hbase hfew hline hs hplain
/-! ### max, min of a list or of two -/
def maxI : List Int → Int
  | [] => 0
  | x :: r => r.foldl max x
def minI : List Int → Int
  | [] => 0
  | x :: r => r.foldl min x
theorem foldl_max_mem : ∀ (r : List Int) (x : Int), (r.foldl max x = x ∨ r.foldl max x ∈ r) ∧ x ≤ r.foldl max x ∧ ∀ y ∈ r, y ≤ r.foldl max x
  | [], x => ⟨.inl rfl, Int.le_refl _, fun y hy => by cases hy⟩
  | z :: r, x => by
    obtain ⟨h1, h2, h3⟩ := foldl_max_mem r (max x z)
    simp only [List.foldl_cons]
    refine ⟨?_, by omega, fun y hy => ?_⟩
    · rcases h1 with h1 | h1
      · rcases Int.le_total x z with q | q
        · exact .inr (by rw [h1, Int.max_eq_right q]; exact List.mem_cons_self)
        · exact .inl (by rw [h1, Int.max_eq_left q])
      · exact .inr (List.mem_cons_of_mem _ h1)
    · rcases List.mem_cons.mp hy with q | q
      · subst q; omega
      · exact h3 y q
theorem foldl_min_mem : ∀ (r : List Int) (x : Int), (r.foldl min x = x ∨ r.foldl min x ∈ r) ∧ r.foldl min x ≤ x ∧ ∀ y ∈ r, r.foldl min x ≤ y
  | [], x => ⟨.inl rfl, Int.le_refl _, fun y hy => by cases hy⟩
  | z :: r, x => by
    obtain ⟨h1, h2, h3⟩ := foldl_min_mem r (min x z)
    simp only [List.foldl_cons]
    refine ⟨?_, by omega, fun y hy => ?_⟩
    · rcases h1 with h1 | h1
      · rcases Int.le_total x z with q | q
        · exact .inl (by rw [h1, Int.min_eq_left q])
        · exact .inr (by rw [h1, Int.min_eq_right q]; exact List.mem_cons_self)
      · exact .inr (List.mem_cons_of_mem _ h1)
    · rcases List.mem_cons.mp hy with q | q
      · subst q; omega
      · exact h3 y q
theorem maxI_is {ns : List Int} (h : ns ≠ []) : maxI ns ∈ ns ∧ ∀ y ∈ ns, y ≤ maxI ns := by
  cases ns with
  | nil => exact absurd rfl h
  | cons x r =>
    obtain ⟨h1, h2, h3⟩ := foldl_max_mem r x
    refine ⟨?_, fun y hy => ?_⟩
    · rcases h1 with h1 | h1
      · show r.foldl max x ∈ _; rw [h1]; exact List.mem_cons_self
      · exact List.mem_cons_of_mem _ h1
    · rcases List.mem_cons.mp hy with q | q
      · subst q; exact h2
      · exact h3 y q
theorem minI_is {ns : List Int} (h : ns ≠ []) : minI ns ∈ ns ∧ ∀ y ∈ ns, minI ns ≤ y := by
  cases ns with
  | nil => exact absurd rfl h
  | cons x r =>
    obtain ⟨h1, h2, h3⟩ := foldl_min_mem r x
    refine ⟨?_, fun y hy => ?_⟩
    · rcases h1 with h1 | h1
      · show r.foldl min x ∈ _; rw [h1]; exact List.mem_cons_self
      · exact List.mem_cons_of_mem _ h1
    · rcases List.mem_cons.mp hy with q | q
      · subst q; exact h2
      · exact h3 y q
def exI (f : List Int → Int) (h : AH) (l : Nat) : EO := match h[l]? with
  | some (.lst xs) => (match intsOf xs with
    | some ns => if ns = [] then .bad else .ok (.int (f ns)) h
    | none => .bad)
  | _ => .bad
def maxLF : List D → AH → EO
  | [.ref l], h => exI maxI h l
  | ds, h => maxF ds h
def minLF : List D → AH → EO
  | [.ref l], h => exI minI h l
  | ds, h => minF ds h
def rMaxA (K : PySem.W.Frag) : List V → Hp → VK → Prop := fun vs H Q => rMax K vs H Q ∨ ∃ i j, vs = [.int i, .int j] ∧ Q (.int (if j > i then j else i)) H
def rMinA (K : PySem.W.Frag) : List V → Hp → VK → Prop := fun vs H Q => rMin K vs H Q ∨ ∃ i j, vs = [.int i, .int j] ∧ Q (.int (if j < i then j else i)) H
theorem call_maxA (hc : X.calm = true) : CallR X (.builtin "max") (rMaxA X.K) := CallR.or (cr_max hc) (call_max2 hc)
theorem call_minA (hc : X.calm = true) : CallR X (.builtin "min") (rMinA X.K) := CallR.or (cr_min hc) (call_min2 hc)
theorem exI_den {f : List Int → Int} {l : Nat} {a : Addr} (R : Rep g α h H) (hl : α[l]? = some a) (p : PostE g W α H σ Q (exI f h l)) : ∃ ns : List Int, H a = some (.lst (ns.map V.int)) ∧ ns ≠ [] ∧ Q (.int (f ns)) H := by
  unfold exI at p
  split at p
  · rename_i xs e
    split at p
    · rename_i ns q
      split at p
      · exact p.elim
      · rename_i hn
        obtain ⟨vs, b1, b2⟩ := R.ob _ _ _ e hl
        exact ⟨ns, by rw [← intsOf_den b2 q]; exact b1, hn, p α H _ .refl R (.int _)⟩
    · exact p.elim
  · exact p.elim
theorem rs_maxA : RSn g W (rMaxA g.K) maxLF := by
  intro α h H σ vs ds Q R hd p
  unfold maxLF at p
  split at p
  · rename_i l
    cases hd with
    | cons h1 h2 =>
      cases h2
      cases h1
      rename_i a hl
      obtain ⟨ns, b1, b2, b3⟩ := exI_den R hl p
      obtain ⟨c1, c2⟩ := maxI_is b2
      exact .inl ⟨a, ns, rfl, SqL.of b1, List.length_pos_iff.mpr b2, fun m hm k => by rw [Int.le_antisymm (c2 m hm) (k _ c1)]; exact b3⟩
  · exact .inr (rs_max2 α h H σ vs ds Q R hd p)
theorem rs_minA : RSn g W (rMinA g.K) minLF := by
  intro α h H σ vs ds Q R hd p
  unfold minLF at p
  split at p
  · rename_i l
    cases hd with
    | cons h1 h2 =>
      cases h2
      cases h1
      rename_i a hl
      obtain ⟨ns, b1, b2, b3⟩ := exI_den R hl p
      obtain ⟨c1, c2⟩ := minI_is b2
      exact .inl ⟨a, ns, rfl, SqL.of b1, List.length_pos_iff.mpr b2, fun m hm k => by rw [Int.le_antisymm (k _ c1) (c2 m hm)]; exact b3⟩
  · exact .inr (rs_min2 α h H σ vs ds Q R hd p)
/-! ### xs[::-1] -/
def revF (d : D) (h : AH) : EO := match d with
  | .ref l => (match h[l]? with
    | some (.lst xs) => newL xs.reverse h
    | _ => .bad)
  | _ => .bad
theorem DenL.rev : ∀ {ds : List D} {vs : List V}, DenL g α H ds vs → DenL g α H ds.reverse vs.reverse
  | [], _, h => by cases h; exact .nil
  | d :: ds, _, h => by
    cases h with
    | cons h1 h2 =>
      simp only [List.reverse_cons]
      exact h2.rev.append (.cons h1 .nil)
theorem newL_ok {xs : List D} {ys : List V} (R : Rep g α h H) (d : DenL g α H xs ys) (p : PostE g W α H σ Q (newL xs h)) {z : Addr} (hz : H z = none) : Q (.ref z) (upd H z (.lst ys)) := by
  obtain ⟨b1, b2, b3⟩ := new_list R d hz
  exact p _ _ _ b2 b1 b3
theorem de_rev {k : Nat} {p1 p2 p3 : Pos} (hK : g.K = X.K) (ha : PE X e (tE g W ma)) : PE X (.Subscript e (.Slice none none (some (.UnaryOp .USub (.Constant (.int 1) k p1) p2)) p3) pos) (tE g W (unM ma revF)) := by
  refine PE.imp (pe_revL ha) fun σ H Q p => ?_
  obtain ⟨α, h, τ, R, s, p⟩ := tE_start (f := revF) p
  refine ⟨α, h, τ, R, s, PostE.imp p ?_⟩
  rintro v H1 ⟨α1, d, h1, τ1, R1, s1, D1, p1⟩
  rw [← hK]
  cases D1 <;> try exact False.elim p1
  rename_i l a hl
  simp only [revF] at p1
  split at p1
  · rename_i xs hx
    obtain ⟨vs, a1, a2⟩ := R1.ob _ _ _ hx hl
    exact ⟨a, vs, rfl, SqL.of a1, fun q hq => newL_ok R1 a2.rev p1 hq⟩
  · exact p1.elim
/-! ### s.index(x) -/
def smLM (o : EM) (m : LM) (f : Str → List D → AH → EO) : EM := fun τ h => (o τ h).bind fun d h1 => match d with
  | .str x => (m τ h1).bindE (f x)
  | _ => .bad
def idxF (x : Str) : List D → AH → EO
  | [.str y], h => (match Txt.index0 x y with
    | some k => .ok (.int (k : Nat)) h
    | none => .bad)
  | _, _ => .bad
theorem de_idxS (hc : X.calm = true) (ho : PE X o (tE g W mo)) (he : PA X [e] (tL g W m))
    (hbase : attributeBase o "index" X.env (eval o X.env) = eval o X.env := by rfl)
    (hfew : ((backTo cpos (starEach [e] X.env)).all (fun x => !x.1) && (backToKw cpos (keywordEach [] X.env)).all (fun x => x.1.isSome)
      && decide (([e] : List Expr).length + ([] : List Keyword).length + (if ([] : List Keyword).isEmpty then 0 else 1) < 30)) = true := by rfl)
    (hline : (apos.endLine == cpos.line) = true := by rfl) (hs : starEach [e] X.env = (false, eval e X.env) :: starEach [] X.env := by rfl) (hplain : (backTo cpos (starEach [] X.env)).any (·.1) = false := by rfl) :
    PE X (.Call (.Attribute o "index" apos) [e] [] cpos) (tE g W (smLM mo m idxF)) := by
  refine PE.imp (pe_bmS PySem.F.plainAttrs_str PySem.F.slot_str_index PySem.F.type_str_index (mt_indexX hc (LamX.takes0 (X := X))) ho he hbase hfew hline hs hplain) fun σ H Q q => ?_
  obtain ⟨α, h, τ, R, s, q⟩ := q
  refine ⟨α, h, τ, R, s, PostE.imp (PostE.bind q) ?_⟩
  rintro v H1 ⟨α1, d, h1, E1, R1, D1, p1⟩
  cases D1 <;> try exact False.elim p1
  rename_i z
  refine ⟨rfl, α1, h1, τ, R1, s.ext E1, PostL.imp (PostL.bindE p1) ?_⟩
  rintro vs H2 ⟨α2, ds, h2, E2, R2, D2, p2⟩
  unfold idxF at p2
  split at p2
  · rename_i y
    cases D2 with
    | cons d1 d2 =>
      cases d2
      cases d1
      split at p2
      · rename_i k ek
        exact ⟨z, y, rfl, rfl, fun k' e' => by rw [ek] at e'; cases e'; exact p2 α2 H2 _ .refl R2 (.int _), fun e' => by rw [ek] at e'; cases e'⟩
      · exact p2.elim
  · exact p2.elim
end
end DD
end

section
set_option Elab.async false
set_option linter.all false
set_option maxRecDepth 100000
set_option maxHeartbeats 2000000
/-! a statement with a dict locked; values and items; list(range(..)); told with two clauses; == through lists; texts compared -/
namespace DD
open PySem L2
section
variable {X : Cx} {g : G} {W : WX} {a b c e o : Expr} {es : List Expr} {ma mb mc mo me : EM} {m : LM} {pos p apos cpos : Pos} {σ : L2.St} {H H' : Hp} {Q : VK} {α α' : List Addr} {h : AH} {τ : SL}
theorem DenS.extW {τ : SL} {σ : L2.St} (s : DenS g α H τ σ) (e : ExtW α H α' H') : DenS g α' H' τ σ :=
  ⟨s.len, fun i d q => let ⟨v, h1, h2⟩ := s.at_ i d q; ⟨v, h1, Den.extW e _ _ h2⟩⟩
theorem ds_lock {pk : SL → AH → Option Nat} {st : Stmt} {sm : SM} (he : PS X st (tS g W sm)) : PS X st (tS g W (lockS pk sm)) := by
  refine ⟨fun pins s σ H Dn I q => ?_⟩
  obtain ⟨α, h, τ, R, s0, p⟩ := q
  unfold lockS at p
  split at p
  · rename_i l _
    split at p
    · rename_i kvs el
      obtain ⟨a, hl, _⟩ := R.addr el
      obtain ⟨ws, ha, k⟩ := R.lock hl el
      refine (ps_lock he).run pins s σ H Dn I ⟨a, .dK ws, ha, True.intro, fun od => ?_⟩
      obtain ⟨R1, E1⟩ := k od
      refine ⟨α, _, τ, R1, s0.ext E1, ?_⟩
      have fin : ∀ {α' : List Addr} {H' : Hp} {h' : AH} {ks : List (Key × D)}, Ext α (upd H a (.frz od (.dK ws))) α' H' → Rep g α' h' H' → h'[l]? = some (.fdct ks) →
          H' a = some (.frz od (.dK ws)) ∧ Ext α H α' (upd H' a (.dK ws)) ∧ Rep g α' (h'.set l (.dct ks)) (upd H' a (.dK ws)) ∧ ExtW α' H' α' (upd H' a (.dK ws)) := fun {α' H' h' ks} E' R' ek => by
        have hf : H' a = some (.frz od (.dK ws)) := E'.frl _ _ _ upd_same
        exact ⟨hf, E'.unlock ha, R'.unlock (E'.pre _ _ hl) ek hf, ExtW.lk hf True.intro⟩
      cases em : sm τ (h.set l (.fdct kvs)) with
      | nx τ' h' =>
        rw [em] at p
        simp only [unlS] at p
        intro α' H' σ' E' R' S'
        split at p
        · rename_i ks ek
          obtain ⟨f1, f2, f3, f4⟩ := fin E' R' ek
          exact ⟨f1, p α' _ σ' f2 f3 (S'.extW f4)⟩
        · exact p.elim
      | bk τ' h' =>
        rw [em] at p
        simp only [unlS] at p
        intro α' H' σ' E' R' S'
        split at p
        · rename_i ks ek
          obtain ⟨f1, f2, f3, f4⟩ := fin E' R' ek
          exact ⟨f1, p α' _ σ' f2 f3 (S'.extW f4)⟩
        · exact p.elim
      | ct τ' h' =>
        rw [em] at p
        simp only [unlS] at p
        intro α' H' σ' E' R' S'
        split at p
        · rename_i ks ek
          obtain ⟨f1, f2, f3, f4⟩ := fin E' R' ek
          exact ⟨f1, p α' _ σ' f2 f3 (S'.extW f4)⟩
        · exact p.elim
      | rt d h' =>
        rw [em] at p
        simp only [unlS] at p
        intro α' H' v E' R' D'
        split at p
        · rename_i ks ek
          obtain ⟨f1, f2, f3, f4⟩ := fin E' R' ek
          exact ⟨f1, p α' _ v f2 f3 (Den.extW f4 _ _ D')⟩
        · exact p.elim
      | exc c τ' h' =>
        rw [em] at p
        simp only [unlS] at p
        intro α' H' σ' E' R' S'
        exact p α' H' σ' (E1.trans E') R' S'
      | bad => rw [em] at p; exact p.elim
    · exact he.run pins s σ H Dn I ⟨α, h, τ, R, s0, p⟩
  · exact he.run pins s σ H Dn I ⟨α, h, τ, R, s0, p⟩
/-! ### values, items of a locked dict -/
def fvIt (d : D) (h : AH) : Option (List D × (AH → Bool)) := match d with
  | .ref l => (match h[l]? with
    | some (.fdct kvs) => some (kvs.map (·.2), fun _ => true)
    | _ => none)
  | _ => none
def fiIt (d : D) (h : AH) : Option (List D × (AH → Bool)) := match d with
  | .ref l => (match h[l]? with
    | some (.fdct kvs) => some (kvs.map fun kv => D.tup [kD kv.1, kv.2], fun _ => true)
    | _ => none)
  | _ => none
theorem DenK.getV : ∀ {kvs : List (Key × D)} {ws : List (Key × V)} {i : Nat}, DenK g α H kvs ws → ∀ k v, ws[i]? = some (k, v) → ∃ d, kvs[i]? = some (k, d) ∧ Den g α H d v
  | [], _, i, h, k, v, e => by cases h; simp at e
  | (j, d) :: kvs, _, 0, h, k, v, e => by
    cases h with
    | cons h1 h2 => simp at e; obtain ⟨rfl, rfl⟩ := e; exact ⟨d, rfl, h1⟩
  | (j, d) :: kvs, _, i + 1, h, k, v, e => by
    cases h with
    | cons h1 h2 => simpa using DenK.getV (i := i) h2 k v (by simpa using e)
theorem DenK.ext {α' : List Addr} {H' : Hp} {kvs : List (Key × D)} {ws : List (Key × V)} (h : DenK g α H kvs ws) (E : Ext α H α' H') : DenK g α' H' kvs ws := by
  induction h with
  | nil => exact .nil
  | cons h1 h2 ih => exact .cons (Den.ext E _ _ h1) ih
theorem it_vals : IterOk g W (iVals (tE g W ma)) ma fvIt := by
  rintro σ H R ⟨α, h, τ, R1, s, p⟩
  refine ⟨α, h, τ, R1, s, PostE.imp (PostI.toE p) ?_⟩
  rintro v H1 ⟨α1, d, h1, E1, R2, D1, ds, live, hit, k⟩
  cases D1 <;> simp only [fvIt, reduceCtorEq] at hit
  rename_i l a hl
  split at hit
  · rename_i kvs hx
    cases hit
    obtain ⟨o, ws, a1, a2⟩ := R2.fdct hl hx
    refine ⟨a, o, ws, rfl, a1, k _ ⟨fun α' H' h' E r lv i hi => ?_, fun α' H' h' E r lv i d hd => ?_, fun α' H' h' x H2 E r lv i d hd hy => ?_⟩⟩
    · exact ⟨E.frl _ _ _ a1, by rw [a2.len]; simpa using hi⟩
    · refine ⟨E.frl _ _ _ a1, ?_⟩
      have := (List.getElem?_eq_some_iff.mp hd).1
      rw [a2.len]; simpa using this
    · obtain ⟨rfl, k', hk⟩ := hy
      obtain ⟨d', e1, e2⟩ := (a2.ext E).getV k' x hk
      rw [List.getElem?_map, e1] at hd
      cases hd
      exact ⟨.refl, r, e2⟩
  · cases hit
theorem it_items : IterOk g W (iItems (tE g W ma)) ma fiIt := by
  rintro σ H R ⟨α, h, τ, R1, s, p⟩
  refine ⟨α, h, τ, R1, s, PostE.imp (PostI.toE p) ?_⟩
  rintro v H1 ⟨α1, d, h1, E1, R2, D1, ds, live, hit, k⟩
  cases D1 <;> simp only [fiIt, reduceCtorEq] at hit
  rename_i l a hl
  split at hit
  · rename_i kvs hx
    cases hit
    obtain ⟨o, ws, a1, a2⟩ := R2.fdct hl hx
    refine ⟨a, o, ws, rfl, a1, k _ ⟨fun α' H' h' E r lv i hi => ?_, fun α' H' h' E r lv i d hd => ?_, fun α' H' h' x H2 E r lv i d hd hy => ?_⟩⟩
    · exact ⟨E.frl _ _ _ a1, by rw [a2.len]; simpa using hi⟩
    · refine ⟨E.frl _ _ _ a1, ?_⟩
      have := (List.getElem?_eq_some_iff.mp hd).1
      rw [a2.len]; simpa using this
    · obtain ⟨T, k', v', hk, rfl, hT, rfl⟩ := hy
      obtain ⟨d', e1, e2⟩ := (a2.ext E).getV k' v' hk
      rw [List.getElem?_map, e1] at hd
      cases hd
      obtain ⟨b1, b2, b3⟩ := new_tup r (DenL.cons (den_kD k') (DenL.cons e2 DenL.nil)) hT
      exact ⟨b2, b1, b3⟩
  · cases hit
/-! ### list(range(..)) -/
def rgD (a b : Int) : List D := (List.range (b - a).toNat).map fun i => D.int (a + (i : Nat))
theorem den_rgD (a b : Int) : DenL g α H (rgD a b) (rgV a b) := by
  unfold rgD rgV
  generalize List.range (b - a).toNat = l
  induction l with
  | nil => exact .nil
  | cons k l ih => exact .cons (.int _) ih
def rgOk (a b : Int) : Bool := decide (-(2 ^ 62) ≤ a) && (decide (a < 2 ^ 62) && (decide (-(2 ^ 62) ≤ b) && (decide (b < 2 ^ 62) && decide ((b - a).toNat ≤ 2 ^ 24))))
theorem rgOk_ok {a b : Int} (h : rgOk a b = true) : RgOk a b := by
  unfold rgOk at h
  simp only [Bool.and_eq_true, decide_eq_true_eq] at h
  exact h
def lrg1 (x : D) (h : AH) : EO := match x with
  | .int n => if rgOk 0 n = true then newL (rgD 0 n) h else .bad
  | _ => .bad
def lrg2 (x y : D) (h : AH) : EO := match x, y with
  | .int i, .int j => if rgOk i j = true then newL (rgD i j) h else .bad
  | _, _ => .bad
theorem de_listRg1 {p p2 pos : Pos} (hc : X.calm = true) (hr : Gl X "range") (hrm : X.mg "range" = none) (hg : Gl X "list") (hm : X.mg "list" = none) (ha : PE X a (tE g W ma)) (na : starEach [a] X.env = (false, eval a X.env) :: starEach [] X.env := by rfl)
    (nb : starEach [.Call (.Name "range" p2) [a] [] pos] X.env = (false, eval (.Call (.Name "range" p2) [a] [] pos) X.env) :: starEach [] X.env := by rfl) : PE X (.Call (.Name "list" p) [.Call (.Name "range" p2) [a] [] pos] [] cpos) (tE g W (unM ma lrg1)) := by
  refine PE.imp (pe_listRg hc hg hm (prg_1 hr hrm ha na) nb) fun σ H Q p => ?_
  obtain ⟨α, h, τ, R, s, p⟩ := tE_start (f := lrg1) p
  refine ⟨α, h, τ, R, s, PostE.imp p ?_⟩
  rintro v H1 ⟨α1, d, h1, τ1, R1, s1, D1, p1⟩
  cases D1 <;> try exact False.elim p1
  simp only [lrg1] at p1
  split at p1
  · rename_i n hok
    exact ⟨_, rfl, rgOk_ok hok, fun q hq => newL_ok R1 (den_rgD _ _) p1 hq⟩
  · exact p1.elim
theorem de_listRg2 {p p2 pos : Pos} (hc : X.calm = true) (hr : Gl X "range") (hrm : X.mg "range" = none) (hg : Gl X "list") (hm : X.mg "list" = none) (ha : PE X a (tE g W ma)) (hb : PE X b (tE g W mb)) (na : starEach [a, b] X.env = (false, eval a X.env) :: starEach [b] X.env := by rfl)
    (na2 : starEach [b] X.env = (false, eval b X.env) :: starEach [] X.env := by rfl) (hp : (backTo pos (starEach [b] X.env)).any (·.1) = false := by rfl)
    (nb : starEach [.Call (.Name "range" p2) [a, b] [] pos] X.env = (false, eval (.Call (.Name "range" p2) [a, b] [] pos) X.env) :: starEach [] X.env := by rfl) : PE X (.Call (.Name "list" p) [.Call (.Name "range" p2) [a, b] [] pos] [] cpos) (tE g W (binM ma mb lrg2)) := by
  refine PE.imp (pe_listRg hc hg hm (prg_2 hr hrm ha hb na na2 hp) nb) fun σ H Q q => ?_
  obtain ⟨α, h, τ, R, s, q⟩ := q
  refine ⟨α, h, τ, R, s, PostE.imp (PostE.bind q) ?_⟩
  rintro v H1 ⟨α1, d, h1, E1, R1, D1, p1⟩
  refine ⟨α1, h1, τ, R1, s.ext E1, PostE.imp (PostE.bind p1) ?_⟩
  rintro w H2 ⟨α2, d2, h2, E2, R2, D2, p2⟩
  cases D1 <;> try (cases D2 <;> exact False.elim p2)
  cases D2 <;> try exact False.elim p2
  simp only [lrg2] at p2
  split at p2
  · rename_i hok
    exact ⟨_, _, rfl, rfl, rgOk_ok hok, fun q hq => newL_ok R2 (den_rgD _ _) p2 hq⟩
  · exact p2.elim
/-! ### == through lists -/
def allP (f : D → Option PyData) : List D → Option (List PyData)
  | [] => some []
  | x :: r => match f x, allP f r with
    | some a, some l => some (a :: l)
    | _, _ => none
def deepP (h : AH) : Nat → D → Option PyData
  | 0, _ => none
  | n + 1, d => match d with
    | .non => some .none
    | .bl b => some (.bool b)
    | .int i => some (.int i)
    | .str x => some (.str x)
    | .tup xs => (allP (deepP h n) xs).map .tuple
    | .fls xs => (allP (deepP h n) xs).map .list
    | .ref l => (match h[l]? with
      | some (.lst xs) => (allP (deepP h n) xs).map .list
      | _ => none)
    | .con _ => none
theorem allP_facts {f : D → Option PyData} {n : Nat} {K : PySem.W.Frag} (hf : ∀ d v p, Den g α H d v → f d = some p → Dp K H v p ∧ p.plain = true ∧ p.depth ≤ n) : ∀ {xs : List D} {vs : List V} {ps : List PyData}, DenL g α H xs vs → allP f xs = some ps → DpAll K H vs ps ∧ PyData.plainAll ps = true ∧ PyData.depthAll ps ≤ n
  | [], _, _, h, e => by cases h; cases e; exact ⟨.nil, rfl, Nat.zero_le _⟩
  | x :: r, _, ps, h, e => by
    cases h with
    | cons h1 h2 =>
      unfold allP at e
      split at e
      · rename_i a l e1 e2
        cases e
        obtain ⟨b1, b2, b3⟩ := hf _ _ _ h1 e1
        obtain ⟨c1, c2, c3⟩ := allP_facts hf h2 e2
        refine ⟨.cons b1 c1, by simp only [PyData.plainAll, b2, c2, Bool.and_self], ?_⟩
        simp only [PyData.depthAll]
        omega
      · cases e
theorem deepP_facts (R : Rep g α h H) : ∀ (n : Nat) (d : D) (v : V) (p : PyData), Den g α H d v → deepP h n d = some p → Dp g.K H v p ∧ p.plain = true ∧ p.depth ≤ n
  | 0, _, _, _, _, e => by cases e
  | n + 1, d, v, p, hd, e => by
    cases hd with
    | non => cases e; exact ⟨.non, rfl, Nat.zero_le _⟩
    | bl b => cases e; exact ⟨.bl b, rfl, Nat.zero_le _⟩
    | int i => cases e; exact ⟨.int i, rfl, Nat.zero_le _⟩
    | str x => cases e; exact ⟨.str x, rfl, Nat.zero_le _⟩
    | tup hs hl =>
      simp only [deepP, Option.map_eq_some_iff] at e
      obtain ⟨ps, e1, rfl⟩ := e
      obtain ⟨b1, b2, b3⟩ := allP_facts (deepP_facts R n) hl e1
      exact ⟨.tup hs b1, by simp only [PyData.plain]; exact b2, by simp only [PyData.depth]; omega⟩
    | fls hs hl =>
      simp only [deepP, Option.map_eq_some_iff] at e
      obtain ⟨ps, e1, rfl⟩ := e
      obtain ⟨b1, b2, b3⟩ := allP_facts (deepP_facts R n) hl e1
      exact ⟨.lst hs.seq b1, by simp only [PyData.plain]; exact b2, by simp only [PyData.depth]; omega⟩
    | ref ha =>
      simp only [deepP] at e
      split at e
      · rename_i xs hx
        simp only [Option.map_eq_some_iff] at e
        obtain ⟨ps, e1, rfl⟩ := e
        obtain ⟨vs, a1, a2⟩ := R.ob _ _ _ hx ha
        obtain ⟨b1, b2, b3⟩ := allP_facts (deepP_facts R n) a2 e1
        exact ⟨.lst (SqL.of a1) b1, by simp only [PyData.plain]; exact b2, by simp only [PyData.depth]; omega⟩
      · cases e
    | con => cases e
def eqPM (x y : D) (h : AH) : EO := match deepP h 60 x, deepP h 60 y with
  | some a, some b => .ok (.bl (PyData.eqv a b)) h
  | _, _ => .bad
def nePM (x y : D) (h : AH) : EO := match deepP h 60 x, deepP h 60 y with
  | some a, some b => .ok (.bl (!PyData.eqv a b)) h
  | _, _ => .bad
theorem rs_eqP : RS2 g W (rEqAny g.K) eqPM := by
  intro α h H σ x y dx dy Q R hx hy p
  unfold eqPM at p
  split at p
  · rename_i a b ea eb
    obtain ⟨a1, a2, a3⟩ := deepP_facts R _ _ _ _ hx ea
    obtain ⟨b1, b2, b3⟩ := deepP_facts R _ _ _ _ hy eb
    exact ⟨a, b, a1, b1, a2, b2, by omega, p α H _ .refl R (.bl _)⟩
  · exact p.elim
theorem rs_neP : RS2 g W (rNeAny g.K) nePM := by
  intro α h H σ x y dx dy Q R hx hy p
  unfold nePM at p
  split at p
  · rename_i a b ea eb
    obtain ⟨a1, a2, a3⟩ := deepP_facts R _ _ _ _ hx ea
    obtain ⟨b1, b2, b3⟩ := deepP_facts R _ _ _ _ hy eb
    exact ⟨a, b, a1, b1, a2, b2, by omega, p α H _ .refl R (.bl _)⟩
  · exact p.elim
end
end DD
end

section
set_option Elab.async false
set_option linter.all false
set_option maxRecDepth 100000
set_option maxHeartbeats 2000000
namespace LamX
open PySem L2
/-- told: try: return a() / except x1: return r1 / except x2: return r2 -/
def TTold2 (K : PySem.W.Frag) (C1 : Addr) (r1 : Str) (C2 : Addr) (r2 : Str) : (XK → Hp → VK → Prop) → Hp → VK → Prop := fun tl H Q =>
  tl (fun cls _ H' => ∃ b, PySem.W.exmOne K cls (.ref C1) = some b ∧ (b = true → Q (.str r1) H') ∧ (b = false → ∃ b2, PySem.W.exmOne K cls (.ref C2) = some b2 ∧ (b2 = true → Q (.str r2) H') ∧ (b2 = false → False))) H Q
section
variable {X : Cx}
theorem told2_gives {Ng : List Str} {x a e1 e2 q r1 r2 : Str} {sg : Scope} {g C1 C2 : Addr} {cdg : Value} {j1 j2 : Nat} {p1 p2 p3 p4 p5 p6 p7 p8 p14 p15 p16 p17 : Pos} (hge1 : sg.names.lookup e1 = some .globalImplicit) (hge2 : sg.names.lookup e2 = some .globalImplicit) (hm1 : X.mg e1 = some (.ref C1)) (hm2 : X.mg e2 = some (.ref C2))
    (hd1 : (e1 == ("__debug__" : Str)) = false) (hd2 : (e2 == ("__debug__" : Str)) = false) (h0 : ∀ f : Addr, (L2.start Ng [V.ref f])[0]? = some (some (V.ref f))) :
    GivesTo X Ng x sg g cdg [.Try [.Return (some (.Call (.Name a p1) [] [] p2)) p3] [.ExceptHandler (some (.Name e1 p4)) none [.Return (some (.Constant (.str r1) j1 p5)) p6] p7, .ExceptHandler (some (.Name e2 p14)) none [.Return (some (.Constant (.str r2) j2 p15)) p16] p17] [] [] p8] a q (TTold2 X.K C1 r1 C2 r2) := by
  intro f c' s H Q tl act hc h
  have g1 : Gl (cxOf C8.CX0 X.prog X.w X.K X.mg X.base Ng x sg g cdg X.A X.stack s H C8.E0).nox e1 := hge1
  have g2 : Gl (cxOf C8.CX0 X.prog X.w X.K X.mg X.base Ng x sg g cdg X.A X.stack s H C8.E0).nox e2 := hge2
  refine ⟨_, pss_one (ps_try_many (X := (cxOf C8.CX0 X.prog X.w X.K X.mg X.base Ng x sg g cdg X.A X.stack s H C8.E0).nox) (Wout := fun _ _ _ _ => False)
      (tb := fun W D σ H => ∃ Ech : XK, (∀ cls d σ' H', Ech cls d H' → W cls d σ' H') ∧ σ[0]? = some (some (.ref f)) ∧ H c' = some (CodeO c' q) ∧ tl Ech H D.rt)
      rfl rfl takes0 (fun W pn xe tk _ => ?_)
      (.cons (c := .ref C1) ⟨g1, hd1, .inl hm1⟩ (fun a oe cls d pn _ _ => pss_one (ps_ret pe_str)) (.cons (c := .ref C2) ⟨g2, hd2, .inl hm2⟩ (fun a oe cls d pn _ _ => pss_one (ps_ret pe_str)) .nil))), ?_⟩
  · refine ⟨fun pins s' σ H' D I h' => ?_⟩
    obtain ⟨Ech, hW, h1, h2, h3⟩ := h'
    exact (pss_one (ps_ret (pos := p3) (act W pn xe Ech p1 p2 tk hW))).run pins s' σ H' D I ⟨h1, h2, h3⟩
  · exact ⟨fun cls _ H' => ∃ b, PySem.W.exmOne X.K cls (.ref C1) = some b ∧ (b = true → Q (.str r1) H') ∧ (b = false → ∃ b2, PySem.W.exmOne X.K cls (.ref C2) = some b2 ∧ (b2 = true → Q (.str r2) H') ∧ (b2 = false → False)),
      fun cls d σ' H' ⟨b, z1, z2, z3⟩ => ⟨b, z1, fun hb a _ => z2 hb, fun hb => let ⟨b2, y1, y2, y3⟩ := z3 hb; ⟨b2, y1, fun hb2 a _ => y2 hb2, fun hb2 => y3 hb2⟩⟩, h0 f, hc, h⟩
end
end LamX
namespace DD
open PySem L2
section
variable {X : Cx} {g : G} {W : WX} {a b c e o : Expr} {es : List Expr} {ma mb mc mo me : EM} {m : LM} {pos p apos cpos : Pos} {σ : L2.St} {H H' : Hp} {Q : VK} {α α' : List Addr} {h : AH} {τ : SL}
def told2M (c1 : Nat → Option Bool) (r1 : Str) (c2 : Nat → Option Bool) (r2 : Str) (mb : EM) : EM := fun τ h => match mb τ h with
  | .ok d h' => .ok d h'
  | .exc i h' => (match c1 i with
    | some true => .ok (.str r1) h'
    | some false => (match c2 i with
      | some true => .ok (.str r2) h'
      | _ => .bad)
    | none => .bad)
  | .bad => .bad
/-- x(lambda: body) where x tells by two clauses -/
theorem de_told2 {x a e1 e2 : Str} {fg c P C1 C2 : Addr} {k : Nat} {pg : Arguments} {sg : Scope} {dV kV doc pm cdv ct oc : Value} {an od : Option Addr} {osl : Array (Option Value)} {Ng : List Str}
    {params : Arguments} {body : Expr} {scope : Scope} {lpos : Pos} {r1 r2 : Str} {ci1 ci2 : Nat → Option Bool} {mb : EM} {j1 j2 : Nat} {p1 p2 p3 p4 p5 p6 p7 p8 p14 p15 p16 p17 : Pos}
    (hcl1 : ∀ i b, ci1 i = some b → PySem.W.exmOne X.K (.ref (g.cl i)) (.ref C1) = some b) (hcl2 : ∀ i b, ci2 i = some b → PySem.W.exmOne X.K (.ref (g.cl i)) (.ref C2) = some b)
    (hge1 : sg.names.lookup e1 = some .globalImplicit) (hge2 : sg.names.lookup e2 = some .globalImplicit) (hm1 : X.mg e1 = some (.ref C1)) (hm2 : X.mg e2 = some (.ref C2)) (hd1 : (e1 == ("__debug__" : Str)) = false) (hd2 : (e2 == ("__debug__" : Str)) = false)
    (h0 : ∀ f : Addr, (L2.start Ng [V.ref f])[0]? = some (some (V.ref f)))
    (hg : Gl X x) (hm : X.mg x = some (.ref fg)) (hk : PySem.W.keepIn X.K (.ref fg) = true)
    (lk : X.K.lookup fg = some ⟨oc, od, .func (PySem.W.fnOf x x pg [.Try [.Return (some (.Call (.Name a p1) [] [] p2)) p3] [.ExceptHandler (some (.Name e1 p4)) none [.Return (some (.Constant (.str r1) j1 p5)) p6] p7, .ExceptHandler (some (.Name e2 p14)) none [.Return (some (.Constant (.str r2) j2 p15)) p16] p17] [] [] p8] sg dV kV doc pm an cdv ct), osl⟩) (hcg : PySem.W.codeIn X.K cdv x = true)
    (hb : L2.Binds X.K (PySem.W.fnOf x x pg [.Try [.Return (some (.Call (.Name a p1) [] [] p2)) p3] [.ExceptHandler (some (.Name e1 p4)) none [.Return (some (.Constant (.str r1) j1 p5)) p6] p7, .ExceptHandler (some (.Name e2 p14)) none [.Return (some (.Constant (.str r2) j2 p15)) p16] p17] [] [] p8] sg dV kV doc pm an cdv ct) [a] []) (Sg : FnScope Ng [a] sg) (hNg : Ng[0]? = some a) (hva : Vis sg a)
    (TB : LamX.TabB X.base X.mg c P) (hcode : X.env.code = .ref c) (hmT : (P, X.env.qual ++ "<lambda>") ∈ g.T) (hu : ∀ p ∈ g.T, p.1 = P → p.2 = X.env.qual ++ "<lambda>") (hr : Room (k + 2) X.A) (L : LamX.LamS X.env.scope scope) (hdef : defaultsOf params X.env = ([], []))
    (hbind : ∀ (q : Str) (cl : List (Str × Addr)) (pm cv ctv : Value), bindArgs (PySem.W.kla_fn "<lambda>" q params body scope cl pm cv ctv) ⟨[], []⟩ = pure [])
    (hbody : ∀ (A : Around) (outer : List Env) (s : Shared) (H : Hp) (E : XK) (f c' : Addr), Room k (A.deeper (LamX.lamEnv X scope s.heap.objs.size f c')) → PE (LamX.lamCx X A outer s H E scope f c') body (tE g (fun cls d _ H => E cls d H) mb))
    (hdb : (x == ("__debug__" : Str)) = false := by decide) (hd : (a == ("__debug__" : Str)) = false := by decide) (hcd : (a == ("__classdict__" : Str)) = false := by decide) :
    PE X (.Call (.Name x p) [.Lambda params body scope lpos] [] pos) (tE g W (told2M ci1 r1 ci2 r2 mb)) := by
  refine PE.imp (LamX.pe_lamcall (t := fun E => tE g (fun cls d _ H => E cls d H) mb) hg hm hk lk hcg hb Sg hNg hva (LamX.told2_gives hge1 hge2 hm1 hm2 hd1 hd2 h0) TB hcode hmT hu hr L hdef hbind hbody hdb hd hcd) fun σ H Q q => ?_
  obtain ⟨α, h, τ, R, s, q⟩ := q
  refine ⟨R.tabs, fun H1 e T1 => ⟨α, h, τ, R.extN e T1, s.ext (Ext.ofN e), ?_⟩⟩
  have q := PostE.mono q (Ext.ofN (α := α) e)
  unfold told2M at q
  cases em : mb τ h with
  | ok d h' => rw [em] at q; exact q
  | exc i h' =>
    rw [em] at q
    simp only at q
    split at q
    · rename_i hc
      exact fun α' H' e' R' => ⟨true, hcl1 i true hc, fun _ => q α' H' _ e' R' (.str _), fun z => by cases z⟩
    · rename_i hc
      split at q
      · rename_i hc2
        exact fun α' H' e' R' => ⟨false, hcl1 i false hc, fun z => (by cases z), fun _ => ⟨true, hcl2 i true hc2, fun _ => q α' H' _ e' R' (.str _), fun z => (by cases z)⟩⟩
      · exact q.elim
    · exact q.elim
  | bad => rw [em] at q; exact q.elim
/-! ### a list by a number -/
def mulLM (x y : D) (h : AH) : EO := match x, y with
  | .ref l, .int k => (match h[l]? with
    | some (.lst xs) => if -(2 ^ 63) ≤ k ∧ k < 2 ^ 63 ∧ xs.length * k.toNat ≤ sizeLine then newL (List.replicate k.toNat xs).flatten h else .bad
    | _ => .bad)
  | _, _ => .bad
theorem rs_mulL : RS2 g W rRep mulLM := by
  intro α h H σ x y dx dy Q R hx hy p
  cases hx <;> try (cases hy <;> exact False.elim p)
  cases hy <;> try exact False.elim p
  rename_i l a hl k
  simp only [mulLM] at p
  split at p
  · rename_i xs hxs
    split at p
    · rename_i hk
      obtain ⟨vs, a1, a2⟩ := R.ob _ _ _ hxs hl
      have e := a2.length
      exact ⟨a, k, vs, rfl, rfl, a1, hk.1, hk.2.1, by rw [← e]; exact hk.2.2, fun q hq => newL_ok R (a2.rep k.toNat) p hq⟩
    · exact p.elim
  · exact p.elim
/-! ### texts compared -/
def ltT (x y : Str) : Bool := decide (x.cps.toList < y.cps.toList)
def ssM (f : Str → Str → Bool) (x y : D) (h : AH) : EO := match x, y with
  | .str i, .str j => .ok (.bl (f i j)) h
  | _, _ => .bad
theorem rs_ss {f : Str → Str → Bool} : RS2 g W (fun x y H Q => ∃ i j, x = .str i ∧ y = .str j ∧ Q (.bl (f i j)) H) (ssM f) := by
  intro α h H σ x y dx dy Q R hx hy p
  cases hx <;> try (cases hy <;> exact False.elim p)
  cases hy <;> try exact False.elim p
  exact ⟨_, _, rfl, rfl, p α H _ .refl R (.bl _)⟩
def ltSM : D → D → AH → EO := ssM fun i j => decide (i.cps.toList < j.cps.toList)
def gtSM : D → D → AH → EO := ssM fun i j => decide (j.cps.toList < i.cps.toList)
def leSM : D → D → AH → EO := ssM fun i j => !decide (j.cps.toList < i.cps.toList)
def geSM : D → D → AH → EO := ssM fun i j => !decide (i.cps.toList < j.cps.toList)
theorem rs_ltS : RS2 g W (fun x y H Q => ∃ i j, x = .str i ∧ y = .str j ∧ Q (.bl (decide (i.cps.toList < j.cps.toList))) H) ltSM := rs_ss
theorem rs_gtS : RS2 g W (fun x y H Q => ∃ i j, x = .str i ∧ y = .str j ∧ Q (.bl (decide (j.cps.toList < i.cps.toList))) H) gtSM := rs_ss
theorem rs_leS : RS2 g W (fun x y H Q => ∃ i j, x = .str i ∧ y = .str j ∧ Q (.bl (!decide (j.cps.toList < i.cps.toList))) H) leSM := rs_ss
theorem rs_geS : RS2 g W (fun x y H Q => ∃ i j, x = .str i ∧ y = .str j ∧ Q (.bl (!decide (i.cps.toList < j.cps.toList))) H) geSM := rs_ss
/-! ### sum of a list -/
def sumLF : List D → AH → EO
  | [.ref l], h => (match h[l]? with
    | some (.lst xs) => (match intsOf xs with
      | some ns => .ok (.int ns.sum) h
      | none => .bad)
    | _ => .bad)
  | _, _ => .bad
theorem rs_sum : RSn g W (rSum g.K) sumLF := by
  intro α h H σ vs ds Q R hd p
  unfold sumLF at p
  split at p
  · rename_i l
    cases hd with
    | cons h1 h2 =>
      cases h2
      cases h1
      rename_i a hl
      split at p
      · rename_i xs e
        split at p
        · rename_i ns q
          obtain ⟨vs, b1, b2⟩ := R.ob _ _ _ e hl
          exact ⟨a, ns, rfl, SqL.of (by rw [← intsOf_den b2 q]; exact b1), p α H _ .refl R (.int _)⟩
        · exact p.elim
      · exact p.elim
  · exact p.elim
end
end DD
end

section
set_option Elab.async false
set_option linter.all false
set_option maxRecDepth 100000
set_option maxHeartbeats 2000000
/-! parts of a text: where a lambda stands -/
namespace DD
open PySem L2
def kidE : Expr → List Expr
  | .BoolOp _ vs _ => vs
  | .BinOp a _ b _ => [a, b]
  | .UnaryOp _ a _ => [a]
  | .IfExp a b c _ => [a, b, c]
  | .ListComp e gs _ _ => e :: gs.map (·.iter)
  | .Compare a _ bs _ => a :: bs
  | .Call f as _ _ => f :: as
  | .Attribute e _ _ => [e]
  | .Subscript a b _ => [a, b]
  | .List es _ => es
  | .Tuple es _ _ => es
  | .Lambda _ b _ _ => [b]
  | _ => []
def exS : Stmt → List Expr
  | .Return (some e) _ => [e]
  | .Assign _ e _ => [e]
  | .If t _ _ _ => [t]
  | .While t _ _ _ => [t]
  | .For _ it _ _ _ => [it]
  | .Expr e _ => [e]
  | _ => []
def kidS : Stmt → List Stmt
  | .If _ b o _ => b ++ o
  | .For _ _ b o _ => b ++ o
  | .While _ b o _ => b ++ o
  | _ => []
def noE : Expr := .Constant .none 0 ⟨0, 0, 0, 0⟩
def noS : Stmt := .Pass ⟨0, 0, 0, 0⟩
def atE (e : Expr) : List Nat → Expr
  | [] => e
  | i :: r => atE ((kidE e).getD i noE) r
def atS (s : Stmt) : List Nat → Stmt
  | [] => s
  | i :: r => atS ((kidS s).getD i noS) r
/-- the lambda at a place of a def: by its statements, then by its expressions -/
def lamAt (b : List Stmt) (i : Nat) (ss es : List Nat) : Expr := atE ((exS (atS (b.getD i noS) ss)).getD 0 noE) es
def lamI (q : Str) : Expr → LamI
  | .Lambda a b sc _ => ⟨q, a, b, sc⟩
  | _ => ⟨q, { posonlyargs := [], args := [], vararg := none, kwonlyargs := [], kw_defaults := [], kwarg := none, defaults := [] }, noE, { kind := .function, names := [], isGenerator := false, isCoroutine := false }⟩
section
variable {X : Cx} {g : G} {W : WX} {pos : Pos}
/-- a, b, c = x, y, z -/
def par3M (i j l : Nat) (m : LM) : SM := fun τ h => match m τ h with
  | .ok [d, e, f] h1 => .nx (((τ.set i (some d)).set j (some e)).set l (some f)) h1
  | .exc c h1 => .exc c τ h1
  | _ => .bad
theorem ds_par3 {i j l : Nat} {x y z : Str} {a b c : Expr} {m : LM} {px py pz pt : Pos} {kt k2 pt2} (hc : X.calm = true) (hN : X.N.Nodup) (hi : X.N[i]? = some x) (hj : X.N[j]? = some y) (hl : X.N[l]? = some z) (hij : i ≠ j) (hil : i ≠ l) (hjl : j ≠ l)
    (hx : X.env.scope.names.lookup x = some .local) (hy : X.env.scope.names.lookup y = some .local) (hz : X.env.scope.names.lookup z = some .local) (ha : PA X [a, b, c] (tL g W m))
    (hw : swappedStores [.Tuple [.Name x px, .Name y py, .Name z pz] kt pt] (.Tuple [a, b, c] k2 pt2) X.env = pure (some [x, y, z]))
    (hs : swapsWithSole [.Tuple [.Name x px, .Name y py, .Name z pz] kt pt] (.Tuple [a, b, c] k2 pt2) pos.line X.env = pure false := by rfl) :
    PS X (.Assign [.Tuple [.Name x px, .Name y py, .Name z pz] kt pt] (.Tuple [a, b, c] k2 pt2) pos) (tS g W (par3M i j l m)) := by
  refine PS.imp (ps_par3 hc hN hi hj hl hij hil hjl hx hy hz ha hw hs) fun Dn σ H p => ?_
  obtain ⟨α, h, τ, R, s, p⟩ := p
  refine ⟨α, h, τ, R, s, ?_⟩
  unfold par3M at p
  split at p
  · rename_i d e f h1 e1
    rw [e1]
    rintro α' H' vs E R' dl
    cases dl with
    | cons d1 dl =>
      cases dl with
      | cons d2 dl =>
        cases dl with
        | cons d3 dl =>
          cases dl
          exact ⟨_, _, _, rfl, p α' H' _ E R' ((((s.ext E).set i d1).set j d2).set l d3)⟩
  · rename_i c h1 e1
    rw [e1]
    exact fun α' H' E R' => p α' H' σ E R' (s.ext E)
  · exact p.elim
end
end DD
end

section
set_option Elab.async false
set_option linter.all false
set_option maxRecDepth 100000
set_option maxHeartbeats 2000000
/-! a def whose frame's cells tell what its lambdas capture -/
namespace DD
open PySem L2
section
variable {g : G} {W : WX}
theorem fn_okL {P : Program} {w : World} {K : PySem.W.Frag} {mg : Str → Option Value} {base : Heap} {gs : Addr → G} {x qual : Str} {st : Stmt} {N ps : List Str} {m : SM} {dvs : List V} {kws : List (Str × V)} {k n : Nat} {f : Addr} {fd : FuncData} {F : List D → AH → EO} (Fd : FunD K x qual (defArgs st) (defBody st) (defScope st) dvs kws f fd) (S : FnScope N ps (defScope st)) (hn : ps.length = n) (hF : F = fun ds h => retOf (m (startD N.length ds) h))
    (hb : ∀ (A : Around) (outer : List Env) (s : Shared) (H : Hp) (E : XK), Room k (A.deeper (PyProof.Rows.envOfC qual (defScope st) s.heap.objs.size f fd.code)) →
      PSs (cxOf (L2.CX P w) P w K mg base N qual (defScope st) f fd.code A outer s H E) (defBody st) (tS (gs s.heap.objs.size) (fun cls d _ H => E cls d H) m)) :
    FnOk P w K mg base (L2.CX P w) (k + 1) f fd ps (fun vs H Q E => ∀ L, spD (gs L) n F vs H Q E) := by
  subst hn hF
  have hb' := hb
  obtain ⟨oc, od, dV, kV, doc, pm, an, cdv, ct, osl, e, lk, hcd, _, _⟩ := Fd.ex
  have ec : fd.code = cdv := by rw [e] <;> rfl
  rw [ec] at hb'
  subst e
  refine ⟨fun vs H Q E q => ?_, fun A outer s H args us vs Q E hr e0 hbd r q => ?_⟩
  · obtain ⟨α, h, ds, _, dl, hn, _⟩ := q 0
    rw [← dl.length, hn]
  · obtain ⟨α, h, ds, R, dl, hn, q⟩ := q s.heap.objs.size
    have q : PostE (gs s.heap.objs.size) (fun cls d _ H => E cls d H) α H [] Q (retOf (m (startD N.length ds) h)) := q
    refine LamX.run_ofS lk hcd S hr e0 hbd r (by rw [← dl.length, hn]) fun hr' => ⟨_, hb' A outer s H E hr', α, h, startD N.length ds, R, den_start dl, ?_⟩
    cases e : m (startD N.length ds) h with
    | nx τ' h' => rw [e] at q; exact fun α' H' σ' E' R' s' => q α' H' .non E' R' .non
    | rt d h' => rw [e] at q; exact q
    | bk τ' h' => rw [e] at q; exact q.elim
    | ct τ' h' => rw [e] at q; exact q.elim
    | exc c τ' h' => rw [e] at q; exact fun α' H' σ' E' R' s' => q α' H' E' R'
    | bad => rw [e] at q; exact q.elim
end
end DD
end

section
set_option Elab.async false
set_option linter.all false
set_option maxRecDepth 100000
set_option maxHeartbeats 2000000
/-! min by a key: the loop, with all keys that were told so far told of one and the same heap -/
namespace DD
open PySem
/-- keys that stand: l has some items' numbers, each with the key that was told of it -/
structure Keyed (prog : Program) (w : World) (A : Around) (q : Addr) (T : Addr) (ws : List Addr) (G : Array GenState → Array GenState → Prop) (n : Nat) (P : Nat → Value → Prop) (St : Nat → Shared → Prop) (J : List (Nat × Value) → Shared → Prop) (bt : Nat → Nat → Bool) : Prop where
  stay : ∀ l t t', J l t → Moved (T :: ws) G t t' → J l t'
  less : ∀ l l' t, J l t → (∀ p ∈ l', p ∈ l) → J l' t
  call : ∀ i x l (t : Shared) (ob : Obj) (Q E : Value → Shared → Prop), i < n → P i x → J l t → St (i + 1) t → t.heap.get? T = some ob →
    (∀ kx t', J ((i, kx) :: l) t' → St (i + 1) t' → t'.heap.get? T = some ob → Q kx t') → wpAny (model prog w) A (PySem.call (.ref q) [x]) Q E t
  lt : ∀ i j ki kj l (t : Shared) (Q E : Value → Shared → Prop), J l t → (i, ki) ∈ l → (j, kj) ∈ l → Q (.bool (bt i j)) t → wpAny (model prog w) A (richCompare .Lt ki kj) Q E t
/-- the list in which the loop keeps the best item and its key -/
abbrev pairO (xs : Array Value) (c : Nat) : Obj := { cls := .type "list", dict := none, data := .seq xs c, slots := #[] }
section
variable {prog : Program} {w : World} {A : Around} {R : Result → Shared → Prop} {N : Addr} {fp ws : List Addr} {G : Array GenState → Array GenState → Prop} {n : Nat} {P : Nat → Value → Prop} {St : Nat → Shared → Prop} {J : List (Nat × Value) → Shared → Prop} {bt : Nat → Nat → Bool} {q : Addr}
theorem moved_put (W : WalksS prog w A.in1 N fp ws G n P St) {T : Addr} {t : Shared} {f : Obj → Obj} : Moved (T :: ws) G t { t with heap := t.heap.update T f, toks := t.toks } :=
  Moved.then_heap (tk := t.toks) (Moved.refl W.grefl) (Nat.le_refl _) fun b o hb e => by
    rw [Heap.get?_update_other _ _ (fun z => hb (by rw [← z]; exact List.mem_cons_self))]
    exact e
theorem keyed_loop (W : WalksS prog w A.in1 N fp ws G n P St) (T : Addr) (hT : T ∉ fp) (K : Keyed prog w A.in1 q T ws G n P St J bt) (kw : List (Str × Value)) (hR : ∀ v t, P (argBest bt (n - 1)) v → J [] t → R (.ok (.ret v)) t) :
    ∀ (m j : Nat) (t : Shared) (vb kb : Value) (c : Nat), m = n - (j + 1) → j < n → J [(argBest bt j, kb)] t → St (j + 1) t → P (argBest bt j) vb → t.heap.get? T = some (pairO #[vb, kb] c) →
      codeAny (model prog w) A (.builtin "min.loop" ⟨[.ref N, (.ref q), .ref T], kw⟩) R t
  | m, j, t, vb, kb, c, hm, hj, hJ, hst, hp, ht => by
    have out : T ∉ ws := fun z => hT (W.sub _ z)
    have wide : ∀ b ∈ ws, b ∈ T :: ws := fun b z => .tail _ z
    have nm : (toString "min" ++ toString ".loop" : String) = "min.loop" := by decide
    refine codeAny_builtin F.entry_min_loop ?_
    rw [Around.under_plainId F.plain_min_loop _]
    refine wpAny_bind (wpAny_seqItems ht rfl (wpAny_bind (wpAny_tryCatch ?_)))
    cases m with
    | zero =>
      have last : j + 1 = n := by omega
      refine W.done t _ _ (by rw [← last]; exact hst) fun t1 mv => ?_
      refine wpAny_bind (wpAny_updateSeq (mv.heap T _ out ht) rfl (wpAny_bind (wpAny_letGo (wpAny_pure ?_))))
      have j1 := K.stay _ _ _ hJ (mv.mono wide)
      exact hR vb _ (by rw [← last]; exact hp) (K.less _ _ _ (K.stay _ _ _ j1 (moved_put W)) fun p hp => by cases hp)
    | succ m =>
      have more : j + 1 < n := by omega
      refine W.item (j + 1) t _ _ more hst fun x t1 px st1 mv => ?_
      have at1 := mv.heap T _ out ht
      refine wpAny_bind (wpAny_tryCatch (wpAny_holding (K.call (j + 1) x _ t1 _ _ _ more px (K.stay _ _ _ hJ (mv.mono wide)) st1 at1 fun kx t2 j2 st2 at2 => ?_)))
      refine wpAny_bind (wpAny_tryCatch (wpAny_holding (wpAny_bind (K.lt (j + 1) (argBest bt j) kx kb _ t2 _ _ j2 List.mem_cons_self (.tail _ List.mem_cons_self) (wpAny_bind (wpAny_holding (wpAny_truthy_bool (wpAny_bind (wpAny_letGo (wpAny_pure ?_))))))))))
      have best : argBest bt (j + 1) = if bt (j + 1) (argBest bt j) then j + 1 else argBest bt j := rfl
      cases hb : bt (j + 1) (argBest bt j) with
      | true =>
        rw [hb, if_pos rfl] at best
        rw [if_pos rfl]
        refine wpAny_bind (wpAny_updateSeq at2 rfl (wpAny_bind (wpAny_letGo ?_)))
        rw [nm]
        have j3 := K.less _ [(argBest bt (j + 1), kx)] _ (K.stay _ _ _ j2 (moved_put (f := Obj.mapSeq fun _ => #[x, kx]) W)) fun p hp => by
          rw [best] at hp
          rw [List.mem_singleton.mp hp]
          exact List.mem_cons_self
        have st3 := W.frame _ t2 (t2.heap.update T (Obj.mapSeq fun _ => #[x, kx])) t2.toks st2 (Nat.le_refl _) fun b hbf o e => by
          rw [Heap.get?_update_other _ _ (fun z => hT (by rw [z]; exact hbf))]
          exact e
        exact wpAny_pure ⟨plainId_quiet F.plain_min_loop _, keyed_loop W T hT K kw hR m (j + 1) _ x kx _ (by omega) more j3 st3 (by rw [best]; exact px) (Heap.get?_update_self _ at2 rfl)⟩
      | false =>
        rw [hb, if_neg Bool.false_ne_true] at best
        rw [if_neg Bool.false_ne_true]
        refine wpAny_bind (wpAny_letGo ?_)
        rw [nm]
        have j3 := K.less _ [(argBest bt (j + 1), kb)] _ j2 fun p hp => by
          rw [best] at hp
          rw [List.mem_singleton.mp hp]
          exact .tail _ List.mem_cons_self
        exact wpAny_pure ⟨plainId_quiet F.plain_min_loop _, keyed_loop W T hT K kw hR m (j + 1) _ vb kb c (by omega) more j3 st2 (by rw [best]; exact hp) at2⟩
theorem keyed_first (W : WalksS prog w A.in1 N fp ws G n P St) (T : Addr) (hT : T ∉ fp) (K : Keyed prog w A.in1 q T ws G n P St J bt) (kw : List (Str × Value)) (hn : 0 < n) {t : Shared} {c : Nat} (hJ : J [] t) (hst : St 0 t) (ht : t.heap.get? T = some (pairO #[] c))
    (hR : ∀ v t, P (argBest bt (n - 1)) v → J [] t → R (.ok (.ret v)) t) : codeAny (model prog w) A (.builtin "min.loop" ⟨[.ref N, (.ref q), .ref T], kw⟩) R t := by
  have nm : (toString "min" ++ toString ".loop" : String) = "min.loop" := by decide
  refine codeAny_builtin F.entry_min_loop ?_
  rw [Around.under_plainId F.plain_min_loop _]
  refine wpAny_bind (wpAny_seqItems ht rfl (wpAny_bind (wpAny_tryCatch (W.item 0 t _ _ hn hst fun x t1 px st1 mv => ?_))))
  have at1 := mv.heap T _ (fun z => hT (W.sub _ z)) ht
  refine wpAny_bind (wpAny_tryCatch (wpAny_holding (K.call 0 x _ t1 _ _ _ hn px (K.stay _ _ _ hJ (mv.mono fun b z => .tail _ z)) st1 at1 fun kx t2 j2 st2 at2 => ?_)))
  refine wpAny_bind (wpAny_updateSeq at2 rfl ?_)
  rw [nm]
  have st3 := W.frame _ t2 (t2.heap.update T (Obj.mapSeq fun _ => #[x, kx])) t2.toks st2 (Nat.le_refl _) fun b hbf o e => by
    rw [Heap.get?_update_other _ _ (fun z => hT (by rw [z]; exact hbf))]
    exact e
  exact wpAny_pure ⟨plainId_quiet F.plain_min_loop _, keyed_loop W T hT K kw hR (n - 1) 0 _ x kx _ (by omega) hn (K.stay _ _ _ j2 (moved_put W)) st3 px (Heap.get?_update_self _ at2 rfl)⟩
/-- min(x, key=f), f at q -/
theorem min_keyed {E : Value → Shared → Prop} {x : Value} {Q : Value → Shared → Prop} {s : Shared}
    (h : wpAny (model prog w) A.in1 (pyIter x) (fun it t => ∃ N fp ws G n P St J bt, it = .ref N ∧ WalksS prog w A.in1 N fp ws G n P St ∧ St 0 t ∧ (∀ b ∈ fp, b < t.heap.objs.size) ∧ 0 < n ∧
      Keyed prog w A.in1 q t.heap.objs.size ws G n P St J bt ∧ J [] t ∧ ∀ v t', P (argBest bt (n - 1)) v → J [] t' → Q v t') E s) :
    wpAny (model prog w) A (PySem.call (.builtin "min") [x] [(Str.ofString "key", .ref q)]) Q E s := by
  have nm : (toString "min" ++ toString ".loop" : String) = "min.loop" := by decide
  refine PyProof.Rows.kmk_tree F.kind_min F.plain_min F.entry_min (PyProof.Rows.kmk_min_key _ _) (wpAny_bind (wpAny_of_eq (show Builtin.Builtins.bindParams "min" ["key", "default"] 0 ⟨[], [(Str.ofString "key", .ref q)]⟩ = pure [some (.ref q), none] from rfl) (wpAny_bind (wpAny_pure (wpAny_bind (wpAny_mono h (fun it t ht => ?_) fun _ _ e => e))))))
  obtain ⟨N, fp, ws, G, n, P, St, J, bt, rfl, W, st, old, hn, K, hJ, hQ⟩ := ht
  refine wpAny_bind (wpAny_newObj_type ?_)
  rw [nm]
  have grown : ∀ b o, t.heap.get? b = some o → (t.heap.push { cls := .type "list", data := .seq #[] 0 }).get? b = some o := fun b o e => Heap.get?_push_of_some _ e
  have j0 := K.stay _ _ { t with heap := t.heap.push { cls := .type "list", data := .seq #[] 0 }, toks := t.toks } hJ (Moved.then_heap (tk := t.toks) (Moved.refl W.grefl) (Nat.le_refl _) fun b o _ e => grown b o e)
  exact wpAny_pure ⟨plainId_quiet F.plain_min_loop _, keyed_first W t.heap.objs.size (fun z => Nat.lt_irrefl _ (old _ z)) K _ hn j0 (W.frame 0 t _ t.toks st (Nat.le_refl _) fun b _ o e => grown b o e) (Heap.get?_push_size _ rfl) hQ⟩
end
end DD
end

section
set_option Elab.async false
set_option linter.all false
set_option maxRecDepth 100000
set_option maxHeartbeats 2000000
/-! min(names, key=lambda one: (number, text)) -/
namespace DD
open PySem L2 NdefX
/-- a lambda as the layer of nested defs has it -/
abbrev lamNF (ql : Str) (params : Arguments) (scope : Scope) (cl : List (Str × Addr)) (c : Addr) : NF := ⟨"<lambda>", ql ++ "<lambda>", params, [], scope, cl, c⟩
def strsE : List D → Option (List Str)
  | [] => some []
  | .str x :: r => (strsE r).map (x :: ·)
  | _ => none
theorem strsE_eq : ∀ {xs : List D} {ns : List Str}, strsE xs = some ns → xs = ns.map D.str
  | [], ns, h => by cases h; rfl
  | x :: r, ns, h => by
    cases x <;> simp only [strsE, reduceCtorEq] at h
    rename_i y
    cases e : strsE r with
    | none => rw [e] at h; cases h
    | some ms => rw [e] at h; cases h; rw [strsE_eq e] <;> rfl
theorem strsE_map : ∀ ns : List Str, strsE (ns.map D.str) = some ns
  | [] => rfl
  | n :: ns => by simp [strsE, strsE_map ns]
/-- a key: a number and a text; the heap is as it was -/
noncomputable def keyIS (h : AH) : EO → Option (Int × Str)
  | .ok (.tup [.int i, .str x]) h' => open Classical in if h' = h then some (i, x) else none
  | _ => none
theorem keyIS_eq {h : AH} {o : EO} {k : Int × Str} (e : keyIS h o = some k) : o = .ok (.tup [.int k.1, .str k.2]) h := by
  unfold keyIS at e
  split at e
  · split at e
    · rename_i q; cases e; rw [q]
    · cases e
  · cases e
theorem keyIS_ok {h : AH} {i : Int} {x : Str} : keyIS h (.ok (.tup [.int i, .str x]) h) = some (i, x) := by
  unfold keyIS
  simp
def allK (f : Str → Option (Int × Str)) : List Str → Option (List (Int × Str))
  | [] => some []
  | n :: ns => match f n, allK f ns with
    | some k, some ks => some (k :: ks)
    | _, _ => none
theorem allK_at {f : Str → Option (Int × Str)} : ∀ {ns : List Str} {ks : List (Int × Str)}, allK f ns = some ks → ks.length = ns.length ∧ ∀ (i : Nat) (n : Str), ns[i]? = some n → ∃ k, ks[i]? = some k ∧ f n = some k
  | [], ks, h => by cases h; exact ⟨rfl, fun i n q => by simp at q⟩
  | n :: ns, ks, h => by
    simp only [allK] at h
    split at h
    · rename_i k ks' e1 e2
      cases h
      obtain ⟨a, b⟩ := allK_at e2
      refine ⟨by simp [a], fun i m q => ?_⟩
      cases i with
      | zero => simp at q; subst q; exact ⟨k, rfl, e1⟩
      | succ i => obtain ⟨k', h1, h2⟩ := b i m (by simpa using q); exact ⟨k', by simpa using h1, h2⟩
    · cases h
def pairD (k : Int × Str) : PyData := .tuple [.int k.1, .str k.2]
def isLt (a b : Int × Str) : Bool := PySem.W.dataLt (pairD a) (pairD b)
def lamSl (x : Str) (js : List Nat) (τ : SL) : SL := some (.str x) :: js.map fun j => (τ[j]?).join
noncomputable def minTail (js : List Nat) (mb : EM) (τ : SL) (d : D) (h1 : AH) : EO := match d with
  | .ref l => (match h1[l]? with
    | some (.lst xs) => (match strsE xs with
      | some ns => (match allK (fun x => keyIS h1 (mb (lamSl x js τ) h1)) ns with
        | some (k :: ks) => .ok (.str (ns.getD (argBest (fun i j => isLt ((k :: ks).getD i k) ((k :: ks).getD j k)) ks.length) "")) h1
        | _ => .bad)
      | none => .bad)
    | _ => .bad)
  | _ => .bad
noncomputable def minKM (me : EM) (js : List Nat) (mb : EM) : EM := fun τ h => (me τ h).bind (minTail js mb τ)
section
variable {X : Cx} {g : G} {W : WX} {pins : List (Addr × Obj)} {σ : L2.St} {H : Hp} {s : Shared}
theorem den_strsE {α : List Addr} : ∀ {ns : List Str} {vs : List V}, DenL g α H (ns.map D.str) vs → vs = ns.map V.str
  | [], vs, h => by cases h; rfl
  | n :: ns, vs, h => by
    cases h with
    | cons h1 h2 => cases h1; rw [den_strsE h2] <;> rfl
theorem vals_strs : ∀ {ns : List Str} {us : List Value}, Vals (ns.map V.str) us → us.length = ns.length ∧ ∀ (i : Nat) (n : Str), ns[i]? = some n → ∃ t, us[i]? = some (.str n t)
  | [], us, h => by cases h; exact ⟨rfl, fun i n q => by simp at q⟩
  | n :: ns, us, h => by
    cases h with
    | cons h1 h2 =>
      obtain ⟨a, b⟩ := vals_strs h2
      refine ⟨by simp [a], fun i m q => ?_⟩
      cases i with
      | zero => simp at q; subst q; obtain ⟨t, e⟩ := h1; exact ⟨t, by simp [e]⟩
      | succ i => obtain ⟨t, e⟩ := b i m (by simpa using q); exact ⟨t, by simpa using e⟩
/-- a call of a lambda of one parameter, from within a built-in -/
theorem lam1_run {A : Around} {f c : Addr} {q : Str} {params : Arguments} {body : Expr} {scope : Scope} {cl : List (Str × Addr)} {pm ct u : Value} {vu : V} {a : Str} {fr N : List Str} {js : List Nat} {k : Nat} {Q : VK} {E : XK} {tb : TE}
    (I : Inv X pins σ H s) (hf : H f = some (LamO f (q ++ "<lambda>") params body scope cl pm c ct)) (hc : H c = some (LamX.CodeO c (q ++ "<lambda>"))) (S : NScope N [a] fr scope) (cp : Caps X cl fr js)
    (hbind : bindArgs (PySem.W.kla_fn "<lambda>" (q ++ "<lambda>") params body scope cl pm (.ref c) ct) ⟨[u], []⟩ = pure [(a, u)]) (hr : Room (k + 1) A) (hA : A.frames = some X.stack) (r : RelV vu u)
    (hbody : Room k (A.deeper (envF (lamNF q params scope cl c) f s.heap.objs.size)) → PE (ncx (L2.CX X.prog X.w) X.prog X.w X.K X.mg X.base N (lamNF q params scope cl c) f A X.stack s H E) body tb) (hq : tb (startF N [vu] (js.map (slotAt σ))) H Q) :
    codeAny (model X.prog X.w) A (.call (.ref f) ⟨[u], []⟩) (CR (L2.CX X.prog X.w) X.stack X.prog X.w H s Q E) s := by
  obtain ⟨⟨oc, vs, tt, hoc, hdc, hvc⟩, _, _⟩ := I.hok c _ hc
  have e0 : Env0 X.prog X.w X.K X.mg X.base A X.stack s H := ⟨hA, I.env0.mod, I.env0.bs, I.env0.bsz, I.env0.funs, I.env0.frf, I.env0.hok, I.env0.bare⟩
  have ca : CellsAt (lamNF q params scope cl c).cl fr (js.map (slotAt σ)) s.heap H := cells_of I cp
  refine PySem.W.kla_callFunE hr.depth (lamO_get I hf) rfl S.co S.gen rfl ⟨c, oc, vs, tt, rfl, hoc, hdc, hvc⟩ ?_
  rw [hbind]
  refine wpAny_pure (wpAny_newFunctionEnv S.nocell (fun y hy => ?_) (fun h₁ hns hsb => ⟨I.nolimit.fresh _ hsb, ?_⟩) S.kind)
  · rw [List.mem_singleton.mp hy]
    exact S.par a (by simp)
  · have kp : ∀ b o, s.heap.get? b = some o → h₁.get? b = some o := fun b o e => hsb.extBut b o (Nat.ne_of_lt (Heap.lt_size e)) (Heap.get?_push_of_some _ e)
    have J := inv_startN (CX := L2.CX X.prog X.w) (F := lamNF q params scope cl c) (f := f) (E := E) (ps := [a]) (us := [u]) (vs := [vu]) (tk := s.toks + 1) S hr.hd e0 rfl (.cons r .nil) ca hns kp
    show codeAny _ _ (.expr body (envF (lamNF q params scope cl c) f s.heap.objs.size)) _ _
    refine PySem.W.kla_codeExpr (wpAny_mono ((hbody (hr.deeper _)).run [] _ _ H Q J hq) (fun v s' hq => ?_) fun e s' hq => hq)
    obtain ⟨w', H', J', rv, q'⟩ := hq
    exact ⟨w', H', J'.os, J'.bare, J'.base, J'.hok, rv, q'⟩
theorem den_slots {α : List Addr} {τ : SL} {x : Str} {js : List Nat} {N fr : List Str} (d : DenS g α H τ σ) (hN : N.length = 1 + fr.length) (hj : js.length = fr.length) : DenS g α H (lamSl x js τ) (startF N [.str x] (js.map (slotAt σ))) := by
  have e : startF N [V.str x] (js.map (slotAt σ)) = some (.str x) :: js.map (slotAt σ) := by
    unfold startF
    have z : N.length - [V.str x].length - (js.map (slotAt σ)).length = 0 := by simp; omega
    rw [z]
    simp
  rw [e]
  unfold lamSl
  refine ⟨by simp, fun i y q => ?_⟩
  cases i with
  | zero => simp at q; subst q; exact ⟨_, rfl, .str x⟩
  | succ i =>
    simp only [List.getElem?_cons_succ, List.getElem?_map] at q ⊢
    cases ej : js[i]? with
    | none => rw [ej] at q; cases q
    | some j =>
      rw [ej] at q
      have q : (τ[j]?).join = some y := Option.some.inj q
      have q2 : τ[j]? = some (some y) := by
        cases et : τ[j]? with
        | none => rw [et] at q; cases q
        | some z => rw [et] at q; rw [show z = some y from q]
      obtain ⟨v, h1, h2⟩ := d.at_ j y q2
      exact ⟨v, by simp [slotAt_of h1], h2⟩
end
end DD
end

section
set_option Elab.async false
set_option linter.all false
set_option maxRecDepth 100000
set_option maxHeartbeats 2000000
namespace DD
open PySem L2 NdefX
/-- the walk over a list of texts, the texts' own marks being free -/
def stW (l it : Addr) (ns : List Str) (i : Nat) (t : Shared) : Prop := t.heap.IsListIter it l i ∧ ∃ us : Array Value, t.heap.IsList l us ∧ us.size = ns.length ∧ ∀ (j : Nat) (n : Str), ns[j]? = some n → ∃ tk, us[j]? = some (.str n tk)
def pW (ns : List Str) (i : Nat) (v : Value) : Prop := ∃ n tk, ns[i]? = some n ∧ v = .str n tk
theorem walk_strs {prog : Program} {w : World} {A : Around} (hh : A.handled = none) (l it : Addr) (hne : l ≠ it) (ns : List Str) :
    WalksS prog w A it [it, l] [it] (fun a b => b = a) ns.length (pW ns) (stW l it ns) := by
  have W0 := fun us : Array Value => (Walks.list (prog := prog) (w := w) (A := A) hh it l hne us).toS
  refine ⟨(W0 #[]).sub, (W0 #[]).grefl, (W0 #[]).gtrans, fun i s h' tk st htk hk => ?_, fun i s Q E hi st k => ?_, fun s Q E st k => ?_, fun i s Q E st k => ?_⟩
  · obtain ⟨a, us, b, c, d⟩ := st
    obtain ⟨a', b'⟩ := (W0 us).frame i s h' tk ⟨a, b⟩ htk hk
    exact ⟨a', us, b', c, d⟩
  · obtain ⟨a, us, b, c, d⟩ := st
    refine (W0 us).item i s Q E (by rw [c]; exact hi) ⟨a, b⟩ fun v s' hv st' mv => k v s' ?_ ⟨st'.1, us, st'.2, c, d⟩ mv
    have hv : us[i]? = some v := hv
    obtain ⟨tk, e⟩ := d i _ (List.getElem?_eq_getElem hi)
    rw [hv] at e
    exact ⟨_, tk, List.getElem?_eq_getElem hi, Option.some.inj e⟩
  · obtain ⟨a, us, b, c, d⟩ := st
    exact (W0 us).done s Q E (by rw [c]; exact ⟨a, b⟩) k
  · obtain ⟨a, us, b, c, d⟩ := st
    exact (W0 us).self i s Q E ⟨a, b⟩ k
section
variable {X : Cx} {g : G} {W : WX} {pins : List (Addr × Obj)} {σ : L2.St}
theorem lst_strs {α : List Addr} {h : AH} {H : Hp} {t : Shared} {l0 : Nat} {l : Addr} {ns : List Str} (I : Inv X pins σ H t) (R : Rep g α h H) (e : h[l0]? = some (.lst (ns.map D.str))) (ha : α[l0]? = some l) :
    ∃ us : Array Value, t.heap.IsList l us ∧ us.size = ns.length ∧ ∀ (j : Nat) (n : Str), ns[j]? = some n → ∃ tk, us[j]? = some (.str n tk) := by
  obtain ⟨vs, h1, h2⟩ := R.ob _ _ _ e ha
  have := den_strsE h2
  subst this
  obtain ⟨its, hv, ⟨o, n, q1, q2, _, q3⟩, _⟩ := I.list (a := l) (xs := ns.map V.str) (.inl (.inl h1))
  obtain ⟨len, at_⟩ := vals_strs hv
  exact ⟨its.toArray, ⟨o, q1, q2, n, q3⟩, by simp [len], fun j n q => by
    obtain ⟨tk, e⟩ := at_ j n q
    exact ⟨tk, by simpa using e⟩⟩
/-- what stands while the keys are told -/
def KJ (X : Cx) (g : G) (pins : List (Addr × Obj)) (σ : L2.St) (α : List Addr) (h : AH) (H : Hp) (ns : List Str) (key : Str → Option (Int × Str)) (T it : Addr) (l : List (Nat × Value)) (t : Shared) : Prop :=
  ∃ α1 H1, Inv X pins σ H1 t ∧ Ext α H α1 H1 ∧ Rep g α1 h H1 ∧ FpOk X pins H1 T ∧ FpOk X pins H1 it ∧
    ∀ p ∈ l, ∃ n k vk, ns[p.1]? = some n ∧ key n = some k ∧ Den g α1 H1 (.tup [.int k.1, .str k.2]) vk ∧ RelV vk p.2
theorem fpOk_un {H1 H2 : Hp} {t t' : Shared} {b : Addr} {o : Obj} (f : FpOk X pins H1 b) (u : Un (frs X.stack) [] H1 H2 t.heap t'.heap) (e : t.heap.get? b = some o) : FpOk X pins H2 b :=
  ⟨u.free b o e f.1 (by simp), f.2.1, f.2.2.1, f.2.2.2.1, f.2.2.2.2.1, f.2.2.2.2.2⟩
theorem fp_keep {H1 H2 : Hp} {t t' : Shared} {b : Addr} {o : Obj} {Hs : Hp} (I : Inv X pins σ Hs t) (f : FpOk X pins H1 b) (u : Un (frs X.stack) [] H1 H2 t.heap t'.heap) (e : t.heap.get? b = some o) : t'.heap.get? b = some o :=
  u.keep b o e f.1 (fun z => by
    rcases List.mem_cons.mp (I.stkSub _ z) with z | z
    · exact f.2.1 z
    · exact f.2.2.1 z) (by simp)
theorem keyed_ok {α : List Addr} {h : AH} {H : Hp} {τ : SL} {ns : List Str} {ks : List (Int × Str)} {k0 : Int × Str} {l0 : Nat} {l f c T it : Addr} {q : Str} {params : Arguments} {body : Expr} {scope : Scope} {pm ct : Value} {a : Str} {fr N : List Str} {js : List Nat} {k : Nat} {mb : EM}
    (hq : q = X.env.qual) (sl : DenS g α H τ σ) (e : h[l0]? = some (.lst (ns.map D.str))) (ha : α[l0]? = some l) (hK : g.K = X.K) (hks : allK (fun x => keyIS h (mb (lamSl x js τ) h)) ns = some ks)
    (hf : H f = some (LamO f (q ++ "<lambda>") params body scope (cloFrom X.env.cells scope.names []) pm c ct)) (hc : H c = some (LamX.CodeO c (q ++ "<lambda>"))) (S : NScope N [a] fr scope) (hN : N.length = 1 + fr.length) (cp : X.Ok → Caps X (cloFrom X.env.cells scope.names []) fr js)
    (hbind : ∀ (pm cv ct u : Value), bindArgs (PySem.W.kla_fn "<lambda>" (q ++ "<lambda>") params body scope (cloFrom X.env.cells scope.names []) pm cv ct) ⟨[u], []⟩ = pure [(a, u)]) (hr : Room (k + 2) X.A)
    (hbody : ∀ (A : Around) (s : Shared) (H : Hp) (E : XK) (f c : Addr), Room k (A.deeper (envF (lamNF q params scope (cloFrom X.env.cells scope.names []) c) f s.heap.objs.size)) →
      PE (ncx (L2.CX X.prog X.w) X.prog X.w X.K X.mg X.base N (lamNF q params scope (cloFrom X.env.cells scope.names []) c) f A X.stack s H E) body (tE g (fun cls d _ H => E cls d H) mb)) :
    Keyed X.prog X.w X.A.in1 f T [it] (fun a b => b = a) ns.length (pW ns) (stW l it ns) (KJ X g pins σ α h H ns (fun x => keyIS h (mb (lamSl x js τ) h)) T it) (fun i j => isLt (ks.getD i k0) (ks.getD j k0)) := by
  obtain ⟨klen, kat⟩ := allK_at hks
  have jl : js.length = fr.length → True := fun _ => trivial
  refine ⟨fun l1 t t' hJ mv => ?_, fun l1 l2 t hJ sub => ?_, fun i x l1 t ob Q E hi hp hJ hst hT cont => ?_, fun i j ki kj l1 t Q E hJ mi mj hq => ?_⟩
  · obtain ⟨α1, H1, I, E1, R1, fT, fi, kk⟩ := hJ
    refine ⟨α1, H1, ?_, E1, R1, fT, fi, kk⟩
    have I2 := I.turnedL (h' := t'.heap) (t' := t'.toks) (ch := [T, it]) (fun b o hb eb => mv.heap b o hb eb) (fun b hb => by
      rcases List.mem_cons.mp hb with z | z
      · rw [z]; exact fT
      · rw [List.mem_singleton.mp z]; exact fi)
    obtain ⟨hp, g', d, tk, os⟩ := t'
    have h1 : g' = t.gens := mv.gens
    have h2 : d = t.drawn := mv.drawn
    have h3 : os = t.os := mv.os
    subst h1 h2 h3
    exact I2
  · obtain ⟨α1, H1, I, E1, R1, fT, fi, kk⟩ := hJ
    exact ⟨α1, H1, I, E1, R1, fT, fi, fun p hp => kk p (sub p hp)⟩
  · obtain ⟨α1, H1, I, E1, R1, fT, fi, kk⟩ := hJ
    obtain ⟨n, tk, hn, rfl⟩ := hp
    obtain ⟨kx, _, hkx⟩ := kat i n hn
    have mok := keyIS_eq hkx
    have hcp := cp I.ok
    have jl : js.length = fr.length := by
      have := congrArg List.length hcp.at_
      simpa using this
    have run := lam1_run (A := X.A.in1) (u := .str n tk) (vu := .str n) (k := k) (Q := fun v H2 => ∃ α2, Ext α1 H1 α2 H2 ∧ Rep g α2 h H2 ∧ Den g α2 H2 (.tup [.int kx.1, .str kx.2]) v) (E := fun _ _ _ => False) I (E1.ext f _ hf) (E1.ext c _ hc) S hcp (hbind pm _ ct _) hr.in1 I.env0.in1.frames ⟨tk, rfl⟩ (hbody _ _ _ _ _ _)
      ⟨α1, h, lamSl n js τ, R1, den_slots (sl.ext E1) hN jl, by
        rw [mok]
        exact fun α2 H2 v e2 r2 d2 => ⟨α2, e2, r2, d2⟩⟩
    refine wpAny_call (codeAny_mono run fun r t' hr' => ?_)
    match r, hr' with
    | .error e, hr' =>
      obtain ⟨_, _, _, _, _, _, _, _, _, _, _, _, z⟩ := hr'
      exact z.elim
    | .ok .next, hr' => exact False.elim hr'
    | .ok .brk, hr' => exact False.elim hr'
    | .ok .cont, hr' => exact False.elim hr'
    | .ok (.ret u), hr' =>
      have un : ∃ H2, Un (frs X.stack) [] H1 H2 t.heap t'.heap ∧ Inv X pins σ H2 t' ∧ ∃ v α2, RelV v u ∧ Ext α1 H1 α2 H2 ∧ Rep g α2 h H2 ∧ Den g α2 H2 (.tup [.int kx.1, .str kx.2]) v := by
        obtain ⟨v, H2, os, bare, un, hok, rv, α2, e2, r2, d2⟩ := hr'
        refine ⟨H2, un, ?_, v, α2, rv, e2, r2, d2⟩
        obtain ⟨hh, g', d, tk', os'⟩ := t'
        obtain rfl : os' = t.os := os
        exact I.call (h' := hh) (g' := g') (d' := d) (t' := tk') (ch := []) un hok bare (fun b z => absurd z (by simp))
      obtain ⟨H2, un, I2, v, α2, rv, e2, r2, d2⟩ := un
      obtain ⟨⟨oi, gi, di, wi⟩, us, l1, l2, l3⟩ := hst
      refine cont u t' ⟨α2, H2, I2, E1.trans e2, r2, fpOk_un fT un hT, fpOk_un fi un gi, fun p hp => ?_⟩ ⟨⟨oi, fp_keep I fi un gi, di, wi⟩, lst_strs I2 r2 e ((E1.trans e2).pre _ _ ha)⟩ (fp_keep I fT un hT)
      rcases List.mem_cons.mp hp with z | z
      · rw [z]
        exact ⟨n, kx, v, hn, hkx, d2, rv⟩
      · obtain ⟨n', k', v', q1, q2, q3, q4⟩ := kk p z
        exact ⟨n', k', v', q1, q2, Den.ext e2 _ _ q3, q4⟩
  · obtain ⟨α1, H1, I, E1, R1, fT, fi, kk⟩ := hJ
    obtain ⟨n, k1, v, q1, q2, q3, q4⟩ := kk _ mi
    obtain ⟨n', k2, v', p1, p2, p3, p4⟩ := kk _ mj
    obtain ⟨k1', w1, w2⟩ := kat i n q1
    obtain rfl : k1 = k1' := Option.some.inj (q2.symm.trans w2)
    obtain ⟨k2', w3, w4⟩ := kat j n' p1
    obtain rfl : k2 = k2' := Option.some.inj (p2.symm.trans w4)
    have g1 : ks.getD i k0 = k1 := by rw [List.getD_eq_getElem?_getD, w1] <;> rfl
    have g2 : ks.getD j k0 = k2 := by rw [List.getD_eq_getElem?_getD, w3] <;> rfl
    rw [g1, g2] at hq
    have D1 := toP_den _ _ q3 rfl
    have D2 := toP_den _ _ p3 rfl
    rw [hK] at D1 D2
    obtain ⟨as1, r1⟩ := Dp.reads I _ _ _ D1 q4
    obtain ⟨as2, r2⟩ := Dp.reads I _ _ _ D2 p4
    have dp : min (pairD k1).depth (pairD k2).depth ≤ 4 := Nat.le_trans (Nat.min_le_left _ _) (by show (pairD k1).depth ≤ 4; simp [pairD, PyData.depth, PyData.depthAll])
    refine PySem.W.rcLt_alike (pairD k1) (pairD k2) X.A.in1 t ki kj as1 as2 r1 r2 rfl (by unfold pairD; exact fun z => by cases z) ?_ X.prog X.w E Q hq
    have u := hr.in1.un
    omega
end
end DD
end

section
set_option Elab.async false
set_option linter.all false
set_option maxRecDepth 100000
set_option maxHeartbeats 2000000
namespace DD
open PySem L2 NdefX
section
variable {X : Cx} {g : G} {W : WX}
theorem de_minK {a : Str} {fr N : List Str} {js : List Nat} {k : Nat} {e body : Expr} {params : Arguments} {scope : Scope} {lpos kpos p pos : Pos} {c0 P0 : Addr} {me mb : EM} (hr : Room (k + 2) X.A) (hK : g.K = X.K)
    (TB : LamX.TabB X.base X.mg c0 P0) (hcode : X.env.code = .ref c0) (hmT : (P0, X.env.qual ++ "<lambda>") ∈ g.T) (hu : ∀ p ∈ g.T, p.1 = P0 → p.2 = X.env.qual ++ "<lambda>") (he : PE X e (tE g W me))
    (hbody : ∀ (A : Around) (s : Shared) (H : Hp) (E : XK) (f c : Addr), Room k (A.deeper (envF (lamNF X.env.qual params scope (cloFrom X.env.cells scope.names []) c) f s.heap.objs.size)) →
      PE (ncx (L2.CX X.prog X.w) X.prog X.w X.K X.mg X.base N (lamNF X.env.qual params scope (cloFrom X.env.cells scope.names []) c) f A X.stack s H E) body (tE g (fun cls d _ H => E cls d H) mb))
    (hm : X.mg "min" = none) (S : NScope N [a] fr scope) (hfr : ∀ y ∈ scope.names, y.2 = .free → X.env.scope.names.lookup y.1 = some .cell ∨ X.env.scope.names.lookup y.1 = some .free)
    (hfn : ∀ y ∈ fr, (y, NameKind.free) ∈ scope.names) (hN : N.length = 1 + fr.length := by rfl) (hjs : js.map (fun j => X.N[j]?) = fr.map some := by rfl) (hdef : defaultsOf params X.env = ([], []) := by rfl)
    (hbind : ∀ (q : Str) (cl : List (Str × Addr)) (pm cv ct u : Value), bindArgs (PySem.W.kla_fn "<lambda>" q params body scope cl pm cv ct) ⟨[u], []⟩ = pure [(a, u)] := by intros; rfl) (hg : Gl X "min" := by rfl)
    (hs : starEach [e] X.env = (false, eval e X.env) :: starEach [] X.env := by rfl)
    (hb : backTo pos (starEach [e] X.env) = (false, eval e X.env) :: backTo pos (starEach [] X.env) := by rfl) (hpl : (backTo pos (starEach [e] X.env)).any (·.1) = false := by rfl)
    (hall : (backToKw pos (keywordEach [⟨some "key", .Lambda params body scope lpos, kpos⟩] X.env)).all (·.1.isSome) = true := by rfl) (hnone : (backToKw pos (keywordEach [⟨some "key", .Lambda params body scope lpos, kpos⟩] X.env)).any (·.1.isNone) = false := by rfl)
    (hks : (backToKw pos (keywordEach [⟨some "key", .Lambda params body scope lpos, kpos⟩] X.env)).filterMap (·.1) = [Str.ofString "key"] := by rfl) :
    PE X (.Call (.Name "min" p) [e] [⟨some "key", .Lambda params body scope lpos, kpos⟩] pos) (tE g W (minKM me js mb)) := by
  constructor
  intro pins s σ H Q I h
  have lam := pk_cons (nm := some "key") (kpos := kpos) (pe_lamV (pos := lpos) (body := body) (T := g.T) TB hcode hmT hu hdef hfr) pk_nil
  have args := pa_cons he pa_nil hs
  obtain ⟨α, h0, τ, R, sl, p0⟩ := h
  have p0' := PostE.bind p0
  generalize hG : (fun (v : V) (H1 : Hp) => ∃ α1 d h1, Ext α H α1 H1 ∧ Rep g α1 h1 H1 ∧ Den g α1 H1 d v ∧ PostE g W α1 H1 σ Q (minTail js mb τ d h1)) = G1 at p0'
  have hq1 : (tCons (tE g W me) tNil) σ H (fun vs H1 => ∃ v, vs = [v] ∧ G1 v H1) := ⟨α, h0, τ, R, sl, PostE.imp p0' fun v H1 q => ⟨v, rfl, q⟩⟩
  refine wpAny_Call_Name_kw (ld_blt I hg hm (show bootBuiltins "min" = some (.builtin "min") by decide +kernel) (PyProof.Rows.callWith_kw (wpAny_mono (args.run pos pins s σ H _ I hq1) (fun us s1 hq => ?_) fun _ _ z => z) hb hpl hall hnone))
  subst hG
  obtain ⟨vs, H1, I1, rv, v, rfl, α1, d, h1, E1, R1, D1, p1⟩ := hq
  have sl := sl.ext E1
  unfold minTail at p1
  cases D1 <;> try exact False.elim p1
  rename_i l0 l hl
  simp only [] at p1
  split at p1
  · rename_i xs ex
    split at p1
    · rename_i ns en
      split at p1
      · rename_i k0 ks' eks
        have := strsE_eq en
        subst this
        refine wpAny_mono (lam.run pos pins s1 σ H1 (fun zs H2 => ∃ (f c : Addr) (pm ct : Value), zs = [.ref f] ∧ Ext α1 H1 α1 H2 ∧ Rep g α1 h1 H2 ∧ H2 f = some (LamO f (X.env.qual ++ "<lambda>") params body scope (cloFrom X.env.cells scope.names []) pm c ct) ∧ H2 c = some (LamX.CodeO c (X.env.qual ++ "<lambda>"))) I1 ⟨R1.tabs, fun f c pm ct H2 eN T2 hn hc => ⟨f, c, pm, ct, rfl, ?_, ?_, upd_same, ?_⟩⟩) (fun ws s2 hq => ?_) fun _ _ z => z
        · exact (Ext.ofN eN).trans (Ext.new hn)
        · exact (R1.extN eN T2).new hn
        · rw [upd_ne (ne_of_none hc hn)]
          exact hc
        · obtain ⟨zs, H2, I2, rw2, f, c, pm, ct, rfl, E2, R2, hf, hc⟩ := hq
          have eu : us = [Value.ref l] := by
            cases rv with
            | cons r1 r2 => cases r2; rw [show _ = Value.ref l from r1]
          have ew : ws = [Value.ref f] := by
            cases rw2 with
            | cons r1 r2 => cases r2; rw [show _ = Value.ref f from r1]
          rw [hks, eu, ew]
          obtain ⟨klen, kat⟩ := allK_at eks
          obtain ⟨us0, hl1, hl2, hl3⟩ := lst_strs I2 R2 ex hl
          show wpAny _ _ (call (.builtin "min") [.ref l] [(Str.ofString "key", .ref f)]) _ _ _
          have hn : ns.length = ks'.length + 1 := by rw [← klen] <;> rfl
          refine min_keyed (PySem.W.iter_listW (A := X.A.in1) hr.hd hl1 fun t et W0 st old hw hk => ?_)
          have hlt : l < s2.heap.objs.size := by obtain ⟨o, q, _⟩ := hl1; exact Heap.lt_size q
          have hne : l ≠ s2.heap.objs.size := Nat.ne_of_lt hlt
          have It : L2.Inv X pins σ H2 t := by
            rw [et]
            exact I2.kept (t' := s2.toks) fun b u q => Heap.get?_push_of_some _ q
          have tsz : t.heap.objs.size = s2.heap.objs.size + 1 := by rw [et]; exact Heap.size_push _ _
          have K := keyed_ok (pins := pins) (T := t.heap.objs.size) (it := s2.heap.objs.size) (k0 := k0) (q := X.env.qual) rfl (sl.ext E2) ex (E2.pre _ _ hl) hK eks hf hc S hN (fun ok => Caps.made ok hfr hfn hjs) (fun pm cv ct u => hbind _ _ pm cv ct u) hr hbody
          refine ⟨_, _, _, _, _, _, _, _, _, rfl, walk_strs (A := X.A.in1) hr.hd l _ hne ns, ⟨st.1, us0, st.2, hl2, hl3⟩, old, by omega, K, ⟨α1, H2, It, .refl, R2, It.fpOk (Nat.le_refl _) (It.hok.fresh (Nat.le_refl _)), I2.fpOk (Nat.le_refl _) (I2.hok.fresh (Nat.le_refl _)), fun p hp => by cases hp⟩, fun v t' hv hj => ?_⟩
          obtain ⟨α3, H3, I3, E3, R3, _, _, _⟩ := hj
          obtain ⟨n, tk, hn1, rfl⟩ := hv
          refine ⟨.str n, H3, I3, ⟨tk, rfl⟩, ?_⟩
          have e4 : ns.getD (argBest (fun i j => isLt ((k0 :: ks').getD i k0) ((k0 :: ks').getD j k0)) ks'.length) "" = n := by
            rw [hn] at hn1
            rw [List.getD_eq_getElem?_getD, show (ks'.length) = ks'.length + 1 - 1 from rfl, hn1] <;> rfl
          rw [e4] at p1
          exact p1 α3 H3 (.str n) (E2.trans E3) R3 (.str n)
      · exact p1.elim
    · exact p1.elim
  · exact p1.elim
end
end DD
end

section
set_option Elab.async false
set_option linter.all false
set_option maxRecDepth 100000
set_option maxHeartbeats 2000000
/-! min of a list of (number, text); the sign of a text -/
namespace DD
open PySem L2
def pairsE : List D → Option (List (Int × Str))
  | [] => some []
  | .tup [.int i, .str x] :: r => (pairsE r).map ((i, x) :: ·)
  | _ => none
def pairT (k : Int × Str) : D := .tup [.int k.1, .str k.2]
theorem pairsE_eq : ∀ {xs : List D} {ks : List (Int × Str)}, pairsE xs = some ks → xs = ks.map pairT
  | [], ks, h => by cases h; rfl
  | x :: r, ks, h => by
    unfold pairsE at h
    split at h
    · rename_i q; cases q
    · rename_i i y r' q
      cases q
      cases e : pairsE r with
      | none => rw [e] at h; cases h
      | some ms => rw [e] at h; cases h; rw [pairsE_eq e] <;> rfl
    · cases h
theorem pairsE_map : ∀ ks : List (Int × Str), pairsE (ks.map pairT) = some ks
  | [] => rfl
  | k :: ks => by
    show (pairsE (ks.map pairT)).map _ = _
    rw [pairsE_map ks] <;> rfl
def minPF : List D → AH → EO
  | [.ref l], h => (match h[l]? with
    | some (.lst xs) => (match pairsE xs with
      | some (k :: ks) => .ok (pairT ((k :: ks).getD (argBest (fun i j => isLt ((k :: ks).getD i k) ((k :: ks).getD j k)) ks.length) k)) h
      | _ => .bad)
    | _ => .bad)
  | _, _ => .bad
def rMinP (K : PySem.W.Frag) : List V → Hp → VK → Prop := fun vs H Q => ∃ (a : Addr) (ws : List V) (ks : List (Int × Str)) (k : Int × Str), vs = [.ref a] ∧ SqL K H a ws ∧ DpAll K H ws (ks.map pairD) ∧ ks ≠ [] ∧
  ∀ v, ws[argBest (fun i j => isLt (ks.getD i k) (ks.getD j k)) (ks.length - 1)]? = some v → Q v H
section
variable {X : Cx} {g : G} {W : WX}
theorem depthAll_pairs : ∀ ks : List (Int × Str), PyData.depthAll (ks.map pairD) ≤ 4
  | [] => by simp [PyData.depthAll]
  | k :: ks => by
    have := depthAll_pairs ks
    show max (pairD k).depth (PyData.depthAll (ks.map pairD)) ≤ 4
    have e : (pairD k).depth ≤ 4 := by simp [pairD, PyData.depth, PyData.depthAll]
    exact Nat.max_le.mpr ⟨e, this⟩
theorem alike_pairs (ks : List (Int × Str)) : PySem.W.AlikeAll (ks.map pairD) := by
  refine ⟨fun x hx y hy => ?_, fun x hx z => ?_⟩
  · obtain ⟨p, _, rfl⟩ := List.mem_map.mp hx
    obtain ⟨q, _, rfl⟩ := List.mem_map.mp hy
    rfl
  · obtain ⟨p, _, rfl⟩ := List.mem_map.mp hx
    cases z
theorem call_minP {k : Nat} (hr : Room k X.A) : CallR X (.builtin "min") (rMinP X.K) := by
  intro pins s σ H xs us Q I rv q
  obtain ⟨a, ws, ks, k0, rfl, hs, hd, hne, hQ⟩ := q
  have eu : us = [Value.ref a] := by
    cases rv with
    | cons r1 r2 => cases r2; rw [show _ = Value.ref a from r1]
  subst eu
  obtain ⟨its, hv, ⟨o, n, q1, q2, _, q3⟩, _⟩ := I.list hs
  have hl : s.heap.IsList a its.toArray := ⟨o, q1, q2, n, q3⟩
  obtain ⟨as, ra⟩ := Dp.readsAll I _ _ _ hd hv
  have ra' : ReadsAll s.heap its.toArray.toList (ks.map pairD) as := by simpa using ra
  have len : its.toArray.size = ks.length := by rw [PySem.W.readsAll_len ra', List.length_map]
  have pos : 0 < ks.length := List.length_pos_iff.mpr hne
  refine call_min_walkH (PySem.W.iter_listW (A := X.A.in1) hr.hd hl fun t e W0 st old hw hk => ?_)
  refine ⟨_, _, _, _, _, _, _, s.heap, _, rfl, W0, st, old, by omega, hw, hk, PySem.W.cmpIn_lt (A := X.A.in1) ra' (alike_pairs ks) ?_, fun v t' hP m => ?_⟩
  · have u := hr.un
    have d := depthAll_pairs ks
    show X.A.units + 1 + PyData.depthAll (ks.map pairD) < cLine
    omega
  · obtain ⟨h', tk, rfl, hk'⟩ := PySem.W.moved_old e rfl m
    have I2 := I.kept (t' := tk) hk'
    have hP : its.toArray[argBest (fun i j => PySem.W.dataLt ((ks.map pairD).getD i .none) ((ks.map pairD).getD j .none)) (its.toArray.size - 1)]? = some v := hP
    have bnd : ∀ m, m ≤ ks.length - 1 → argBest (fun i j => PySem.W.dataLt ((ks.map pairD).getD i .none) ((ks.map pairD).getD j .none)) m = argBest (fun i j => isLt (ks.getD i k0) (ks.getD j k0)) m ∧ argBest (fun i j => isLt (ks.getD i k0) (ks.getD j k0)) m ≤ m := by
      have gd : ∀ i, i < ks.length → (ks.map pairD).getD i .none = pairD (ks.getD i k0) := fun i hi => by
        rw [List.getD_eq_getElem?_getD, List.getD_eq_getElem?_getD, List.getElem?_map, List.getElem?_eq_getElem hi] <;> rfl
      intro m
      induction m with
      | zero => exact fun _ => ⟨rfl, Nat.le_refl _⟩
      | succ m ih =>
        intro hm
        obtain ⟨e1, e2⟩ := ih (by omega)
        have hb : argBest (fun i j => isLt (ks.getD i k0) (ks.getD j k0)) m < ks.length := by omega
        have l1 : argBest (fun i j => isLt (ks.getD i k0) (ks.getD j k0)) (m + 1) ≤ m + 1 := by
          simp only [argBest]
          split
          · exact Nat.le_refl _
          · omega
        refine ⟨?_, l1⟩
        simp only [argBest, e1, gd (m + 1) (show m + 1 < ks.length by omega), gd _ hb]
        rfl
    rw [len, (bnd _ (Nat.le_refl _)).1] at hP
    have hP : its[argBest (fun i j => isLt (ks.getD i k0) (ks.getD j k0)) (ks.length - 1)]? = some v := by simpa using hP
    have lw : ws.length = its.length := hv.length
    have hi : argBest (fun i j => isLt (ks.getD i k0) (ks.getD j k0)) (ks.length - 1) < ws.length := by
      have := (List.getElem?_eq_some_iff.mp hP).1
      omega
    obtain ⟨u, hu, ru⟩ := hv.get (List.getElem?_eq_getElem hi)
    rw [hP] at hu
    cases hu
    exact ⟨_, H, I2, ru, hQ _ (List.getElem?_eq_getElem hi)⟩
theorem den_pairs {α : List Addr} {H : Hp} : ∀ {ks : List (Int × Str)} {vs : List V}, DenL g α H (ks.map pairT) vs → DpAll g.K H vs (ks.map pairD)
  | [], vs, h => by cases h; exact .nil
  | k :: ks, vs, h => by
    cases h with
    | cons h1 h2 => exact .cons (toP_den _ _ h1 rfl) (den_pairs h2)
theorem rs_minP : RSn g W (rMinP g.K) minPF := by
  intro α h H σ vs ds Q R hd p
  unfold minPF at p
  split at p
  · rename_i l h'
    cases hd with
    | cons h1 h2 =>
      cases h2
      cases h1
      rename_i a hl
      split at p
      · rename_i xs ex
        split at p
        · rename_i k ks e
          have := pairsE_eq e
          subst this
          obtain ⟨ws, b1, b2⟩ := R.ob _ _ _ ex hl
          refine ⟨a, ws, k :: ks, k, rfl, .inl (.inl b1), den_pairs b2, by simp, fun v hv => ?_⟩
          have hlen : argBest (fun i j => isLt ((k :: ks).getD i k) ((k :: ks).getD j k)) ks.length < (k :: ks).length := by
            have := (List.getElem?_eq_some_iff.mp hv).1
            rw [← b2.length, List.length_map] at this
            exact this
          obtain ⟨v', q1, q2⟩ := b2.get (i := argBest (fun i j => isLt ((k :: ks).getD i k) ((k :: ks).getD j k)) ks.length) (d := pairT ((k :: ks).getD (argBest (fun i j => isLt ((k :: ks).getD i k) ((k :: ks).getD j k)) ks.length) k)) (by
            rw [List.getElem?_map, List.getElem?_eq_getElem hlen, List.getD_eq_getElem?_getD, List.getElem?_eq_getElem hlen] <;> rfl)
          have hv : ws[argBest (fun i j => isLt ((k :: ks).getD i k) ((k :: ks).getD j k)) ks.length]? = some v := hv
          rw [hv] at q1
          cases q1
          exact p α H _ .refl R q2
        · exact p.elim
      · exact p.elim
  · exact p.elim
end
end DD
end

section
set_option Elab.async false
set_option linter.all false
set_option maxRecDepth 100000
set_option maxHeartbeats 2000000
/-! xs.pop(i) of a list -/
namespace DD
open PySem L2
def popAtF (d : D) (ds : List D) (h : AH) : EO := match d, ds with
  | .ref l, [.int i] => match h[l]? with
    | some (.lst xs) => if -(2 ^ 63) ≤ i ∧ i < 2 ^ 63 then match seqIndex? i xs.length with
      | some k => match xs[k]? with
        | some y => .ok y (h.set l (.lst (xs.eraseIdx k)))
        | none => .bad
      | none => .bad else .bad
    | _ => .bad
  | _, _ => .bad
section
variable {X : Cx} {g : G} {W : WX} {e o : Expr} {mo : EM} {m : LM} {apos cpos : Pos}
theorem rs_popAt : RSm g W rPopAt popAtF := by
  intro α h H σ x dx vs ds Q R hx hd p
  cases hx
  case ref l a hl =>
   cases hd with
   | nil => exact p.elim
   | cons h1 h2 =>
    cases h2 with
    | cons _ _ => cases h1 <;> exact p.elim
    | nil =>
      cases h1 <;> try exact p.elim
      rename_i i
      simp only [popAtF] at p
      split at p
      · rename_i xs hx
        split at p
        · rename_i hi
          split at p
          · rename_i k hk
            split at p
            · rename_i y hy
              obtain ⟨vs, a1, a2⟩ := R.ob _ _ _ hx hl
              obtain ⟨v, q1, q2⟩ := a2.get hy
              obtain ⟨b1, b2⟩ := put_list R hl a1 (a2.eraseIdx k)
              exact ⟨a, vs, i, k, v, rfl, rfl, a1, hi.1, hi.2, by rw [← a2.length]; exact hk, q1, p α _ v b2 b1 (Den.ext b2 _ _ q2)⟩
            · exact p.elim
          · exact p.elim
        · exact p.elim
      · exact p.elim
  all_goals exact False.elim p
theorem d_popAt (ho : PE X o (tE g W mo)) (ha : PA X [e] (tL g W m))
    (hbase : attributeBase o "pop" X.env (eval o X.env) = eval o X.env := by rfl)
    (hfew : ((backTo cpos (starEach [e] X.env)).all (fun x => !x.1) && (backToKw cpos (keywordEach [] X.env)).all (fun x => x.1.isSome)
      && decide (([e] : List Expr).length + ([] : List Keyword).length + (if ([] : List Keyword).isEmpty then 0 else 1) < 30)) = true := by rfl)
    (hline : (apos.endLine == cpos.line) = true := by rfl) (hs : starEach [e] X.env = (false, eval e X.env) :: starEach [] X.env := by rfl) (hplain : (backTo cpos (starEach [] X.env)).any (·.1) = false := by rfl) :
    PE X (.Call (.Attribute o "pop" apos) [e] [] cpos) (tE g W (bmM mo m popAtF)) :=
  de_bm PySem.F.plainAttrs_list PySem.F.slot_list_pop PySem.F.type_list_pop mt_popAt rs_popAt ho ha hbase hfew hline hs hplain
end
end DD
namespace DD
open PySem L2
theorem ncx_takes {P : Program} {w : World} {K : PySem.W.Frag} {mg : Str → Option Value} {base : Heap} {N : List Str} {F : NdefX.NF} {f : Addr} {A : Around} {outer : List Env} {s : Shared} {H : Hp} {E : XK} : Takes (NdefX.ncx (L2.CX P w) P w K mg base N F f A outer s H E) (fun cls d _ H => E cls d H) :=
  takes_of (X := NdefX.ncx (L2.CX P w) P w K mg base N F f A outer s H E) rfl rfl rfl rfl
theorem map_inj {α β : Type} {f : α → β} : ∀ {l : List α} {a b : α}, (l.map f).Nodup → a ∈ l → b ∈ l → f a = f b → a = b
  | [], _, _, _, h, _, _ => by cases h
  | x :: l, a, b, n, ha, hb, e => by
    rw [List.map_cons, List.nodup_cons] at n
    rcases List.mem_cons.mp ha with rfl | ha
    · rcases List.mem_cons.mp hb with rfl | hb
      · rfl
      · exact absurd (List.mem_map.mpr ⟨b, hb, e.symm⟩) n.1
    · rcases List.mem_cons.mp hb with hb | hb
      · rw [hb] at e
        exact absurd (List.mem_map.mpr ⟨a, ha, e⟩) n.1
      · exact map_inj n.2 ha hb e
end DD
end

section
set_option Elab.async false
set_option linter.all false
set_option maxRecDepth 100000
set_option maxHeartbeats 4000000
/-! a list comprehension whose tests may lean on what held where it began (cells of the frame, which its block does not see) -/
namespace DD
open PySem L2 PySem.Spec PyProof.Rows
section
variable {X : Cx} {pins : List (Addr × Obj)} {σ : L2.St} {H : Hp} {s : Shared} {Q : VK}
/-- the block's place -/
abbrev blkE (X : Cx) (scope : Scope) (t : Shared) : Env := compEnvC scope (cellsFrom (t.heap.objs.size + 1) scope.names (cloFrom X.env.cells scope.names [])) t.heap.objs.size X.env
/-- one block, entered at t over the tracked heap G -/
structure Blk (X : Cx) (pins : List (Addr × Obj)) (σ : L2.St) (scope : Scope) (own : List (Str × Nat)) (fp : List Addr) (G : Hp) (t : Shared) : Prop where
  inv : Inv X pins σ G t
  foot : ∀ b ∈ fp, FpOk X pins G b ∧ b < t.heap.objs.size
  open_ : Inv (X.blk t G scope (blkE X scope t) fp) [] (wipe σ (own.map (·.2))) G { t with heap := pushCells (t.heap.push { cls := .type "dict", data := .dict #[] }) scope.names }
/-- the iterator's records may turn within the block -/
theorem blk_foot {scope : Scope} {fp : List Addr} {G K : Hp} {t u : Shared} {τ : L2.St} {ps : List (Addr × Obj)} (I : Inv (X.blk t G scope (blkE X scope t) fp) ps τ K u) (hp : ps = []) (z : ∀ b ∈ fp, K b = none) (b : Addr) (hb : b ∈ fp) : FpOk (X.blk t G scope (blkE X scope t) fp) [] K b := by
  subst hp
  exact ⟨z b hb, (I.ok.exf b hb).1, I.ok.exfs b hb, .inl hb, fun x c e => (I.ok.exf b hb).2 x c e, fun p hp => nomatch (show p ∈ ([] : List (Addr × Obj)) ++ [] from hp)⟩
/-- out of the block -/
theorem Blk.out {scope : Scope} {own : List (Str × Nat)} {fp : List Addr} {G K : Hp} {t u : Shared} {τ : L2.St} (B : Blk X pins σ scope own fp G t) (I : Inv (X.blk t G scope (blkE X scope t) fp) [] τ K u) :
    Inv X pins σ K u ∧ ∃ m, u.heap.Ns t.heap.objs.size m ∧ FpOk X pins K t.heap.objs.size := by
  refine ⟨B.inv.call' (ch := fp) I.os I.base I.hok I.bare fun b hb => ?_, ?_⟩
  · obtain ⟨⟨_, f1, _, f3, f4, f5⟩, _⟩ := B.foot b hb
    exact ⟨f3, f1, f4, f5⟩
  · obtain ⟨m, hn, _⟩ := I.loc
    exact ⟨m, hn, B.inv.fpOk (Nat.le_refl _) (show K (blkE X scope t).locals = none from I.free)⟩
theorem lc_guard {Gd : Shared → Hp → Addr → List Addr → Prop} {elt tg iter : Expr} {ifs : List Expr} {scope : Scope} {own : List (Str × Nat)} {pos : Pos} {wi : TI} {gt : TG} {tt : TT} {te : TE} (hc : X.calm = true) (hN : X.N.Nodup) (hi : PI X tg iter wi) (ok : BlkOk X.N X.env.scope scope own)
    (hg : ∀ (t : Shared) (G : Hp) (C : Addr) (cl : List (Str × Addr)) (fp : List Addr), PG (X.blk t G scope (compEnvC scope cl C X.env) fp) tg gt) (ht : ∀ (t : Shared) (G : Hp) (C : Addr) (cl : List (Str × Addr)) (fp : List Addr), Gd t G C fp → PTs (X.blk t G scope (compEnvC scope cl C X.env) fp) ifs tt)
    (he : ∀ (t : Shared) (G : Hp) (C : Addr) (cl : List (Str × Addr)) (fp : List Addr), PE (X.blk t G scope (compEnvC scope cl C X.env) fp) elt te) (gd : ∀ t G fp, Inv X pins σ G t → (∀ b ∈ fp, FpOk X pins G b ∧ b < t.heap.objs.size) → Gd t G t.heap.objs.size fp) (I : Inv X pins σ H s) (h : tLc wi gt tt te (own.map (·.2)) σ H Q)
    (hs : ∀ x, foldedSetIterable iter X.env x = pure x := by intro _; rfl) : wpAny (model X.prog X.w) X.A (eval (.ListComp elt [⟨tg, iter, ifs, 0⟩] scope pos) X.env) (EP X pins σ Q) X.xe s := by
  have caught : closureFor scope X.env = pure (cloFrom X.env.cells scope.names []) := closure_ok fun y hy e => (ok.free y hy e).elim (fun k => I.ok.has _ (.inl k)) fun k => I.ok.has _ (.inr k)
  rw [eval_ListComp]
  refine wpAny_comprehension_free (use := none) rfl hs caught ok.kind (fun y hy e => by rw [ok.uniq y hy, e]) (wpAny_mono (hi.run pins s σ H _ I h) (fun xv sa hx => wpAny_mono hx (fun itv sb hb => ?_) fun _ _ z => z) fun _ _ z => z)
  obtain ⟨it, fp, tn, J, Hb, rfl, Ib, T, stb, fb, q⟩ := hb
  refine wpAny_newObj_type (newEnv_comp ?_) (by show 0 ≤ sizeLine; decide)
  obtain ⟨W, ⟨m0, w0⟩, turn⟩ := q sb.heap.objs.size (Ib.hok.fresh (Nat.le_refl _))
  -- the list is laid, the block is opened
  have old : ∀ b ∈ fp, b < sb.heap.objs.size := fun b hb => (T.obj _ _ stb b hb).elim fun o e => Heap.lt_size e.1
  obtain ⟨t, et⟩ : ∃ t : Shared, t = { sb with heap := sb.heap.push { cls := .type "list", data := .seq ([] : List Value).toArray } } := ⟨_, rfl⟩
  obtain ⟨G, eG⟩ : ∃ G : Hp, G = upd Hb sb.heap.objs.size (.lst []) := ⟨_, rfl⟩
  have th : t.heap = sb.heap.push { cls := .type "list", data := .seq ([] : List Value).toArray } := by rw [et]
  have It : Inv X pins σ G t := by
    rw [et, eG]
    exact Ib.laid (t' := sb.toks) (fun b o e => Heap.get?_push_of_some _ e) (Nat.le_refl _) ⟨Nat.zero_le _, [], 0, .nil, Heap.get?_push_size _ rfl⟩
  have ft : ∀ b ∈ fp, FpOk X pins G b ∧ b < t.heap.objs.size := fun b hb => by
    have lt := old b hb
    rw [eG, th, Heap.size_push]
    exact ⟨⟨by rw [upd_ne (Nat.ne_of_lt lt)]; exact (fb b hb).1, (fb b hb).2⟩, Nat.lt_succ_of_lt lt⟩
  have B : Blk X pins σ scope own fp G t := ⟨It, ft, block_start It ok hN ft⟩
  have stt : tn 0 t.heap := T.keep _ _ _ stb fun b _ o e => by rw [th]; exact Heap.get?_push_of_some _ e
  have pt := ht t G t.heap.objs.size (cellsFrom (t.heap.objs.size + 1) scope.names (cloFrom X.env.cells scope.names [])) fp (gd t G fp It ft)
  rw [← eG] at w0
  rw [← et]
  show codeAny _ _ (.compStart (.ListComp elt [⟨tg, iter, ifs, 0⟩] scope pos) 0 (.ref it) (.ref sb.heap.objs.size) (blkE X scope t)) (compPost (model X.prog X.w) X.A X.xe none (EP X pins σ Q) (.ref sb.heap.objs.size) t.heap.objs.size) { t with heap := pushCells (t.heap.push { cls := .type "dict", data := .dict #[] }) scope.names }
  have stu : tn 0 (pushCells (t.heap.push { cls := .type "dict", data := .dict #[] }) scope.names) := T.keep _ _ _ stt fun b _ o e => pushCells_keeps _ _ _ _ (Heap.get?_push_of_some _ e)
  refine (fun loop => codeAny_compStart_list loop (T.self X.A 0 _ _ _ stu loop)) ?_
  refine compLoop_any (fun n u => ∃ i K, Inv (X.blk t G scope (blkE X scope t) fp) [] (wipe σ (own.map (·.2))) K u ∧ tn i u.heap ∧ (∀ b ∈ fp, K b = none) ∧ W i n K) (fun n u hu => ?_) m0 ⟨0, G, B.open_, stu, fun b hb => (ft b hb).1.1, w0⟩
  obtain ⟨i, K, Iu, su, nu, wu⟩ := hu
  rcases turn i n K wu with ⟨stop, fin⟩ | ⟨go, Nx, nxt, step⟩
  · refine wpAny_mono (T.done (X.blk t G scope (blkE X scope t) fp) rfl rfl rfl hc i [] u _ K (fun _ _ => False) Iu (blk_foot Iu rfl nu) su stop) (fun r v hv => ?_) fun _ _ z => z.elim
    obtain ⟨rfl, Iv⟩ := hv
    obtain ⟨Ix, m, hn, f0, f1, _, f3, f4, f5⟩ := B.out Iv
    exact ⟨m, hn, fun h'' sbut => ⟨.ref _, K, Ix.turned (t' := v.toks) (fun b o hb e => (sbut.2 b hb).trans e) f0 f1 f3 f4 f5, rfl, fin⟩⟩
  · refine wpAny_mono (T.item (X.blk t G scope (blkE X scope t) fp) rfl rfl rfl hc i [] u _ K (fun _ _ => False) Iu (blk_foot Iu rfl nu) su go) (fun r v hv => ?_) fun _ _ z => z.elim
    obtain ⟨x, rfl, hv⟩ := hv
    refine wpAny_mono hv (fun _ v' hv' => ?_) fun _ _ z => z.elim
    obtain ⟨y, K1, I1, r1, y1, st1, n1⟩ := hv'
    have I1' := I1.pinned (blk_foot I1 rfl n1) (T.obj _ _ st1)
    refine wpAny_mono ((hg t G t.heap.objs.size _ fp).run _ v' _ K1 y x _ I1' r1 (step y K1 y1)) (fun _ a ha => ?_) fun _ _ z => (show False from z).elim
    obtain ⟨σa, Ka, Ia, wa, qa⟩ := ha
    refine wpAny_mono (pt.run _ a σa Ka _ Ia qa) (fun b c hcq => ?_) fun _ _ z => (show False from z).elim
    obtain ⟨Kc, Ic, qc⟩ := hcq
    have again : ∀ {d : Shared} {Kd : Hp}, Inv (X.blk t G scope (blkE X scope t) fp) ([] ++ pinsAt fp v'.heap) σa Kd d → Nx Kd → ∃ m, m < n ∧ ∃ i K, Inv (X.blk t G scope (blkE X scope t) fp) [] (wipe σ (own.map (·.2))) K d ∧ tn i d.heap ∧ (∀ b ∈ fp, K b = none) ∧ W i m K := fun {d Kd} Id nx => by
      obtain ⟨m', less, w'⟩ := nxt Kd nx
      have stay : ∀ b ∈ fp, ∀ o, v'.heap.get? b = some o → d.heap.get? b = some o ∧ Kd b = none := fun b hb o e => by
        have z := Id.pin (b, o) (List.mem_append_right _ (List.mem_append_right _ (mem_pinsAt hb e)))
        exact ⟨z.1, z.2.1⟩
      refine ⟨m', less, i + 1, Kd, (Id.unpinned (pins := [])).weak (by rw [← wa]; simp only [wipe_length]) (fun j v e => by rw [← wa] at e; exact (wipe_some e).1), T.keep _ _ _ st1 fun b hb o e => (stay b hb o e).1, fun b hb => ?_, w'⟩
      obtain ⟨o, e, _⟩ := T.obj _ _ st1 b hb
      exact (stay b hb o e).2
    cases b with
    | false => exact again Ic qc
    | true =>
      refine wpAny_mono ((he t G t.heap.objs.size _ fp).run _ c σa Kc _ Ic qc) (fun z d hd => ?_) fun _ _ z => (show False from z).elim
      obtain ⟨yv, Kd, Id, rd, acc, hD, hz, nx⟩ := hd
      exact app_ok (X := X.blk t G scope (blkE X scope t) fp) Id hD hz rd fun d' Id' => again Id' nx
end
end DD
end

section
set_option Elab.async false
set_option linter.all false
set_option maxRecDepth 100000
set_option maxHeartbeats 4000000
/-! lambdas as values that capture, called by way of a def within the block of a comprehension -/
namespace DD
open PySem L2 NdefX
section
variable {X : Cx} {pins : List (Addr × Obj)} {σ : L2.St} {H H' : Hp} {s : Shared} {cl : List (Str × Addr)} {fr : List Str} {ws : List (Option V)}
theorem cells_un {h h' : Heap} {fs : List Addr} (C : CellsAt cl fr ws h H) (u : Un fs [] H H' h h') (nf : ∀ y c, cl.lookup y = some c → c ∉ fs) : CellsAt cl fr ws h' H' := by
  have keep : ∀ y c, cl.lookup y = some c → ∀ v, h.IsCell c v → h'.IsCell c v := fun y c e v ⟨o, ho, hd⟩ => ⟨o, u.keep c o ho (C.all y c e).1 (nf y c e) (by simp), hd⟩
  refine ⟨C.len, fun y c e => ?_, C.inj, fun i y e => ?_⟩
  · obtain ⟨n, v, z⟩ := C.all y c e
    obtain ⟨o, ho, hd⟩ := z
    exact ⟨u.free c o ho n (by simp), v, keep y c e v ⟨o, ho, hd⟩⟩
  · obtain ⟨c, hc, hv⟩ := C.has i y e
    refine ⟨c, hc, fun v ev => ?_⟩
    obtain ⟨w, r, z⟩ := hv v ev
    exact ⟨w, r, keep y c hc _ z⟩
/-- a call of a lambda without parameters, what its cells hold being known -/
theorem lam0_run {f c : Addr} {q : Str} {params : Arguments} {body : Expr} {scope : Scope} {pm ct : Value} {N : List Str} {k : Nat} {Q : VK} {E : XK} {tb : TE}
    (I : Inv X pins σ H s) (hf : H f = some (LamO f (q ++ "<lambda>") params body scope cl pm c ct)) (hc : H c = some (LamX.CodeO c (q ++ "<lambda>"))) (S : NScope N [] fr scope) (ca : CellsAt cl fr ws s.heap H)
    (hbind : bindArgs (PySem.W.kla_fn "<lambda>" (q ++ "<lambda>") params body scope cl pm (.ref c) ct) ⟨[], []⟩ = pure []) (hr : Room (k + 1) X.A)
    (hbody : Room k (X.A.deeper (envF (lamNF q params scope cl c) f s.heap.objs.size)) → PE (ncx (L2.CX X.prog X.w) X.prog X.w X.K X.mg X.base N (lamNF q params scope cl c) f X.A X.stack s H E) body tb) (hq : tb (startF N [] ws) H Q) :
    codeAny (model X.prog X.w) X.A (.call (.ref f) ⟨[], []⟩) (CR (L2.CX X.prog X.w) X.stack X.prog X.w H s Q E) s := by
  obtain ⟨⟨oc, vs, tt, hoc, hdc, hvc⟩, _, _⟩ := I.hok c _ hc
  refine PySem.W.kla_callFunE hr.depth (lamO_get I hf) rfl S.co S.gen rfl ⟨c, oc, vs, tt, rfl, hoc, hdc, hvc⟩ ?_
  rw [hbind]
  refine wpAny_pure (wpAny_newFunctionEnv S.nocell (fun y hy => absurd hy (by simp)) (fun h₁ hns hsb => ⟨I.nolimit.fresh _ hsb, ?_⟩) S.kind)
  have kp : ∀ b o, s.heap.get? b = some o → h₁.get? b = some o := fun b o e => hsb.extBut b o (Nat.ne_of_lt (Heap.lt_size e)) (Heap.get?_push_of_some _ e)
  have J := inv_startN (CX := L2.CX X.prog X.w) (F := lamNF q params scope cl c) (f := f) (E := E) (ps := []) (us := []) (vs := []) (tk := s.toks + ([] : List (Str × Value)).length) S hr.hd I.env0 rfl .nil ca hns kp
  show codeAny _ _ (.expr body (envF (lamNF q params scope cl c) f s.heap.objs.size)) _ _
  refine PySem.W.kla_codeExpr (wpAny_mono ((hbody (hr.deeper _)).run [] _ _ H Q J hq) (fun v s' hq => ?_) fun e s' hq => hq)
  obtain ⟨w', H', J', rv, q'⟩ := hq
  exact ⟨w', H', J'.os, J'.bare, J'.base, J'.hok, rv, q'⟩
/-- what is known of a lambda of an outer frame -/
structure LamOkG (X : Cx) (k : Nat) (I : LamI) (cl : List (Str × Addr)) (fr : List Str) (ws : List (Option V)) (tb : XK → TE) : Prop where
  q : I.q = X.env.qual ++ "<lambda>"
  S : NScope fr [] fr I.scope
  ca : CellsAt cl fr ws X.s_0.heap X.H_0
  out : ∀ y c, cl.lookup y = some c → c ≠ X.env.locals ∧ c ∉ X.fs ∧ c ∉ X.ex
  bind : ∀ (q : Str) (cl : List (Str × Addr)) (pm cv ctv : Value), bindArgs (PySem.W.kla_fn "<lambda>" q I.params I.body I.scope cl pm cv ctv) ⟨[], []⟩ = pure []
  body : ∀ (A : Around) (outer : List Env) (s : Shared) (H : Hp) (E : XK) (f c : Addr), Room k (A.deeper (envF (lamNF X.env.qual I.params I.scope cl c) f s.heap.objs.size)) →
    PE (ncx (L2.CX X.prog X.w) X.prog X.w X.K X.mg X.base fr (lamNF X.env.qual I.params I.scope cl c) f A outer s H E) I.body (tb E)
theorem LamOkG.out' {k : Nat} {I : LamI} {tb : XK → TE} (O : LamOkG X k I cl fr ws tb) (J : Inv X pins σ H s) : ∀ y c, cl.lookup y = some c → c ∉ frs X.stack := fun y c e z => by
  rcases List.mem_cons.mp (J.stkSub _ z) with z | z
  · exact (O.out y c e).1 z
  · exact (O.out y c e).2.1 z
/-- a(), where a holds such a lambda: in the def that was called out of X's frame at s -/
theorem pe_actG {Eg : XK} {Ng : List Str} {qg : Str} {sg : Scope} {gg f c : Addr} {cdg pm ctv : Value} {I0 : LamI} {k i : Nat} {a : Str} {pn : List (Addr × Obj)} {xe : Value → Shared → Prop} {E : XK} {t : XK → TE} {p1 p2 : Pos} {CXg : CXT} {W : WX}
    (I : Inv X pins σ H s) (O : LamOkG X k I0 cl fr ws t) (ca : CellsAt cl fr ws s.heap H)
    (tk : Takes ((cxOf CXg X.prog X.w X.K X.mg X.base Ng qg sg gg cdg X.A X.stack s H Eg).tr pn xe) W) (hW : ∀ cls d σ' H', E cls d H' → W cls d σ' H') (hr : Room (k + 1) (X.A.deeper (PyProof.Rows.envOfC qg sg s.heap.objs.size gg cdg)))
    (hN : Ng[i]? = some a) (hv : Vis sg a) (hd : (a == ("__debug__" : Str)) = false) (hcd : (a == ("__classdict__" : Str)) = false) :
    PE ((cxOf CXg X.prog X.w X.K X.mg X.base Ng qg sg gg cdg X.A X.stack s H Eg).tr pn xe) (.Call (.Name a p1) [] [] p2)
      (fun σZ HZ Q => σZ[i]? = some (some (.ref f)) ∧ HZ c = some (LamX.CodeO c I0.q) ∧ (HZ f = some (LamO f I0.q I0.params I0.body I0.scope cl pm c ctv) ∧ t E (startF fr [] ws) HZ Q)) := by
  have out := O.out' I
  obtain ⟨q, params, body, scope⟩ := I0
  obtain ⟨hq, S, _, _, hbind, hbody⟩ := O
  simp only [] at hq S hbind hbody
  subst hq
  constructor
  intro pinsZ sZ σZ HZ Q IZ h
  obtain ⟨hs, hc, hf, ht⟩ := h
  have rd := (pe_var (pos := p1) (i := i) hN hv hd hcd).run pinsZ sZ σZ HZ (fun v H1 => v = .ref f ∧ H1 = HZ) IZ ⟨.ref f, hs, rfl, rfl⟩
  refine wpAny_Call_Name_kw (wpAny_mono rd (fun u s1 hu => ?_) fun _ _ z => z)
  obtain ⟨v, H1, I1, r1, ev, eH⟩ := hu
  subst ev
  rw [eH] at I1
  obtain rfl : u = Value.ref f := r1
  have of1 := lamO_get I1 hf
  refine PySem.W.callWith_F0 ⟨_, _, _, _, of1⟩ ?_
  have un : Un (frs X.stack) [] H HZ s.heap s1.heap := I1.base
  have rc := lam0_run (N := fr) I1 hf hc S (cells_un ca un out) (hbind _ _ _ _ _) hr (fun hr' => hbody _ _ s1 HZ E f c hr') ht
  have hx := passes_call tk hW
  refine wpAny_call (codeAny_mono rc fun r s' hq => ?_)
  match r, hq with
  | .error e, hq => exact hx pinsZ σZ HZ s1 e s' I1 hq
  | .ok (.ret u), hq => exact I1.after hq
  | .ok .next, hq => exact False.elim hq
  | .ok .brk, hq => exact False.elim hq
  | .ok .cont, hq => exact False.elim hq
/-- x(e), where e gives such a lambda and x calls it -/
theorem pe_toldG {TT : (XK → Hp → VK → Prop) → Hp → VK → Prop} {x a : Str} {gg : Addr} {k : Nat} {pg : Arguments} {bg : List Stmt} {sg : Scope} {dV kV doc pm0 cdv ct0 oc : Value} {an od : Option Addr} {osl : Array (Option Value)} {Ng : List Str} {e : Expr} {ta : TA} {p pos : Pos}
    (hg : Gl X x) (hm : X.mg x = some (.ref gg)) (hk : PySem.W.keepIn X.K (.ref gg) = true) (lk : X.K.lookup gg = some ⟨oc, od, .func (PySem.W.fnOf x x pg bg sg dV kV doc pm0 an cdv ct0), osl⟩) (hcg : PySem.W.codeIn X.K cdv x = true)
    (hb : L2.Binds X.K (PySem.W.fnOf x x pg bg sg dV kV doc pm0 an cdv ct0) [a] []) (Sg : FnScope Ng [a] sg) (hNg : Ng[0]? = some a) (hva : Vis sg a) (hG : LamX.GivesTo X Ng x sg gg cdv bg a (X.env.qual ++ "<lambda>") TT) (hr : Room (k + 2) X.A) (ha : PA X [e] ta)
    (hs : starEach [e] X.env = (false, eval e X.env) :: starEach [] X.env) (hpl : (backTo pos (starEach [] X.env)).any (·.1) = false) (hdb : (x == ("__debug__" : Str)) = false) (hd : (a == ("__debug__" : Str)) = false) (hcd : (a == ("__classdict__" : Str)) = false) :
    PE X (.Call (.Name x p) [e] [] pos) (fun σ H Q => ta σ H fun vs H1 => ∃ (f c : Addr) (pm ct : Value) (I0 : LamI) (cl : List (Str × Addr)) (fr : List Str) (ws : List (Option V)) (t : XK → TE), vs = [.ref f] ∧ LamOkG X k I0 cl fr ws t ∧ LamAt H1 I0 cl f c pm ct ∧
      TT (fun E H' Q' => H' f = some (LamO f I0.q I0.params I0.body I0.scope cl pm c ct) ∧ t E (startF fr [] ws) H' Q') H1 Q) := by
  constructor
  intro pins s σ H Q I h
  have args := ha.run pos pins s σ H _ I h
  refine wpAny_Call_Name_kw (ld_glob I hg hm ?_ hdb)
  refine PySem.W.callWith_K (h₀ := X.base) I.ok.mod.kin hk (wpAny_mono args (fun us s1 hu => ?_) fun _ _ z => z) hs hpl
  obtain ⟨vs, H1, I1, rv, f, c, pm, ct, I0, cl, fr, ws, t, ev, O, ⟨at1, at2⟩, q⟩ := hu
  subst ev
  obtain ⟨u, rfl⟩ : ∃ u, us = [u] := by
    cases rv with
    | cons r1 r2 =>
      cases r2
      exact ⟨_, rfl⟩
  have ru : u = Value.ref f := by
    cases rv with
    | cons r1 r2 => exact r1
  subst ru
  refine ⟨I1.kIn, ?_⟩
  have ca : CellsAt cl fr ws s1.heap H1 := O.ca.later (fun y c e => (O.out y c e).2.1) (fun y c e => (O.out y c e).2.2) I1
  have rc : codeAny (model X.prog X.w) X.A (.call (.ref gg) ⟨[.ref f], []⟩) (CR C8.CX0 X.stack X.prog X.w H1 s1 Q C8.E0) s1 := by
    refine LamX.run_ofS (N := Ng) (ps := [a]) (us := [.ref f]) (vs := [.ref f]) lk hcg Sg hr I1.env0 (hb s1 [.ref f] I1.kIn rfl) (.cons rfl .nil) rfl fun hr' => ?_
    have hq := O.q
    rw [hq] at at2
    obtain ⟨t', ht', hq'⟩ := hG f c s1 H1 Q (fun E H' Q' => H' f = some (LamO f I0.q I0.params I0.body I0.scope cl pm c ct) ∧ t E (startF fr [] ws) H' Q') (fun W pn xe E p1 p2 tk hW => by
      have act := pe_actG (W := W) (f := f) (c := c) (pm := pm) (ctv := ct) (i := 0) (p1 := p1) (p2 := p2) I1 O ca tk hW hr' hNg hva hd hcd
      rw [hq] at act ⊢
      exact act) at2 q
    exact ⟨t', ht'.nox, hq'⟩
  refine wpAny_call (codeAny_mono rc fun r s2 hq => ?_)
  match r, hq with
  | .error e, hq => exact (show False from hq).elim
  | .ok (.ret u), hq => exact I1.after hq
  | .ok .next, hq => exact False.elim hq
  | .ok .brk, hq => exact False.elim hq
  | .ok .cont, hq => exact False.elim hq
end
end DD
end

section
set_option Elab.async false
set_option linter.all false
set_option maxRecDepth 100000
set_option maxHeartbeats 4000000
namespace DD
open PySem L2 NdefX
/-- x(e) where x tells and e gives the lambda of some number, which captured the slots jf of the frame -/
def toldGM (c : Nat → Option Bool) (ret : Str) (jf : Nat → List Nat) (ms : Nat → EM) (mf : EM) : EM := fun τ h => (mf τ h).bind fun d h1 => match d with
  | .ref l => (match h1[l]? with
    | some (.lam i) => toldM c ret (fun _ h0 => ms i ((jf i).map fun j => (τ[j]?).join) h0) τ h1
    | _ => .bad)
  | _ => .bad
def slotsEq (g : G) (jf : Nat → List Nat) (wf : Nat → List (Option V)) (σ : L2.St) : Prop := ∀ i I0, g.L i = some I0 → (jf i).map (slotAt σ) = wf i
section
variable {X : Cx} {g : G} {W : WX}
theorem slots_den {α : List Addr} {H : Hp} {τ : SL} {σ : L2.St} (d : DenS g α H τ σ) : ∀ js : List Nat, DenS g α H (js.map fun j => (τ[j]?).join) (js.map (slotAt σ)) := fun js => by
  refine ⟨by simp, fun i y q => ?_⟩
  simp only [List.getElem?_map] at q ⊢
  cases ej : js[i]? with
  | none => rw [ej] at q; cases q
  | some j =>
    rw [ej] at q
    have q : (τ[j]?).join = some y := Option.some.inj q
    have q2 : τ[j]? = some (some y) := by
      cases et : τ[j]? with
      | none => rw [et] at q; cases q
      | some z => rw [et] at q; rw [show z = some y from q]
    obtain ⟨v, h1, h2⟩ := d.at_ j y q2
    exact ⟨v, by simp [slotAt_of h1], h2⟩
theorem de_toldG {x a e' : Str} {fg CS : Addr} {k : Nat} {pg : Arguments} {sg : Scope} {dV kV doc pm cdv ct oc : Value} {an od : Option Addr} {osl : Array (Option Value)} {Ng : List Str} {e : Expr} {me : EM} {ms : Nat → EM} {p pos : Pos}
    {ret : Str} {ci : Nat → Option Bool} {j : Nat} {p1 p2 p3 p4 p5 p6 p7 p8 : Pos} {jf : Nat → List Nat} {frf : Nat → List Str} {wf : Nat → List (Option V)}
    (hcl : ∀ i b, ci i = some b → PySem.W.exmOne X.K (.ref (g.cl i)) (.ref CS) = some b)
    (hge : sg.names.lookup e' = some .globalImplicit) (hme : X.mg e' = some (.ref CS)) (hde : (e' == ("__debug__" : Str)) = false) (h0 : ∀ f : Addr, (L2.start Ng [V.ref f])[0]? = some (some (V.ref f)))
    (hg : Gl X x) (hm : X.mg x = some (.ref fg)) (hk : PySem.W.keepIn X.K (.ref fg) = true)
    (lk : X.K.lookup fg = some ⟨oc, od, .func (PySem.W.fnOf x x pg [.Try [.Return (some (.Call (.Name a p1) [] [] p2)) p3] [.ExceptHandler (some (.Name e' p4)) none [.Return (some (.Constant (.str ret) j p5)) p6] p7] [] [] p8] sg dV kV doc pm an cdv ct), osl⟩) (hcg : PySem.W.codeIn X.K cdv x = true)
    (hb : L2.Binds X.K (PySem.W.fnOf x x pg [.Try [.Return (some (.Call (.Name a p1) [] [] p2)) p3] [.ExceptHandler (some (.Name e' p4)) none [.Return (some (.Constant (.str ret) j p5)) p6] p7] [] [] p8] sg dV kV doc pm an cdv ct) [a] []) (Sg : FnScope Ng [a] sg) (hNg : Ng[0]? = some a) (hva : Vis sg a)
    (hr : Room (k + 2) X.A) (he : PE X e (tE g W me)) (fam : ∀ i I0, g.L i = some I0 → LamOkG X k I0 (g.C i) (frf i) (wf i) (fun E => tE g (fun cls d _ H => E cls d H) (ms i)))
    (hs : starEach [e] X.env = (false, eval e X.env) :: starEach [] X.env := by rfl) (hpl : (backTo pos (starEach [] X.env)).any (·.1) = false := by rfl)
    (hdb : (x == ("__debug__" : Str)) = false := by decide) (hd : (a == ("__debug__" : Str)) = false := by decide) (hcd : (a == ("__classdict__" : Str)) = false := by decide) :
    PE X (.Call (.Name x p) [e] [] pos) (fun σ H Q => slotsEq g jf wf σ ∧ tE g W (toldGM ci ret jf ms me) σ H Q) := by
  refine PE.imp (pe_toldG hg hm hk lk hcg hb Sg hNg hva (LamX.told_gives hge hme hde h0) hr (pa_cons he pa_nil hs) hs hpl hdb hd hcd) fun σ H Q q => ?_
  obtain ⟨se, α, h, τ, R, s, q⟩ := q
  refine ⟨α, h, τ, R, s, PostE.imp (PostE.bind q) ?_⟩
  rintro v H1 ⟨α1, d, h1, E1, R1, D1, p1⟩
  cases D1 <;> try exact False.elim p1
  rename_i l f hl
  simp only [] at p1
  split at p1
  · rename_i i ei
    obtain ⟨I0, pm', c, ct', hL, at1, at2⟩ := R1.ob _ _ _ ei hl
    have O := fam i I0 hL
    have sl : startF (frf i) [] (wf i) = (jf i).map (slotAt σ) := by
      have z := O.ca.len
      unfold startF
      rw [show (frf i).length - ([] : List V).length - (wf i).length = 0 by rw [z]; simp]
      simp [se i I0 hL]
    refine ⟨f, c, pm', ct', I0, _, _, _, _, rfl, O, ⟨at1, at2⟩, at1, α1, h1, (jf i).map fun j => (τ[j]?).join, R1, by rw [sl]; exact slots_den (s.ext E1) _, ?_⟩
    unfold toldM at p1
    simp only [] at p1
    cases em : ms i ((jf i).map fun j => (τ[j]?).join) h1 with
    | ok d h' => rw [em] at p1; exact p1
    | exc n h' =>
      rw [em] at p1
      simp only at p1
      split at p1
      · rename_i hc
        intro α' H' e2 R'
        exact ⟨true, hcl n true hc, fun _ => p1 α' H' _ e2 R' (.str _), fun z => by cases z⟩
      · exact p1.elim
    | bad => rw [em] at p1; exact p1.elim
  · exact p1.elim
theorem dt_cmpG {op : CmpOp} {r : R2} {f : D → D → AH → EO} {ma mb : EM} {a b : Expr} {pos : Pos} {Gs : L2.St → Prop} (ho : OpR X (compareOp op) r) (rs : RS2 g W r f) (ha : PE X a (fun σ H Q => Gs σ ∧ tE g W ma σ H Q)) (hb : PE X b (tE g W mb)) (hm : behindInMarks op b = false) :
    PT X (.Compare a [op] [b] pos) (fun σ H Q => Gs σ ∧ tT g W (binM ma mb f) σ H Q) :=
  PT.imp (pt_cmpR ho ha hb hm) fun _ _ _ p => ⟨p.1, tE_bin rs p.2⟩
theorem slotAt_wipe {σ σ2 : L2.St} {vs : List Nat} (h : wipe σ2 vs = wipe σ vs) {j : Nat} (hj : j ∉ vs) : slotAt σ2 j = slotAt σ j := by
  have e : σ2[j]? = σ[j]? := by rw [← wipe_out (σ := σ2) hj, ← wipe_out (σ := σ) hj, h]
  unfold NdefX.slotAt
  rw [e]
/-- [elt for x in list if test], where the test leans on the frame's cells -/
theorem de_lcG {i : Nat} {x : Str} {elt iter test : Expr} {scope : Scope} {px pos : Pos} {ma me mc : EM} {jf : Nat → List Nat} {frf : Nat → List Str} (hK : g.K = X.K) (hc : X.calm = true) (hN : X.N.Nodup) (hi : PE X iter (tE g W0 ma)) (ok : BlkOk X.N X.env.scope scope [(x, i)])
    (hg : ∀ (s : Shared) (H : Hp) (C : Addr) (cl : List (Str × Addr)) (fp : List Addr), PG (X.blk s H scope (compEnvC scope cl C X.env) fp) (.Name x px) (gName i))
    (ht : ∀ (s : Shared) (H : Hp) (C : Addr) (cl : List (Str × Addr)) (fp : List Addr) (wf : Nat → List (Option V)), (∀ j I0, g.L j = some I0 → CellsAt (g.C j) (frf j) (wf j) s.heap H ∧ ∀ y c, (g.C j).lookup y = some c → c ≠ C ∧ c ∉ frs X.stack ∧ c ∉ fp) →
      PT (X.blk s H scope (compEnvC scope cl C X.env) fp) test (fun σ H Q => slotsEq g jf wf σ ∧ tT g W0 mc σ H Q))
    (he : ∀ (s : Shared) (H : Hp) (C : Addr) (cl : List (Str × Addr)) (fp : List Addr), PE (X.blk s H scope (compEnvC scope cl C X.env) fp) elt (tE g W0 me))
    (hcap : ∀ j I0, g.L j = some I0 → g.C j = cloFrom X.env.cells I0.scope.names [] ∧ (∀ y ∈ I0.scope.names, y.2 = .free → X.env.scope.names.lookup y.1 = some .cell ∨ X.env.scope.names.lookup y.1 = some .free) ∧ (∀ y ∈ frf j, (y, NameKind.free) ∈ I0.scope.names) ∧ (jf j).map (fun k => X.N[k]?) = (frf j).map some ∧ ∀ k ∈ jf j, k ≠ i)
    (habove : ∀ y c, X.env.cells.lookup y = some c → X.env.locals < c) (hs : ∀ v, foldedSetIterable iter X.env v = pure v := by intro _; rfl) :
    PE X (.ListComp elt [⟨.Name x px, iter, [test], 0⟩] scope pos) (tE g W (lcQ ma lstIt (nameG i) (some mc) me [i])) := by
  constructor
  intro pins s σ H Q I q
  have q1 := tE_lc (it_lst (W := W0) (ma := ma) hK) (fun _ => rg_name) goes_name (own := [(x, i)]) (own_name (by simp)) q
  have wfd : ∀ (t : Shared) (G : Hp), Inv X pins σ G t → ∀ j I0, g.L j = some I0 → CellsAt (g.C j) (frf j) ((jf j).map (slotAt σ)) t.heap G := fun t G It j I0 hL => by
    obtain ⟨e1, e2, e3, e4, _⟩ := hcap j I0 hL
    rw [e1]
    exact cells_of It (Caps.made It.ok e2 e3 e4)
  refine lc_guard (Gd := fun t G C fp => ∀ j I0, g.L j = some I0 → CellsAt (g.C j) (frf j) ((jf j).map (slotAt σ)) t.heap G ∧ ∀ y c, (g.C j).lookup y = some c → c ≠ C ∧ c ∉ frs X.stack ∧ c ∉ fp) (tt := fun σ2 H2 k => slotsEq g jf (fun j => (jf j).map (slotAt σ)) σ2 ∧ tT g W0 mc σ2 H2 k) hc hN (pi_list hi) ok hg (fun t G C cl fp gd => pts_one (ht t G C cl fp _ gd)) he (fun t G fp It ft j I0 hL => ⟨wfd t G It j I0 hL, fun y c e => ?_⟩) I ?_ hs
  · obtain ⟨e1, e2, _⟩ := hcap j I0 hL
    have up : X.env.cells.lookup y = some c := by
      rw [e1] at e
      exact clo_cm (fun y hy e => (e2 y hy e).elim (fun z => It.ok.has _ (.inl z)) fun z => It.ok.has _ (.inr z)) e
    refine ⟨fun z => ?_, fun z => ?_, fun z => ?_⟩
    · obtain ⟨v, o, ho, _⟩ := It.cell y c up
      rw [z] at ho
      exact absurd (Heap.lt_size ho) (Nat.lt_irrefl _)
    · rcases List.mem_cons.mp (It.stkSub _ z) with z | z
      · exact It.cne y c up z
      · obtain ⟨_, o, ho, _⟩ := PySem.Heap.FunFrames.mem It.ok.funs z
        have l1 := Heap.lt_size ho
        have l2 := It.ok.above
        have l3 := habove y c up
        exact absurd (Nat.lt_of_lt_of_le l1 (Nat.le_trans l2 (Nat.le_of_lt l3))) (Nat.lt_irrefl _)
    · exact (ft c z).1.2.2.2.2.1 y c up rfl
  · unfold tLc at q1 ⊢
    unfold iList at q1 ⊢
    obtain ⟨α, h, τ, R, sl, q2⟩ := q1
    refine ⟨α, h, τ, R, sl, PostE.imp q2 fun v H1 hv => ?_⟩
    obtain ⟨b, eb, hx, k⟩ := hv
    refine ⟨b, eb, hx, fun D hD => ?_⟩
    obtain ⟨Wm, w0, w1⟩ := k D hD
    refine ⟨Wm, w0, fun n m H2 hw => ?_⟩
    rcases w1 n m H2 hw with a | ⟨a, Nx, b1, b2⟩
    · exact .inl a
    · refine .inr ⟨a, Nx, b1, fun y H3 hy => ?_⟩
      have b3 : wipe ((wipe σ [i]).set i (some y)) [i] = wipe σ [i] ∧ _ := b2 y H3 hy
      refine (show wipe ((wipe σ [i]).set i (some y)) [i] = wipe σ [i] ∧ _ from ⟨b3.1, fun j I0 hL => ?_, b3.2⟩)
      obtain ⟨_, _, _, _, e5⟩ := hcap j I0 hL
      refine List.map_congr_left fun k hk => slotAt_wipe b3.1 (by simpa using e5 k hk)
end
end DD
end

section
set_option Elab.async false
set_option linter.all false
set_option maxRecDepth 100000
namespace DD
open PySem L2
theorem cells_above {L : Addr} : ∀ (names : List (Str × NameKind)) (n : Nat) (acc : List (Str × Addr)), L < n → (∀ y c, acc.lookup y = some c → L < c) → ∀ y c, (cellsFrom n names acc).lookup y = some c → L < c
  | [], _, _, _, h, y, c, e => h y c e
  | (x, k) :: r, n, acc, hn, h, y, c, e => by
    unfold cellsFrom at e
    split at e
    · refine cells_above r (n + 1) _ (Nat.lt_succ_of_lt hn) (fun z d q => ?_) y c e
      simp only [List.lookup] at q
      split at q
      · cases q; exact hn
      · exact h z d q
    · exact cells_above r n acc hn h y c e
theorem env_above {q : Str} {sc : Scope} {L a : Addr} {cd : Value} : ∀ y c, (PyProof.Rows.envOfC q sc L a cd).cells.lookup y = some c → (PyProof.Rows.envOfC q sc L a cd).locals < c :=
  cells_above sc.names (L + 1) [] (Nat.lt_succ_self _) (fun _ _ e => by cases e)
end DD
end

section
set_option Elab.async false
set_option linter.all false
set_option maxRecDepth 100000
set_option maxHeartbeats 0
namespace K23
open PySem L2 DD
def top (i : Nat) : Stmt := PySem.Challenge.pw_shardstack_k23_shares_by_weight.main.body.getD i (.Pass ⟨0, 0, 0, 0⟩)
abbrev s_Tenant_init : Stmt := inClass (top 6) 0
abbrev s_Shares_init : Stmt := inClass (top 7) 0
abbrev s_Shares_add : Stmt := inClass (top 7) 1
abbrev s_Shares_put : Stmt := inClass (top 7) 2
abbrev s_Shares_next_work : Stmt := inClass (top 7) 3
abbrev s__law_dice : Stmt := top 9
abbrev s__law_roll : Stmt := top 10
abbrev s__law_rounds : Stmt := top 11
abbrev s__law_told : Stmt := top 12
abbrev s_law : Stmt := top 13
def dd_Tenant_init : He.DefD := ⟨("Tenant", some "__init__"), "__init__", "Tenant.__init__", defArgs s_Tenant_init, defBody s_Tenant_init, defScope s_Tenant_init, [], []⟩
def dd_Shares_init : He.DefD := ⟨("Shares", some "__init__"), "__init__", "Shares.__init__", defArgs s_Shares_init, defBody s_Shares_init, defScope s_Shares_init, [], []⟩
def dd_Shares_add : He.DefD := ⟨("Shares", some "add"), "add", "Shares.add", defArgs s_Shares_add, defBody s_Shares_add, defScope s_Shares_add, [], []⟩
def dd_Shares_put : He.DefD := ⟨("Shares", some "put"), "put", "Shares.put", defArgs s_Shares_put, defBody s_Shares_put, defScope s_Shares_put, [], []⟩
def dd_Shares_next_work : He.DefD := ⟨("Shares", some "next_work"), "next_work", "Shares.next_work", defArgs s_Shares_next_work, defBody s_Shares_next_work, defScope s_Shares_next_work, [], []⟩
def dd__law_dice : He.DefD := ⟨("_law_dice", none), "_law_dice", "_law_dice", defArgs s__law_dice, defBody s__law_dice, defScope s__law_dice, [], []⟩
def dd__law_roll : He.DefD := ⟨("_law_roll", none), "_law_roll", "_law_roll", defArgs s__law_roll, defBody s__law_roll, defScope s__law_roll, [], []⟩
def dd__law_rounds : He.DefD := ⟨("_law_rounds", none), "_law_rounds", "_law_rounds", defArgs s__law_rounds, defBody s__law_rounds, defScope s__law_rounds, [], []⟩
def dd__law_told : He.DefD := ⟨("_law_told", none), "_law_told", "_law_told", defArgs s__law_told, defBody s__law_told, defScope s__law_told, [], []⟩
def dd_law : He.DefD := ⟨("law", none), "law", "law", defArgs s_law, defBody s_law, defScope s_law, [], []⟩
def ci_QueueError : Nat → Option Bool
  | 0 => some true
  | _ => none
def cs_point : List Nat := [1, 2]
def cs_tenants : List Nat := [2]
def cs_waits : List Nat := [1]
def cs_weight : List Nat := [1]
def fn : List He.DefD := [dd_Tenant_init, dd_Shares_init, dd_Shares_add, dd_Shares_put, dd_Shares_next_work, dd__law_dice, dd__law_roll, dd__law_rounds, dd__law_told, dd_law]
def fa : List He.Fa := [.mkr "Tenant",
  .mkr "Shares",
  .meth "Shares" "add",
  .meth "Shares" "put",
  .meth "Shares" "next_work",
  .glo "_law_dice",
  .glo "_law_roll",
  .glo "_law_rounds",
  .glo "_law_told",
  .glo "law",
  .int "MOST_WEIGHT" 10,
  .int "POINTS" 5040,
  .free "abs",
  .free "int",
  .free "len",
  .free "list",
  .free "max",
  .free "min",
  .free "range",
  .glo "QueueError",
  .exc "QueueError",
  .exm "QueueError" "QueueError" true,
  .glo "Tenant",
  .cls "Tenant",
  .glo "Shares",
  .cls "Shares",
  .noat "Tenant" "point",
  .noat "Shares" "point",
  .noat "Shares" "tenants",
  .noat "Tenant" "waits",
  .noat "Tenant" "weight"]
def lams : List (Str × Option Str) := [("Shares", some "next_work"), ("law", none)]
def lam0 : LamI := lamI (("law" : Str) ++ ".<locals>." ++ "<lambda>") (lamAt (defBody s_law) 3 [] [0])
def lam1 : LamI := lamI (("law" : Str) ++ ".<locals>." ++ "<lambda>") (lamAt (defBody s_law) 3 [] [1])
def lam2 : LamI := lamI (("law" : Str) ++ ".<locals>." ++ "<lambda>") (lamAt (defBody s_law) 3 [] [2])
def lam3 : LamI := lamI (("law" : Str) ++ ".<locals>." ++ "<lambda>") (lamAt (defBody s_law) 3 [] [3])
def lam4 : LamI := lamI (("law" : Str) ++ ".<locals>." ++ "<lambda>") (lamAt (defBody s_law) 3 [] [4])
def lamN : Nat → Option LamI
  | 0 => some lam0
  | 1 => some lam1
  | 2 => some lam2
  | 3 => some lam3
  | 4 => some lam4
  | _ => none
def ccLaw (L : Addr) : Nat → List (Str × Addr) := fun i => match lamN i with
  | some I => cloFrom (cellsFrom (L + 1) (defScope s_law).names []) I.scope.names []
  | none => []
def gg (K : PySem.W.Frag) (cc : Nat → List (Str × Addr)) : G := ⟨K, fun i => match i with
  | 0 => He.ga K "QueueError"
  | 1 => He.ga K "Tenant"
  | 2 => He.ga K "Shares"
  | _ => 0, [(tabA K ("Shares", some "next_work"), ("Shares.next_work" : Str) ++ ".<locals>." ++ "<lambda>"), (tabA K ("law", none), ("law" : Str) ++ ".<locals>." ++ "<lambda>")], lamN, cc⟩
/-- what the head has written -/
structure Cnd (K : PySem.W.Frag) (mg : Str → Option Value) (base : Heap) : Prop where
  c : He.SaysD fa fn K
  X : K.In base
  G : base.Ns mainGlobals mg
  tb : ∀ p ∈ lams, LamX.TabB base mg (codeA K p) (tabA K p)
  cd : ∀ p ∈ lams, ∀ x y par body sc dvs kws fd, FunD K x y par body sc dvs kws (He.fAd K p) fd → fd.code = .ref (codeA K p)
  nd : (lams.map (tabA K)).Nodup
section
variable {P : Program} {w : World} {K : PySem.W.Frag} {mg : Str → Option Value} {base : Heap} {cc : Nat → List (Str × Addr)}
theorem Cnd.def_Tenant_init (C : Cnd K mg base) : FunD K "__init__" "Tenant.__init__" (defArgs s_Tenant_init) (defBody s_Tenant_init) (defScope s_Tenant_init) [] [] (He.fAd K ("Tenant", some "__init__")) (fdA K ("Tenant", some "__init__")) := fdA_ok (C.c.def_ 0 (d := dd_Tenant_init) rfl)
theorem Cnd.b_Tenant_init (C : Cnd K mg base) : Binds K (fdA K ("Tenant", some "__init__")) ["self", "weight"] [] := C.def_Tenant_init.bindsN fun _ _ _ _ _ _ us hl => match us, hl with | [_, _], _ => rfl
theorem Cnd.kp_Tenant_init (C : Cnd K mg base) : PySem.W.keepIn K (.ref (He.fAd K ("Tenant", some "__init__"))) = true := C.def_Tenant_init.kp
theorem Cnd.mk_Tenant (C : Cnd K mg base) : Mk K ((gg K cc).cl 1) (He.fAd K ("Tenant", some "__init__")) := He.mkr_ok (C.c.fact 0 (f := .mkr "Tenant") rfl)
theorem Cnd.def_Shares_init (C : Cnd K mg base) : FunD K "__init__" "Shares.__init__" (defArgs s_Shares_init) (defBody s_Shares_init) (defScope s_Shares_init) [] [] (He.fAd K ("Shares", some "__init__")) (fdA K ("Shares", some "__init__")) := fdA_ok (C.c.def_ 1 (d := dd_Shares_init) rfl)
theorem Cnd.b_Shares_init (C : Cnd K mg base) : Binds K (fdA K ("Shares", some "__init__")) ["self"] [] := C.def_Shares_init.bindsN fun _ _ _ _ _ _ us hl => match us, hl with | [_], _ => rfl
theorem Cnd.kp_Shares_init (C : Cnd K mg base) : PySem.W.keepIn K (.ref (He.fAd K ("Shares", some "__init__"))) = true := C.def_Shares_init.kp
theorem Cnd.mk_Shares (C : Cnd K mg base) : Mk K ((gg K cc).cl 2) (He.fAd K ("Shares", some "__init__")) := He.mkr_ok (C.c.fact 1 (f := .mkr "Shares") rfl)
theorem Cnd.def_Shares_add (C : Cnd K mg base) : FunD K "add" "Shares.add" (defArgs s_Shares_add) (defBody s_Shares_add) (defScope s_Shares_add) [] [] (He.fAd K ("Shares", some "add")) (fdA K ("Shares", some "add")) := fdA_ok (C.c.def_ 2 (d := dd_Shares_add) rfl)
theorem Cnd.b_Shares_add (C : Cnd K mg base) : Binds K (fdA K ("Shares", some "add")) ["self", "name", "weight"] [] := C.def_Shares_add.bindsN fun _ _ _ _ _ _ us hl => match us, hl with | [_, _, _], _ => rfl
theorem Cnd.kp_Shares_add (C : Cnd K mg base) : PySem.W.keepIn K (.ref (He.fAd K ("Shares", some "add"))) = true := C.def_Shares_add.kp
theorem Cnd.me_Shares_add (C : Cnd K mg base) : Meth K ((gg K cc).cl 2) "add" (He.fAd K ("Shares", some "add")) := He.meth_ok (C.c.fact 2 (f := .meth "Shares" "add") rfl)
theorem Cnd.def_Shares_put (C : Cnd K mg base) : FunD K "put" "Shares.put" (defArgs s_Shares_put) (defBody s_Shares_put) (defScope s_Shares_put) [] [] (He.fAd K ("Shares", some "put")) (fdA K ("Shares", some "put")) := fdA_ok (C.c.def_ 3 (d := dd_Shares_put) rfl)
theorem Cnd.b_Shares_put (C : Cnd K mg base) : Binds K (fdA K ("Shares", some "put")) ["self", "name", "size", "body"] [] := C.def_Shares_put.bindsN fun _ _ _ _ _ _ us hl => match us, hl with | [_, _, _, _], _ => rfl
theorem Cnd.kp_Shares_put (C : Cnd K mg base) : PySem.W.keepIn K (.ref (He.fAd K ("Shares", some "put"))) = true := C.def_Shares_put.kp
theorem Cnd.me_Shares_put (C : Cnd K mg base) : Meth K ((gg K cc).cl 2) "put" (He.fAd K ("Shares", some "put")) := He.meth_ok (C.c.fact 3 (f := .meth "Shares" "put") rfl)
theorem Cnd.def_Shares_next_work (C : Cnd K mg base) : FunD K "next_work" "Shares.next_work" (defArgs s_Shares_next_work) (defBody s_Shares_next_work) (defScope s_Shares_next_work) [] [] (He.fAd K ("Shares", some "next_work")) (fdA K ("Shares", some "next_work")) := fdA_ok (C.c.def_ 4 (d := dd_Shares_next_work) rfl)
theorem Cnd.b_Shares_next_work (C : Cnd K mg base) : Binds K (fdA K ("Shares", some "next_work")) ["self"] [] := C.def_Shares_next_work.bindsN fun _ _ _ _ _ _ us hl => match us, hl with | [_], _ => rfl
theorem Cnd.kp_Shares_next_work (C : Cnd K mg base) : PySem.W.keepIn K (.ref (He.fAd K ("Shares", some "next_work"))) = true := C.def_Shares_next_work.kp
theorem Cnd.me_Shares_next_work (C : Cnd K mg base) : Meth K ((gg K cc).cl 2) "next_work" (He.fAd K ("Shares", some "next_work")) := He.meth_ok (C.c.fact 4 (f := .meth "Shares" "next_work") rfl)
theorem Cnd.def__law_dice (C : Cnd K mg base) : FunD K "_law_dice" "_law_dice" (defArgs s__law_dice) (defBody s__law_dice) (defScope s__law_dice) [] [] (He.fAd K ("_law_dice", none)) (fdA K ("_law_dice", none)) := fdA_ok (C.c.def_ 5 (d := dd__law_dice) rfl)
theorem Cnd.b__law_dice (C : Cnd K mg base) : Binds K (fdA K ("_law_dice", none)) ["cell"] [] := C.def__law_dice.bindsN fun _ _ _ _ _ _ us hl => match us, hl with | [_], _ => rfl
theorem Cnd.kp__law_dice (C : Cnd K mg base) : PySem.W.keepIn K (.ref (He.fAd K ("_law_dice", none))) = true := C.def__law_dice.kp
theorem Cnd.gl__law_dice (C : Cnd K mg base) : mg "_law_dice" = some (.ref (He.fAd K ("_law_dice", none))) := He.glo_ok C.X C.G (C.c.fact 5 (f := .glo "_law_dice") rfl)
theorem Cnd.def__law_roll (C : Cnd K mg base) : FunD K "_law_roll" "_law_roll" (defArgs s__law_roll) (defBody s__law_roll) (defScope s__law_roll) [] [] (He.fAd K ("_law_roll", none)) (fdA K ("_law_roll", none)) := fdA_ok (C.c.def_ 6 (d := dd__law_roll) rfl)
theorem Cnd.b__law_roll (C : Cnd K mg base) : Binds K (fdA K ("_law_roll", none)) ["dice", "many"] [] := C.def__law_roll.bindsN fun _ _ _ _ _ _ us hl => match us, hl with | [_, _], _ => rfl
theorem Cnd.kp__law_roll (C : Cnd K mg base) : PySem.W.keepIn K (.ref (He.fAd K ("_law_roll", none))) = true := C.def__law_roll.kp
theorem Cnd.gl__law_roll (C : Cnd K mg base) : mg "_law_roll" = some (.ref (He.fAd K ("_law_roll", none))) := He.glo_ok C.X C.G (C.c.fact 6 (f := .glo "_law_roll") rfl)
theorem Cnd.def__law_rounds (C : Cnd K mg base) : FunD K "_law_rounds" "_law_rounds" (defArgs s__law_rounds) (defBody s__law_rounds) (defScope s__law_rounds) [] [] (He.fAd K ("_law_rounds", none)) (fdA K ("_law_rounds", none)) := fdA_ok (C.c.def_ 7 (d := dd__law_rounds) rfl)
theorem Cnd.b__law_rounds (C : Cnd K mg base) : Binds K (fdA K ("_law_rounds", none)) ["script", "most"] [] := C.def__law_rounds.bindsN fun _ _ _ _ _ _ us hl => match us, hl with | [_, _], _ => rfl
theorem Cnd.kp__law_rounds (C : Cnd K mg base) : PySem.W.keepIn K (.ref (He.fAd K ("_law_rounds", none))) = true := C.def__law_rounds.kp
theorem Cnd.gl__law_rounds (C : Cnd K mg base) : mg "_law_rounds" = some (.ref (He.fAd K ("_law_rounds", none))) := He.glo_ok C.X C.G (C.c.fact 7 (f := .glo "_law_rounds") rfl)
theorem Cnd.def__law_told (C : Cnd K mg base) : FunD K "_law_told" "_law_told" (defArgs s__law_told) (defBody s__law_told) (defScope s__law_told) [] [] (He.fAd K ("_law_told", none)) (fdA K ("_law_told", none)) := fdA_ok (C.c.def_ 8 (d := dd__law_told) rfl)
theorem Cnd.b__law_told (C : Cnd K mg base) : Binds K (fdA K ("_law_told", none)) ["what"] [] := C.def__law_told.bindsN fun _ _ _ _ _ _ us hl => match us, hl with | [_], _ => rfl
theorem Cnd.kp__law_told (C : Cnd K mg base) : PySem.W.keepIn K (.ref (He.fAd K ("_law_told", none))) = true := C.def__law_told.kp
theorem Cnd.gl__law_told (C : Cnd K mg base) : mg "_law_told" = some (.ref (He.fAd K ("_law_told", none))) := He.glo_ok C.X C.G (C.c.fact 8 (f := .glo "_law_told") rfl)
theorem Cnd.def_law (C : Cnd K mg base) : FunD K "law" "law" (defArgs s_law) (defBody s_law) (defScope s_law) [] [] (He.fAd K ("law", none)) (fdA K ("law", none)) := fdA_ok (C.c.def_ 9 (d := dd_law) rfl)
theorem Cnd.b_law (C : Cnd K mg base) : Binds K (fdA K ("law", none)) ["script"] [] := C.def_law.bindsN fun _ _ _ _ _ _ us hl => match us, hl with | [_], _ => rfl
theorem Cnd.kp_law (C : Cnd K mg base) : PySem.W.keepIn K (.ref (He.fAd K ("law", none))) = true := C.def_law.kp
theorem Cnd.gl_law (C : Cnd K mg base) : mg "law" = some (.ref (He.fAd K ("law", none))) := He.glo_ok C.X C.G (C.c.fact 9 (f := .glo "law") rfl)
theorem Cnd.gi_MOST_WEIGHT (C : Cnd K mg base) : ∃ t, mg "MOST_WEIGHT" = some (.int 10 t) := He.int_ok C.X C.G (C.c.fact 10 (f := .int "MOST_WEIGHT" 10) rfl)
theorem Cnd.gi_POINTS (C : Cnd K mg base) : ∃ t, mg "POINTS" = some (.int 5040 t) := He.int_ok C.X C.G (C.c.fact 11 (f := .int "POINTS" 5040) rfl)
theorem Cnd.fr_abs (C : Cnd K mg base) : mg "abs" = none := He.free_ok C.X C.G (C.c.fact 12 (f := .free "abs") rfl)
theorem Cnd.fr_int (C : Cnd K mg base) : mg "int" = none := He.free_ok C.X C.G (C.c.fact 13 (f := .free "int") rfl)
theorem Cnd.fr_len (C : Cnd K mg base) : mg "len" = none := He.free_ok C.X C.G (C.c.fact 14 (f := .free "len") rfl)
theorem Cnd.fr_list (C : Cnd K mg base) : mg "list" = none := He.free_ok C.X C.G (C.c.fact 15 (f := .free "list") rfl)
theorem Cnd.fr_max (C : Cnd K mg base) : mg "max" = none := He.free_ok C.X C.G (C.c.fact 16 (f := .free "max") rfl)
theorem Cnd.fr_min (C : Cnd K mg base) : mg "min" = none := He.free_ok C.X C.G (C.c.fact 17 (f := .free "min") rfl)
theorem Cnd.fr_range (C : Cnd K mg base) : mg "range" = none := He.free_ok C.X C.G (C.c.fact 18 (f := .free "range") rfl)
theorem Cnd.gl_QueueError (C : Cnd K mg base) : mg "QueueError" = some (.ref ((gg K cc).cl 0)) := He.glo_ok C.X C.G (C.c.fact 19 (f := .glo "QueueError") rfl)
theorem Cnd.pm_QueueError (C : Cnd K mg base) {X : Cx} (hK : X.K = K) (hm : X.mg = mg) {m : Str} {j : Nat} {p p2 pos : Pos} (hg : Gl X "QueueError" := by rfl) : PMk X (.Call (.Name "QueueError" p) [.Constant (.str m) j p2] [] pos) (fun _ H Q => Q (.ref ((gg K cc).cl 0)) none H) := by
  subst hK hm
  obtain ⟨q1, q2, q3, q4⟩ := He.exc_ok (C.c.fact 20 (f := .exc "QueueError") rfl)
  exact pmk_own PySem.F.excBase_ValueError q1 C.gl_QueueError q2 (raises_own q3 q4) hg
theorem Cnd.nm_QueueError (C : Cnd K mg base) {X : Cx} (hm : X.mg = mg) (hg : Gl X "QueueError" := by rfl) : Names X "QueueError" (.ref ((gg K cc).cl 0)) := ⟨hg, by decide, .inl (by rw [hm]; exact C.gl_QueueError)⟩
theorem Cnd.ex_QueueError (C : Cnd K mg base) : ∀ i b, ci_QueueError i = some b → PySem.W.exmOne K (.ref ((gg K cc).cl i)) (.ref ((gg K cc).cl 0)) = some b := by
  intro i b h
  unfold ci_QueueError at h
  split at h
  · cases h; exact He.exm_ok (C.c.fact 21 (f := .exm "QueueError" "QueueError" true) rfl)
  · cases h
theorem Cnd.gl_Tenant (C : Cnd K mg base) : mg "Tenant" = some (.ref ((gg K cc).cl 1)) := He.glo_ok C.X C.G (C.c.fact 22 (f := .glo "Tenant") rfl)
theorem Cnd.cl_Tenant (C : Cnd K mg base) : Cls K ((gg K cc).cl 1) := He.cls_ok (C.c.fact 23 (f := .cls "Tenant") rfl)
theorem Cnd.gl_Shares (C : Cnd K mg base) : mg "Shares" = some (.ref ((gg K cc).cl 2)) := He.glo_ok C.X C.G (C.c.fact 24 (f := .glo "Shares") rfl)
theorem Cnd.cl_Shares (C : Cnd K mg base) : Cls K ((gg K cc).cl 2) := He.cls_ok (C.c.fact 25 (f := .cls "Shares") rfl)
theorem Cnd.no_point (C : Cnd K mg base) : ∀ c ∈ cs_point, Cls K ((gg K cc).cl c) ∧ NoAttr K ((gg K cc).cl c) "point" := by
  intro c hc
  unfold cs_point at hc
  simp only [List.mem_cons, List.mem_nil_iff, or_false] at hc
  rcases hc with rfl | rfl
  · exact ⟨C.cl_Tenant, He.noat_ok (C.c.fact 26 (f := .noat "Tenant" "point") rfl)⟩
  · exact ⟨C.cl_Shares, He.noat_ok (C.c.fact 27 (f := .noat "Shares" "point") rfl)⟩
theorem Cnd.no_tenants (C : Cnd K mg base) : ∀ c ∈ cs_tenants, Cls K ((gg K cc).cl c) ∧ NoAttr K ((gg K cc).cl c) "tenants" := by
  intro c hc
  unfold cs_tenants at hc
  simp only [List.mem_cons, List.mem_nil_iff, or_false] at hc
  subst hc
  · exact ⟨C.cl_Shares, He.noat_ok (C.c.fact 28 (f := .noat "Shares" "tenants") rfl)⟩
theorem Cnd.no_waits (C : Cnd K mg base) : ∀ c ∈ cs_waits, Cls K ((gg K cc).cl c) ∧ NoAttr K ((gg K cc).cl c) "waits" := by
  intro c hc
  unfold cs_waits at hc
  simp only [List.mem_cons, List.mem_nil_iff, or_false] at hc
  subst hc
  · exact ⟨C.cl_Tenant, He.noat_ok (C.c.fact 29 (f := .noat "Tenant" "waits") rfl)⟩
theorem Cnd.no_weight (C : Cnd K mg base) : ∀ c ∈ cs_weight, Cls K ((gg K cc).cl c) ∧ NoAttr K ((gg K cc).cl c) "weight" := by
  intro c hc
  unfold cs_weight at hc
  simp only [List.mem_cons, List.mem_nil_iff, or_false] at hc
  subst hc
  · exact ⟨C.cl_Tenant, He.noat_ok (C.c.fact 30 (f := .noat "Tenant" "weight") rfl)⟩
theorem Cnd.lv_0 (C : Cnd K mg base) : (gg K cc).L 0 = some lam0 := rfl
theorem Cnd.lv_1 (C : Cnd K mg base) : (gg K cc).L 1 = some lam1 := rfl
theorem Cnd.lv_2 (C : Cnd K mg base) : (gg K cc).L 2 = some lam2 := rfl
theorem Cnd.lv_3 (C : Cnd K mg base) : (gg K cc).L 3 = some lam3 := rfl
theorem Cnd.lv_4 (C : Cnd K mg base) : (gg K cc).L 4 = some lam4 := rfl
theorem Cnd.lv_all (C : Cnd K mg base) : ∀ i I0, (gg K cc).L i = some I0 → (i = 0 ∧ some lam0 = some I0) ∨ (i = 1 ∧ some lam1 = some I0) ∨ (i = 2 ∧ some lam2 = some I0) ∨ (i = 3 ∧ some lam3 = some I0) ∨ (i = 4 ∧ some lam4 = some I0) := by
  intro i I0 h
  have h : lamN i = some I0 := h
  unfold lamN at h
  split at h
  · exact .inl ⟨rfl, h⟩
  · exact .inr (.inl ⟨rfl, h⟩)
  · exact .inr (.inr (.inl ⟨rfl, h⟩))
  · exact .inr (.inr (.inr (.inl ⟨rfl, h⟩)))
  · exact .inr (.inr (.inr (.inr (⟨rfl, h⟩))))
  · cases h
theorem Cnd.tb_Shares_next_work (C : Cnd K mg base) : LamX.TabB base mg (codeA K ("Shares", some "next_work")) (tabA K ("Shares", some "next_work")) := C.tb _ (by unfold lams; simp)
theorem Cnd.hc_Shares_next_work (C : Cnd K mg base) : (fdA K ("Shares", some "next_work")).code = .ref (codeA K ("Shares", some "next_work")) := C.cd _ (by unfold lams; simp) _ _ _ _ _ _ _ _ C.def_Shares_next_work
theorem Cnd.hT_Shares_next_work (C : Cnd K mg base) : (tabA K ("Shares", some "next_work"), ("Shares.next_work" : Str) ++ ".<locals>." ++ "<lambda>") ∈ (gg K cc).T := by unfold gg; simp
theorem Cnd.hu_Shares_next_work (C : Cnd K mg base) : ∀ p ∈ (gg K cc).T, p.1 = tabA K ("Shares", some "next_work") → p.2 = ("Shares.next_work" : Str) ++ ".<locals>." ++ "<lambda>" := by
  intro p hp h
  unfold gg at hp
  simp only [List.mem_cons, List.mem_nil_iff, or_false] at hp
  rcases hp with rfl | rfl
  · rfl
  · exact absurd (map_inj C.nd (by unfold lams; simp) (by unfold lams; simp) h) (by decide)
theorem Cnd.tb_law (C : Cnd K mg base) : LamX.TabB base mg (codeA K ("law", none)) (tabA K ("law", none)) := C.tb _ (by unfold lams; simp)
theorem Cnd.hc_law (C : Cnd K mg base) : (fdA K ("law", none)).code = .ref (codeA K ("law", none)) := C.cd _ (by unfold lams; simp) _ _ _ _ _ _ _ _ C.def_law
theorem Cnd.hT_law (C : Cnd K mg base) : (tabA K ("law", none), ("law" : Str) ++ ".<locals>." ++ "<lambda>") ∈ (gg K cc).T := by unfold gg; simp
theorem Cnd.hu_law (C : Cnd K mg base) : ∀ p ∈ (gg K cc).T, p.1 = tabA K ("law", none) → p.2 = ("law" : Str) ++ ".<locals>." ++ "<lambda>" := by
  intro p hp h
  unfold gg at hp
  simp only [List.mem_cons, List.mem_nil_iff, or_false] at hp
  rcases hp with rfl | rfl
  · exact absurd (map_inj C.nd (by unfold lams; simp) (by unfold lams; simp) h) (by decide)
  · rfl
def N__law_told : List Str := ["what"]
theorem sc__law_told : FnScope N__law_told ["what"] (defScope s__law_told) := ⟨rfl, rfl, rfl, by decide +kernel, rfl, by decide +kernel, by decide +kernel⟩
theorem tolds__law_told (C : Cnd K mg base) {X : Cx} {W : WX} {k : Nat} {c P : Addr} {params : Arguments} {body : Expr} {scope : Scope} {p lpos pos : Pos} {mb : EM} (hr : Room (k + 2) X.A) (hX : X.K = K ∧ X.mg = mg ∧ X.base = base) (TB : LamX.TabB base mg c P) (hcode : X.env.code = .ref c) (hmT : (P, X.env.qual ++ "<lambda>") ∈ (gg K cc).T) (hu : ∀ p ∈ (gg K cc).T, p.1 = P → p.2 = X.env.qual ++ "<lambda>") (L : LamX.LamS X.env.scope scope) (hdef : defaultsOf params X.env = ([], []))
    (hbind : ∀ (q : Str) (cl : List (Str × Addr)) (pm cv ctv : Value), bindArgs (PySem.W.kla_fn "<lambda>" q params body scope cl pm cv ctv) ⟨[], []⟩ = pure [])
    (hbody : ∀ (A : Around) (outer : List Env) (s : Shared) (H : Hp) (E : XK) (f c' : Addr), Room k (A.deeper (LamX.lamEnv X scope s.heap.objs.size f c')) → PE (LamX.lamCx X A outer s H E scope f c') body (tE (gg K cc) (fun cls d _ H => E cls d H) mb)) (hg : Gl X "_law_told" := by rfl) :
    PE X (.Call (.Name "_law_told" p) [.Lambda params body scope lpos] [] pos) (tE (gg K cc) W (toldM ci_QueueError "QueueError" mb)) := by
  obtain ⟨hK, hm, hb⟩ := hX
  subst hK hm hb
  have F := C.def__law_told
  have b := C.b__law_told
  obtain ⟨oc, od, dV, kV, doc, pm, an, cdv, ct, osl, e, lk, hcd, _, _⟩ := F.ex
  rw [e] at lk b
  exact de_told (ci := ci_QueueError) (x := "_law_told") (Ng := N__law_told) C.ex_QueueError (by rfl) C.gl_QueueError (by decide) (fun f => rfl) hg C.gl__law_told F.kp lk hcd b sc__law_told (by rfl) (by first | exact Or.inl rfl | exact Or.inr (Or.inl rfl)) TB hcode hmT hu hr L hdef hbind hbody
theorem toldsV__law_told (C : Cnd K mg base) {X : Cx} {W : WX} {k : Nat} {e : Expr} {p pos : Pos} {me : EM} {ms : Nat → EM} (hr : Room (k + 2) X.A) (hX : X.K = K ∧ X.mg = mg ∧ X.base = base) (he : PE X e (tE (gg K cc) W me))
    (fam : ∀ i I0, (gg K cc).L i = some I0 → LamOk X k I0 ((gg K cc).C i) (fun E => tE (gg K cc) (fun cls d _ H => E cls d H) (ms i))) (hs : starEach [e] X.env = (false, eval e X.env) :: starEach [] X.env := by rfl) (hpl : (backTo pos (starEach [] X.env)).any (·.1) = false := by rfl) (hg : Gl X "_law_told" := by rfl) :
    PE X (.Call (.Name "_law_told" p) [e] [] pos) (tE (gg K cc) W (toldVM ci_QueueError "QueueError" ms me)) := by
  obtain ⟨hK, hm, hb⟩ := hX
  subst hK hm hb
  have F := C.def__law_told
  have b := C.b__law_told
  obtain ⟨oc, od, dV, kV, doc, pm, an, cdv, ct, osl, e, lk, hcd, _, _⟩ := F.ex
  rw [e] at lk b
  exact de_toldV (ci := ci_QueueError) (x := "_law_told") (Ng := N__law_told) C.ex_QueueError (by rfl) C.gl_QueueError (by decide) (fun f => rfl) hg C.gl__law_told F.kp lk hcd b sc__law_told (by rfl) (by first | exact Or.inl rfl | exact Or.inr (Or.inl rfl)) hr he fam hs hpl
theorem toldsG__law_told (C : Cnd K mg base) {X : Cx} {W : WX} {k : Nat} {e : Expr} {p pos : Pos} {me : EM} {ms : Nat → EM} {jf : Nat → List Nat} {frf : Nat → List Str} {wf : Nat → List (Option V)} (hr : Room (k + 2) X.A) (hX : X.K = K ∧ X.mg = mg ∧ X.base = base) (he : PE X e (tE (gg K cc) W me))
    (fam : ∀ i I0, (gg K cc).L i = some I0 → LamOkG X k I0 ((gg K cc).C i) (frf i) (wf i) (fun E => tE (gg K cc) (fun cls d _ H => E cls d H) (ms i))) (hs : starEach [e] X.env = (false, eval e X.env) :: starEach [] X.env := by rfl) (hpl : (backTo pos (starEach [] X.env)).any (·.1) = false := by rfl) (hg : Gl X "_law_told" := by rfl) :
    PE X (.Call (.Name "_law_told" p) [e] [] pos) (fun σ H Q => slotsEq (gg K cc) jf wf σ ∧ tE (gg K cc) W (toldGM ci_QueueError "QueueError" jf ms me) σ H Q) := by
  obtain ⟨hK, hm, hb⟩ := hX
  subst hK hm hb
  have F := C.def__law_told
  have b := C.b__law_told
  obtain ⟨oc, od, dV, kV, doc, pm, an, cdv, ct, osl, e, lk, hcd, _, _⟩ := F.ex
  rw [e] at lk b
  exact de_toldG (ci := ci_QueueError) (x := "_law_told") (Ng := N__law_told) C.ex_QueueError (by rfl) C.gl_QueueError (by decide) (fun f => rfl) hg C.gl__law_told F.kp lk hcd b sc__law_told (by rfl) (by first | exact Or.inl rfl | exact Or.inr (Or.inl rfl)) hr he fam hs hpl
end
end K23
end

section
set_option Elab.async false
set_option linter.all false
set_option maxRecDepth 100000
set_option maxHeartbeats 0
namespace K23
open PySem L2 DD
noncomputable section
def N_Tenant_init : List Str := ["self", "weight"]
def m_Tenant_init : SM := (seqM (fldSetM "weight" cs_weight (varM 0) (varM 1))
  (seqM (fldSetM "waits" cs_waits (varM 0) (lstM nilM))
  (fldSetM "point" cs_point (varM 0) (cM (.int 0)))))
def F_Tenant_init : List D → AH → EO := fun ds h => retOf (m_Tenant_init (startD N_Tenant_init.length ds) h)
def N_Shares_init : List Str := ["self"]
def m_Shares_init : SM := (seqM (fldSetM "tenants" cs_tenants (varM 0) dnewM)
  (fldSetM "point" cs_point (varM 0) (cM (.int 0))))
def F_Shares_init : List D → AH → EO := fun ds h => retOf (m_Shares_init (startD N_Shares_init.length ds) h)
def N_Shares_add : List Str := ["self", "name", "weight"]
def m_Shares_add : SM := (seqM (ifSM (orM (binM (varM 1) (unM (varM 0) (fldM "tenants" cs_tenants)) dinM) (notM (chainM (cM (.int 1)) (varM 2) (cM (.int 10)) leM leM)))
  (raiseM 0)
  passM)
  (asgM (callM (consM (varM 2) nilM) (makeF 1 2 [] F_Tenant_init)) (subG (unM (varM 0) (fldM "tenants" cs_tenants)) (varM 1) setDF)))
def F_Shares_add : List D → AH → EO := fun ds h => retOf (m_Shares_add (startD N_Shares_add.length ds) h)
def N_Shares_put : List Str := ["self", "name", "size", "body", "tenant"]
def m_Shares_put : SM := (seqM (ifSM (orM (binM (varM 1) (unM (varM 0) (fldM "tenants" cs_tenants)) dninM) (binM (varM 2) (cM (.int 1)) ltM))
  (raiseM 0)
  passM)
  (seqM (setM 4 (binM (unM (varM 0) (fldM "tenants" cs_tenants)) (varM 1) dgetM))
  (seqM (ifSM (binM (unM (varM 4) (fldM "waits" cs_waits)) (lstM nilM) eqM)
  (fldSetM "point" cs_point (varM 4) (callM (consM (unM (varM 4) (fldM "point" cs_point)) (consM (unM (varM 0) (fldM "point" cs_point)) nilM)) maxF))
  passM)
  (exprM (bmM (unM (varM 4) (fldM "waits" cs_waits)) (consM (tupM (consM (varM 2) (consM (varM 3) nilM))) nilM) appendF)))))
def F_Shares_put : List D → AH → EO := fun ds h => retOf (m_Shares_put (startD N_Shares_put.length ds) h)
def N_Shares_next_work : List Str := ["self", "names", "name", "tenant", "size", "body"]
def m_Shares_next_work : SM := (seqM (lockS (refOf (unM (varM 0) (fldM "tenants" cs_tenants))) (setM 1 (lcQ (unM (varM 0) (fldM "tenants" cs_tenants)) fkIt (nameG 2) (some (binM (unM (binM (unM (varM 0) (fldM "tenants" cs_tenants)) (varM 2) dgetM) (fldM "waits" cs_waits)) (lstM nilM) neM)) (varM 2) [2])))
  (seqM (ifSM (binM (varM 1) (lstM nilM) eqM)
  (retM (cM .non))
  passM)
  (seqM (setM 2 (minKM (varM 1) [0] (tupM (consM (unM (binM (unM (varM 1) (fldM "tenants" cs_tenants)) (varM 0) dgetM) (fldM "point" cs_point)) (consM (varM 0) nilM)))))
  (seqM (setM 3 (binM (unM (varM 0) (fldM "tenants" cs_tenants)) (varM 2) dgetM))
  (seqM (asgM (bmM (unM (varM 3) (fldM "waits" cs_waits)) (consM (cM (.int 0)) nilM) popAtF) (tupG ([4, 5].map nameG)))
  (seqM (fldSetM "point" cs_point (varM 0) (unM (varM 3) (fldM "point" cs_point)))
  (seqM (fldSetM "point" cs_point (varM 3) (binM (unM (varM 3) (fldM "point" cs_point)) (binM (binM (varM 4) (cM (.int 5040)) mulM) (unM (varM 3) (fldM "weight" cs_weight)) fdivM) addM))
  (retM (tupM (consM (varM 2) (consM (varM 4) (consM (varM 5) nilM))))))))))))
def F_Shares_next_work : List D → AH → EO := fun ds h => retOf (m_Shares_next_work (startD N_Shares_next_work.length ds) h)
def N__law_dice : List Str := ["cell"]
def m__law_dice : SM := (seqM (ifSM (chainM (binM (cM (.int 0)) (cM (.int 10)) subM) (varM 0) (cM (.int 10)) ltM ltM)
  (retM (lstM (consM (callM (consM (varM 0) nilM) absF) (consM (cM (.int 0)) (consM (cM (.int 2)) nilM)))))
  passM)
  (retM (lstM (consM (varM 0) (consM (binM (cM (.int 1)) (binM (callM (consM (varM 0) nilM) intF) (cM (.int 1009)) modM) addM) (consM (callM (consM (binM (varM 0) (binM (cM (.int 10)) (cM (.int 18)) powM) geM) nilM) intF) nilM))))))
def F__law_dice : List D → AH → EO := fun ds h => retOf (m__law_dice (startD N__law_dice.length ds) h)
def N__law_roll : List Str := ["dice", "many", "found"]
def m__law_roll (R : List D → AH → EO) : SM := (seqM (ifSM (orM (binM (binM (varM 0) (cM (.int 2)) itM) (cM (.int 2)) eqM) (andM (binM (binM (varM 0) (cM (.int 2)) itM) (cM (.int 1)) eqM) (binM (binM (varM 0) (cM (.int 0)) itM) (cM (.int 0)) gtM)))
  (seqM (setM 2 (binM (callM (consM (binM (varM 0) (cM (.int 0)) itM) nilM) intF) (varM 1) modM))
  (seqM (asgM (binM (binM (varM 0) (cM (.int 0)) itM) (varM 1) fdivM) (subG (varM 0) (cM (.int 0)) setLF))
  (retM (varM 2))))
  passM)
  (seqM (asgM (cM (.int 0)) (subG (varM 0) (cM (.int 2)) setLF))
  (seqM (ifSM (binM (varM 1) (cM (.int 100000000)) gtM)
  (retM (binM (callM (consM (binM (binM (callM (consM (varM 0) (consM (binM (binM (varM 1) (cM (.int 100000000)) fdivM) (cM (.int 1)) addM) nilM)) (callF 2 [] R)) (cM (.int 100000000)) mulM) (callM (consM (varM 0) (consM (cM (.int 100000000)) nilM)) (callF 2 [] R)) addM) nilM) intF) (varM 1) modM))
  passM)
  (seqM (asgM (binM (callM (consM (binM (binM (binM (binM (varM 0) (cM (.int 0)) itM) (cM (.int 48271)) mulM) (binM (binM (varM 0) (cM (.int 1)) itM) (cM (.int 69621)) mulM) addM) (cM (.int 11)) addM) nilM) intF) (cM (.int 2147483647)) modM) (subG (varM 0) (cM (.int 0)) setLF))
  (seqM (asgM (binM (binM (varM 0) (cM (.int 1)) itM) (cM (.int 1)) addM) (subG (varM 0) (cM (.int 1)) setLF))
  (retM (binM (callM (consM (binM (binM (varM 0) (cM (.int 0)) itM) (cM (.int 7)) fdivM) nilM) intF) (varM 1) modM)))))))
def R__law_roll : Nat → List D → AH → EO
  | 0 => fun _ _ => .bad
  | n + 1 => fun ds h => retOf (m__law_roll (R__law_roll n) (startD N__law_roll.length ds) h)
def N__law_rounds : List Str := ["script", "most", "cells", "cell"]
def m__law_rounds : SM := (seqM (setM 2 (slM (varM 0) .none (.some (varM 1))))
  (seqM (ifSM (binM (varM 2) (lstM nilM) eqM)
  (setM 2 (lstM (consM (cM (.int 0)) nilM)))
  passM)
  (retM (lcQ (varM 2) lstIt (nameG 3) none (callM (consM (varM 3) nilM) (callF 1 [] F__law_dice)) [3]))))
def F__law_rounds : List D → AH → EO := fun ds h => retOf (m__law_rounds (startD N__law_rounds.length ds) h)
def N_law : List Str := ["script", "dice", "fresh", "bad", "k", "step", "name", "turn", "shares", "own", "point", "count", "row", "busy", "sizes", "served", "many", "size", "one", "ready", "found", "body", "other", "apart", "f"]
def law_f0b : SM := (seqM (setM 6 (binM (cM (.str "dbca")) (varM 4) itM))
  (seqM (asgM (dispM [((cM (.str "weight")), (binM (cM (.int 1)) (callM (consM (varM 1) (consM (cM (.int 10)) nilM)) (callF 2 [] (R__law_roll 5))) addM)), ((cM (.str "waits")), (lstM nilM)), ((cM (.str "point")), (cM (.int 0)))]) (subG (varM 9) (varM 6) setDF))
  (exprM (methF "add" 2 3 [] F_Shares_add (varM 8) (consM (varM 6) (consM (binM (binM (varM 9) (varM 6) dgetM) (cM (.str "weight")) dgetM) nilM))))))
def law_f1b : SM := (seqM (setM 6 (binM (callM (consM (varM 9) nilM) listDF) (callM (consM (varM 1) (consM (callM (consM (varM 9) nilM) lenF) nilM)) (callF 2 [] (R__law_roll 5))) itM))
  (seqM (setM 12 (binM (varM 9) (varM 6) dgetM))
  (seqM (ifSM (binM (callM (consM (varM 1) (consM (cM (.int 2)) nilM)) (callF 2 [] (R__law_roll 5))) (cM (.int 0)) eqM)
  (seqM (setM 17 (binM (cM (.int 1)) (callM (consM (varM 1) (consM (cM (.int 30)) nilM)) (callF 2 [] (R__law_roll 5))) addM))
  (seqM (setM 11 (binM (varM 11) (cM (.int 1)) addM))
  (seqM (exprM (methF "put" 2 4 [] F_Shares_put (varM 8) (consM (varM 6) (consM (varM 17) (consM (varM 11) nilM)))))
  (seqM (asgM (ifM (binM (binM (varM 12) (cM (.str "waits")) dgetM) (lstM nilM) eqM) (callM (consM (binM (varM 12) (cM (.str "point")) dgetM) (consM (varM 10) nilM)) maxF) (binM (varM 12) (cM (.str "point")) dgetM)) (subG (varM 12) (cM (.str "point")) setDF))
  (asgM (binM (binM (varM 12) (cM (.str "waits")) dgetM) (lstM (consM (tupM (consM (varM 17) (consM (varM 11) nilM))) nilM)) addM) (subG (varM 12) (cM (.str "waits")) setDF))))))
  (seqM (lockS (refOf (varM 9)) (setM 19 (lcQ (varM 9) fkIt (nameG 18) (some (binM (binM (binM (varM 9) (varM 18) dgetM) (cM (.str "waits")) dgetM) (lstM nilM) neM)) (tupM (consM (binM (binM (varM 9) (varM 18) dgetM) (cM (.str "point")) dgetM) (consM (varM 18) nilM))) [18])))
  (seqM (setM 20 (methF "next_work" 2 1 [] F_Shares_next_work (varM 8) nilM))
  (seqM (ifSM (binM (varM 19) (lstM nilM) eqM)
  (seqM (ifSM (binM (varM 20) (cM .non) isnotM)
  (retM (cM (.bl false)))
  passM)
  contM)
  passM)
  (seqM (asgM (callM (consM (varM 19) nilM) minPF) (tupG ([10, 18].map nameG)))
  (seqM (setM 12 (binM (varM 9) (varM 18) dgetM))
  (seqM (asgM (binM (binM (varM 12) (cM (.str "waits")) dgetM) (cM (.int 0)) itM) (tupG ([17, 21].map nameG)))
  (seqM (asgM (tupM (consM (slM (binM (varM 12) (cM (.str "waits")) dgetM) (.some (cM (.int 1))) .none) (consM (binM (varM 10) (binM (binM (varM 17) (cM (.int 5040)) mulM) (binM (varM 12) (cM (.str "weight")) dgetM) fdivM) addM) nilM))) (tupX [(subG (varM 12) (cM (.str "waits")) setDF), (subG (varM 12) (cM (.str "point")) setDF)]))
  (ifSM (binM (varM 20) (tupM (consM (varM 18) (consM (varM 17) (consM (varM 21) nilM)))) neM)
  (retM (cM (.bl false)))
  passM)))))))))
  (ifSM (orM (binM (unM (varM 8) (fldM "point" cs_point)) (varM 10) neM) (binM (lockM (refOf (varM 9)) (lcQ (varM 9) fkIt (nameG 18) none (tupM (consM (varM 18) (consM (unM (binM (unM (varM 8) (fldM "tenants" cs_tenants)) (varM 18) dgetM) (fldM "point" cs_point)) (consM (unM (binM (unM (varM 8) (fldM "tenants" cs_tenants)) (varM 18) dgetM) (fldM "waits" cs_waits)) nilM)))) [18])) (lockM (refOf (varM 9)) (lcQ (varM 9) fkIt (nameG 18) none (tupM (consM (varM 18) (consM (binM (binM (varM 9) (varM 18) dgetM) (cM (.str "point")) dgetM) (consM (binM (binM (varM 9) (varM 18) dgetM) (cM (.str "waits")) dgetM) nilM)))) [18])) nePM))
  (retM (cM (.bl false)))
  passM))))
def law_f2b : SM := (exprM (methF "put" 2 4 [] F_Shares_put (varM 13) (consM (varM 6) (consM (varM 17) (consM (cM (.int 0)) nilM)))))
def law_f3b : SM := (seqM (exprM (methF "add" 2 3 [] F_Shares_add (varM 13) (consM (varM 6) (consM (binM (binM (varM 9) (varM 6) dgetM) (cM (.str "weight")) dgetM) nilM))))
  (seqM (asgM (lcQ (cM (.int 40)) rngIt1 (nameG 4) none (binM (cM (.int 1)) (callM (consM (varM 1) (consM (cM (.int 20)) nilM)) (callF 2 [] (R__law_roll 5))) addM) [4]) (subG (varM 14) (varM 6) setDF))
  (seqM (asgM (tupM (consM (cM (.int 0)) (consM (cM (.int 0)) nilM))) (tupX [(subG (varM 15) (varM 6) setDF), (subG (varM 16) (varM 6) setDF)]))
  (DD.forM (binM (varM 14) (varM 6) dgetM) lstIt (nameG 17) (law_f2b)))))
def law_f4b : SM := (seqM (setM 23 (binM (binM (binM (binM (varM 15) (varM 18) dgetM) (cM (.int 5040)) mulM) (binM (binM (varM 9) (varM 18) dgetM) (cM (.str "weight")) dgetM) fdivM) (binM (binM (binM (varM 15) (varM 22) dgetM) (cM (.int 5040)) mulM) (binM (binM (varM 9) (varM 22) dgetM) (cM (.str "weight")) dgetM) fdivM) subM))
  (ifSM (binM (varM 23) (binM (binM (binM (binM (binM (binM (callM (consM (binM (varM 14) (varM 18) dgetM) nilM) maxLF) (cM (.int 5040)) mulM) (binM (binM (varM 9) (varM 18) dgetM) (cM (.str "weight")) dgetM) fdivM) (binM (binM (callM (consM (binM (varM 14) (varM 22) dgetM) nilM) maxLF) (cM (.int 5040)) mulM) (binM (binM (varM 9) (varM 22) dgetM) (cM (.str "weight")) dgetM) fdivM) addM) (binM (varM 16) (varM 18) dgetM) addM) (binM (varM 16) (varM 22) dgetM) addM) (cM (.int 2)) addM) gtM)
  (retM (cM (.bl false)))
  passM))
def law_f5b : SM := (lockS (refOf (varM 9)) (DD.forM (varM 9) fkIt (nameG 22) (law_f4b)))
def law_f6b : SM := (seqM (asgM (methF "next_work" 2 1 [] F_Shares_next_work (varM 13) nilM) (tupG ([6, 17, 21].map nameG)))
  (seqM (asgM (tupM (consM (binM (binM (varM 15) (varM 6) dgetM) (varM 17) addM) (consM (binM (binM (varM 16) (varM 6) dgetM) (cM (.int 1)) addM) nilM))) (tupX [(subG (varM 15) (varM 6) setDF), (subG (varM 16) (varM 6) setDF)]))
  (lockS (refOf (varM 9)) (DD.forM (varM 9) fkIt (nameG 18) (law_f5b)))))
def law_f7b : SM := (seqM (asgM (tupM (consM (callM nilM (makeF 2 1 [] F_Shares_init)) (consM dnewM (consM (cM (.int 0)) (consM (cM (.int 0)) nilM))))) (tupG ([8, 9, 10, 11].map nameG)))
  (seqM (DD.forM (binM (cM (.int 1)) (callM (consM (varM 1) (consM (cM (.int 4)) nilM)) (callF 2 [] (R__law_roll 5))) addM) rngIt1 (nameG 4) (law_f0b))
  (seqM (DD.forM (callM (consM (varM 1) (consM (cM (.int 101)) nilM)) (callF 2 [] (R__law_roll 5))) rngIt1 (nameG 5) (law_f1b))
  (seqM (asgM (tupM (consM (callM nilM (makeF 2 1 [] F_Shares_init)) (consM dnewM (consM dnewM (consM dnewM nilM))))) (tupG ([13, 14, 15, 16].map nameG)))
  (seqM (lockS (refOf (varM 9)) (DD.forM (varM 9) fkIt (nameG 6) (law_f3b)))
  (DD.forM (cM (.int 40)) rngIt1 (nameG 7) (law_f6b)))))))
def law_l8 : Nat → EM
  | 0 => (methF "add" 2 3 [] F_Shares_add (varM 0) (consM (cM (.str "a")) (consM (cM (.int 1)) nilM)))
  | 1 => (methF "add" 2 3 [] F_Shares_add (varM 0) (consM (cM (.str "b")) (consM (cM (.int 0)) nilM)))
  | 2 => (methF "add" 2 3 [] F_Shares_add (varM 0) (consM (cM (.str "b")) (consM (cM (.int 11)) nilM)))
  | 3 => (methF "put" 2 4 [] F_Shares_put (varM 0) (consM (cM (.str "z")) (consM (cM (.int 1)) (consM (cM (.int 0)) nilM))))
  | 4 => (methF "put" 2 4 [] F_Shares_put (varM 0) (consM (cM (.str "a")) (consM (cM (.int 0)) (consM (cM (.int 0)) nilM))))
  | _ => fun _ _ => .bad
def law_l8j : Nat → List Nat
  | 0 => [2]
  | 1 => [2]
  | 2 => [2]
  | 3 => [2]
  | 4 => [2]
  | _ => []
def law_l8f : Nat → List Str
  | 0 => ["fresh"]
  | 1 => ["fresh"]
  | 2 => ["fresh"]
  | 3 => ["fresh"]
  | 4 => ["fresh"]
  | _ => []
def m_law : SM := (seqM (DD.forM (callM (consM (varM 0) (consM (cM (.int 1)) nilM)) (callF 2 [] F__law_rounds)) lstIt (nameG 1) (law_f7b))
  (seqM (setM 2 (callM nilM (makeF 2 1 [] F_Shares_init)))
  (seqM (exprM (methF "add" 2 3 [] F_Shares_add (varM 2) (consM (cM (.str "a")) (consM (cM (.int 1)) nilM))))
  (seqM (setM 3 (lstM (consM (lamM 0) (consM (lamM 1) (consM (lamM 2) (consM (lamM 3) (consM (lamM 4) nilM)))))))
  (retM (andM (binM (lcQ (varM 3) lstIt (nameG 24) (some (binM (toldGM ci_QueueError "QueueError" law_l8j law_l8 (varM 24)) (cM (.str "QueueError")) neM)) (cM (.int 1)) [24]) (lstM nilM) eqPM) (andM (binM (methF "next_work" 2 1 [] F_Shares_next_work (varM 2) nilM) (cM .non) isM) (binM (unM (callM (consM (cM (.int 3)) nilM) (makeF 1 2 [] F_Tenant_init)) (fldM "waits" cs_waits)) (lstM nilM) eqM))))))))
def F_law : List D → AH → EO := fun ds h => retOf (m_law (startD N_law.length ds) h)
end
end K23
end

section
set_option Elab.async false
set_option linter.all false
set_option maxRecDepth 100000
set_option maxHeartbeats 0
namespace K23
open PySem L2 DD
section
variable {P : Program} {w : World} {K : PySem.W.Frag} {mg : Str → Option Value} {base : Heap} {cc : Nat → List (Str × Addr)}
theorem sc_Tenant_init : FnScope N_Tenant_init ["self", "weight"] (defScope s_Tenant_init) := ⟨rfl, rfl, rfl, by decide +kernel, rfl, by decide +kernel, by decide +kernel⟩
theorem ok_Tenant_init (C : Cnd K mg base) : FnOk P w K mg base (L2.CX P w) 1 (He.fAd K ("Tenant", some "__init__")) (fdA K ("Tenant", some "__init__")) ["self", "weight"] (spD (gg K cc) 2 F_Tenant_init) := by
    refine fn_okD3 (m := m_Tenant_init) C.def_Tenant_init sc_Tenant_init rfl rfl fun A outer s H E hr => ?_
    have tk : Takes (cxOf (L2.CX P w) P w K mg base N_Tenant_init "Tenant.__init__" (defScope s_Tenant_init) (He.fAd K ("Tenant", some "__init__")) (fdA K ("Tenant", some "__init__")).code A outer s H E) (fun cls d _ H => E cls d H) := takes_of rfl rfl rfl rfl
    have po : PassesOwn (model P w) (A.deeper (PyProof.Rows.envOfC "Tenant.__init__" (defScope s_Tenant_init) s.heap.objs.size (He.fAd K ("Tenant", some "__init__")) (fdA K ("Tenant", some "__init__")).code)) (PyProof.Rows.envOfC "Tenant.__init__" (defScope s_Tenant_init) s.heap.objs.size (He.fAd K ("Tenant", some "__init__")) (fdA K ("Tenant", some "__init__")).code) (cxOf (L2.CX P w) P w K mg base N_Tenant_init "Tenant.__init__" (defScope s_Tenant_init) (He.fAd K ("Tenant", some "__init__")) (fdA K ("Tenant", some "__init__")).code A outer s H E).xe := passes_of rfl
    exact (dss_cons (ds_fld C.no_weight (dv 0) (dv 1))
  (dss_cons (ds_fld C.no_waits (dv 0) (de_lst dl_nil))
  (dss_one (ds_fld C.no_point (dv 0) dk_int))))
theorem sc_Shares_init : FnScope N_Shares_init ["self"] (defScope s_Shares_init) := ⟨rfl, rfl, rfl, by decide +kernel, rfl, by decide +kernel, by decide +kernel⟩
theorem ok_Shares_init (C : Cnd K mg base) : FnOk P w K mg base (L2.CX P w) 1 (He.fAd K ("Shares", some "__init__")) (fdA K ("Shares", some "__init__")) ["self"] (spD (gg K cc) 1 F_Shares_init) := by
    refine fn_okD3 (m := m_Shares_init) C.def_Shares_init sc_Shares_init rfl rfl fun A outer s H E hr => ?_
    have tk : Takes (cxOf (L2.CX P w) P w K mg base N_Shares_init "Shares.__init__" (defScope s_Shares_init) (He.fAd K ("Shares", some "__init__")) (fdA K ("Shares", some "__init__")).code A outer s H E) (fun cls d _ H => E cls d H) := takes_of rfl rfl rfl rfl
    have po : PassesOwn (model P w) (A.deeper (PyProof.Rows.envOfC "Shares.__init__" (defScope s_Shares_init) s.heap.objs.size (He.fAd K ("Shares", some "__init__")) (fdA K ("Shares", some "__init__")).code)) (PyProof.Rows.envOfC "Shares.__init__" (defScope s_Shares_init) s.heap.objs.size (He.fAd K ("Shares", some "__init__")) (fdA K ("Shares", some "__init__")).code) (cxOf (L2.CX P w) P w K mg base N_Shares_init "Shares.__init__" (defScope s_Shares_init) (He.fAd K ("Shares", some "__init__")) (fdA K ("Shares", some "__init__")).code A outer s H E).xe := passes_of rfl
    exact (dss_cons (ds_fld C.no_tenants (dv 0) de_dnew)
  (dss_one (ds_fld C.no_point (dv 0) dk_int)))
theorem sc_Shares_add : FnScope N_Shares_add ["self", "name", "weight"] (defScope s_Shares_add) := ⟨rfl, rfl, rfl, by decide +kernel, rfl, by decide +kernel, by decide +kernel⟩
theorem ok_Shares_add (C : Cnd K mg base) : FnOk P w K mg base (L2.CX P w) 3 (He.fAd K ("Shares", some "add")) (fdA K ("Shares", some "add")) ["self", "name", "weight"] (spD (gg K cc) 3 F_Shares_add) := by
    refine fn_okD3 (m := m_Shares_add) C.def_Shares_add sc_Shares_add rfl rfl fun A outer s H E hr => ?_
    have tk : Takes (cxOf (L2.CX P w) P w K mg base N_Shares_add "Shares.add" (defScope s_Shares_add) (He.fAd K ("Shares", some "add")) (fdA K ("Shares", some "add")).code A outer s H E) (fun cls d _ H => E cls d H) := takes_of rfl rfl rfl rfl
    have po : PassesOwn (model P w) (A.deeper (PyProof.Rows.envOfC "Shares.add" (defScope s_Shares_add) s.heap.objs.size (He.fAd K ("Shares", some "add")) (fdA K ("Shares", some "add")).code)) (PyProof.Rows.envOfC "Shares.add" (defScope s_Shares_add) s.heap.objs.size (He.fAd K ("Shares", some "add")) (fdA K ("Shares", some "add")).code) (cxOf (L2.CX P w) P w K mg base N_Shares_add "Shares.add" (defScope s_Shares_add) (He.fAd K ("Shares", some "add")) (fdA K ("Shares", some "add")).code A outer s H E).xe := passes_of rfl
    exact (dss_cons (ds_if (PW.pt (dw_or (dt_din (u1 hr.units) (dv 1) (de_fld rfl C.no_tenants (dv 0)) rfl) (pw_or1 (dt_not (dt_chain op_le op_le rs_le rs_le dk_int (dv 2) (dg_int C.gi_MOST_WEIGHT))))))
  (dss_one (ds_raise (c := 0) rfl tk (C.pm_QueueError rfl rfl) (fun _ _ _ z => z)))
  dss_nil)
  (dss_one (ds_asgG (de_make (ci := 1) (dfl := []) C.mk_Tenant (ok_Tenant_init C) (Pas.of tk) (hr.mono (by first | omega | decide)) rfl C.gl_Tenant C.b_Tenant_init .nil (fun _ _ => .nil) (dl_cons (dv 2) dl_nil)) (pg_sub (de_fld rfl C.no_tenants (dv 0)) (dv 1) (set_dict (u1 hr.units)) (fun _ => rfl)) (rg_sub rset_dict) goes_sub)))
theorem sc_Shares_put : FnScope N_Shares_put ["self", "name", "size", "body"] (defScope s_Shares_put) := ⟨rfl, rfl, rfl, by decide +kernel, rfl, by decide +kernel, by decide +kernel⟩
theorem ok_Shares_put (C : Cnd K mg base) : FnOk P w K mg base (L2.CX P w) 1 (He.fAd K ("Shares", some "put")) (fdA K ("Shares", some "put")) ["self", "name", "size", "body"] (spD (gg K cc) 4 F_Shares_put) := by
    refine fn_okD3 (m := m_Shares_put) C.def_Shares_put sc_Shares_put rfl rfl fun A outer s H E hr => ?_
    have tk : Takes (cxOf (L2.CX P w) P w K mg base N_Shares_put "Shares.put" (defScope s_Shares_put) (He.fAd K ("Shares", some "put")) (fdA K ("Shares", some "put")).code A outer s H E) (fun cls d _ H => E cls d H) := takes_of rfl rfl rfl rfl
    have po : PassesOwn (model P w) (A.deeper (PyProof.Rows.envOfC "Shares.put" (defScope s_Shares_put) s.heap.objs.size (He.fAd K ("Shares", some "put")) (fdA K ("Shares", some "put")).code)) (PyProof.Rows.envOfC "Shares.put" (defScope s_Shares_put) s.heap.objs.size (He.fAd K ("Shares", some "put")) (fdA K ("Shares", some "put")).code) (cxOf (L2.CX P w) P w K mg base N_Shares_put "Shares.put" (defScope s_Shares_put) (He.fAd K ("Shares", some "put")) (fdA K ("Shares", some "put")).code A outer s H E).xe := passes_of rfl
    exact (dss_cons (ds_if (PW.pt (dw_or (dt_dnin (u1 hr.units) (dv 1) (de_fld rfl C.no_tenants (dv 0)) rfl) (pw_or1 (dt_cmp op_lt rs_lt (dv 2) dk_int (nomark _)))))
  (dss_one (ds_raise (c := 0) rfl tk (C.pm_QueueError rfl rfl) (fun _ _ _ z => z)))
  dss_nil)
  (dss_cons (ds_set (i := 4) sc_Shares_put.nd rfl (Or.inl rfl) (de_dget (u1 hr.units) (de_fld rfl C.no_tenants (dv 0)) (dv 1) (fun _ _ => rfl)))
  (dss_cons (ds_if (dt_cmp (op_eqAny hr.units) rs_eq (de_fld rfl C.no_waits (dv 4)) (de_lst dl_nil) (nomark _))
  (dss_one (ds_fld C.no_point (dv 4) (de_callB (call_max2 rfl) rs_max2 rfl (C.fr_max) (by decide +kernel) (dl_cons (de_fld rfl C.no_point (dv 4)) (dl_cons (de_fld rfl C.no_point (dv 0)) dl_nil)))))
  dss_nil)
  (dss_one (ds_expr (d_append (de_fld rfl C.no_waits (dv 4)) (dl_cons (de_tup (dl_cons (dv 2) (dl_cons (dv 3) dl_nil))) dl_nil)))))))
theorem sc_Shares_next_work : FnScope N_Shares_next_work ["self"] (defScope s_Shares_next_work) := ⟨rfl, rfl, rfl, by decide +kernel, rfl, by decide +kernel, by decide +kernel⟩
theorem ok_Shares_next_work (C : Cnd K mg base) : FnOk P w K mg base (L2.CX P w) 3 (He.fAd K ("Shares", some "next_work")) (fdA K ("Shares", some "next_work")) ["self"] (spD (gg K cc) 1 F_Shares_next_work) := by
    refine fn_okD3 (m := m_Shares_next_work) C.def_Shares_next_work sc_Shares_next_work rfl rfl fun A outer s H E hr => ?_
    have tk : Takes (cxOf (L2.CX P w) P w K mg base N_Shares_next_work "Shares.next_work" (defScope s_Shares_next_work) (He.fAd K ("Shares", some "next_work")) (fdA K ("Shares", some "next_work")).code A outer s H E) (fun cls d _ H => E cls d H) := takes_of rfl rfl rfl rfl
    have po : PassesOwn (model P w) (A.deeper (PyProof.Rows.envOfC "Shares.next_work" (defScope s_Shares_next_work) s.heap.objs.size (He.fAd K ("Shares", some "next_work")) (fdA K ("Shares", some "next_work")).code)) (PyProof.Rows.envOfC "Shares.next_work" (defScope s_Shares_next_work) s.heap.objs.size (He.fAd K ("Shares", some "next_work")) (fdA K ("Shares", some "next_work")).code) (cxOf (L2.CX P w) P w K mg base N_Shares_next_work "Shares.next_work" (defScope s_Shares_next_work) (He.fAd K ("Shares", some "next_work")) (fdA K ("Shares", some "next_work")).code A outer s H E).xe := passes_of rfl
    exact (dss_cons (ds_lock (pk := (refOf (unM (varM 0) (fldM "tenants" cs_tenants)))) (ds_setLcQ (i := 1) (own := [("name", 2)]) rfl sc_Shares_next_work.nd rfl rfl (sw_true rfl rfl rfl (by decide +kernel)) (pi_keys (de_fld rfl C.no_tenants (dv 0))) it_keys (blkOk_by (N := N_Shares_next_work) (sc := (defScope s_Shares_next_work)) (own := [("name", 2)]) (by decide +kernel)) (fun _ => (rg_name)) (goes_name) (own_name (by decide)) (fun _ _ _ _ _ => (pg_name (i := 2) sc_Shares_next_work.nd rfl (Or.inl rfl))) (fun _ _ _ _ _ => (pts_one (dt_cmp (op_neAny hr.units) rs_ne (de_fld rfl C.no_waits (de_dget (u1 hr.units) (de_fld rfl C.no_tenants (dv 0)) (dv 2) (fun _ _ => rfl))) (de_lst dl_nil) (nomark _)))) (fun _ _ _ _ _ => (dv 2))))
  (dss_cons (ds_if (dt_cmp (op_eqAny hr.units) rs_eq (dv 1) (de_lst dl_nil) (nomark _))
  (dss_one (ds_ret dk_non))
  dss_nil)
  (dss_cons (ds_set (i := 2) sc_Shares_next_work.nd rfl (Or.inl rfl) (de_minK (a := "one") (fr := ["self"]) (N := ["one", "self"]) (js := [0]) (k := 0) (hr.mono (by first | omega | decide)) rfl C.tb_Shares_next_work C.hc_Shares_next_work C.hT_Shares_next_work C.hu_Shares_next_work (dv 1) (fun A1 s1 H1 E1 f1 c1 hrl => (de_tup (dl_cons (de_fld rfl C.no_point (de_dget (u1 hrl.units) (de_fld rfl C.no_tenants (dv 1)) (dv 0) (fun _ _ => rfl))) (dl_cons (dv 0) dl_nil)))) C.fr_min (NdefX.nscope_by (by rfl)) (NdefX.ndef_free (fr := ["self"]) (by rfl)) (NdefX.ndef_fr (sc := (defScope s_Shares_next_work)) (by rfl))))
  (dss_cons (ds_set (i := 3) sc_Shares_next_work.nd rfl (Or.inl rfl) (de_dget (u1 hr.units) (de_fld rfl C.no_tenants (dv 0)) (dv 2) (fun _ _ => rfl)))
  (dss_cons (ds_asgG (d_popAt (de_fld rfl C.no_waits (dv 3)) (dl_cons dk_int dl_nil)) (pg_tup rfl (pgs_cons (pg_name (i := 4) sc_Shares_next_work.nd rfl (Or.inl rfl)) (pgs_cons (pg_name (i := 5) sc_Shares_next_work.nd rfl (Or.inl rfl)) pgs_nil))) (rg_names (is := [4, 5]) (rgs_cons rg_name (rgs_cons rg_name rgs_nil))) (goes_names))
  (dss_cons (ds_fld C.no_point (dv 0) (de_fld rfl C.no_point (dv 3)))
  (dss_cons (ds_fld C.no_point (dv 3) (de_op op_addAny rs_add (de_fld rfl C.no_point (dv 3)) (de_op op_fdivW rs_fdiv (de_op op_mulAny rs_mul (dv 4) (dg_int C.gi_POINTS)) (de_fld rfl C.no_weight (dv 3)))))
  (dss_one (ds_ret (de_tup (dl_cons (dv 2) (dl_cons (dv 4) (dl_cons (dv 5) dl_nil)))))))))))))
theorem sc__law_dice : FnScope N__law_dice ["cell"] (defScope s__law_dice) := ⟨rfl, rfl, rfl, by decide +kernel, rfl, by decide +kernel, by decide +kernel⟩
theorem ok__law_dice (C : Cnd K mg base) : FnOk P w K mg base (L2.CX P w) 1 (He.fAd K ("_law_dice", none)) (fdA K ("_law_dice", none)) ["cell"] (spD (gg K cc) 1 F__law_dice) := by
    refine fn_okD3 (m := m__law_dice) C.def__law_dice sc__law_dice rfl rfl fun A outer s H E hr => ?_
    have tk : Takes (cxOf (L2.CX P w) P w K mg base N__law_dice "_law_dice" (defScope s__law_dice) (He.fAd K ("_law_dice", none)) (fdA K ("_law_dice", none)).code A outer s H E) (fun cls d _ H => E cls d H) := takes_of rfl rfl rfl rfl
    have po : PassesOwn (model P w) (A.deeper (PyProof.Rows.envOfC "_law_dice" (defScope s__law_dice) s.heap.objs.size (He.fAd K ("_law_dice", none)) (fdA K ("_law_dice", none)).code)) (PyProof.Rows.envOfC "_law_dice" (defScope s__law_dice) s.heap.objs.size (He.fAd K ("_law_dice", none)) (fdA K ("_law_dice", none)).code) (cxOf (L2.CX P w) P w K mg base N__law_dice "_law_dice" (defScope s__law_dice) (He.fAd K ("_law_dice", none)) (fdA K ("_law_dice", none)).code A outer s H E).xe := passes_of rfl
    exact (dss_cons (ds_if (dt_chain op_lt op_lt rs_lt rs_lt (de_op op_sub rs_sub dk_int dk_int) (dv 0) dk_int)
  (dss_one (ds_ret (de_lst (dl_cons (de_callB call_abs rs_abs rfl (C.fr_abs) (by decide +kernel) (dl_cons (dv 0) dl_nil)) (dl_cons dk_int (dl_cons dk_int dl_nil))))))
  dss_nil)
  (dss_one (ds_ret (de_lst (dl_cons (dv 0) (dl_cons (de_op op_addAny rs_add dk_int (de_op op_mod rs_mod (de_callTy call_int1 rs_int rfl (C.fr_int) (by decide +kernel) (dl_cons (dv 0) dl_nil)) dk_int)) (dl_cons (de_callTy call_int1 rs_int rfl (C.fr_int) (by decide +kernel) (dl_cons (de_cmp op_ge rs_ge (dv 0) (de_op op_pow rs_pow dk_int dk_int) (nomark _)) dl_nil)) dl_nil)))))))
theorem sc__law_roll : FnScope N__law_roll ["dice", "many"] (defScope s__law_roll) := ⟨rfl, rfl, rfl, by decide +kernel, rfl, by decide +kernel, by decide +kernel⟩
theorem ok__law_roll (C : Cnd K mg base) : ∀ n, FnOk P w K mg base (L2.CX P w) (0 + n) (He.fAd K ("_law_roll", none)) (fdA K ("_law_roll", none)) ["dice", "many"] (spD (gg K cc) 2 (R__law_roll n))
  | 0 => fn_bot
  | n + 1 => by
    have ih__law_roll := fun (_ : Cnd K mg base) => ok__law_roll C n
    refine fn_okD3 (m := m__law_roll (R__law_roll n)) C.def__law_roll sc__law_roll rfl rfl fun A outer s H E hr => ?_
    have hr : Room (0 + n) _ := hr
    have tk : Takes (cxOf (L2.CX P w) P w K mg base N__law_roll "_law_roll" (defScope s__law_roll) (He.fAd K ("_law_roll", none)) (fdA K ("_law_roll", none)).code A outer s H E) (fun cls d _ H => E cls d H) := takes_of rfl rfl rfl rfl
    have po : PassesOwn (model P w) (A.deeper (PyProof.Rows.envOfC "_law_roll" (defScope s__law_roll) s.heap.objs.size (He.fAd K ("_law_roll", none)) (fdA K ("_law_roll", none)).code)) (PyProof.Rows.envOfC "_law_roll" (defScope s__law_roll) s.heap.objs.size (He.fAd K ("_law_roll", none)) (fdA K ("_law_roll", none)).code) (cxOf (L2.CX P w) P w K mg base N__law_roll "_law_roll" (defScope s__law_roll) (He.fAd K ("_law_roll", none)) (fdA K ("_law_roll", none)).code A outer s H E).xe := passes_of rfl
    exact (dss_cons (ds_if (PW.pt (dw_or (dt_cmp (op_eqAny hr.units) rs_eq (de_ix ix_seq rs_it (dv 0) dk_int (fun _ _ => rfl)) dk_int (nomark _)) (pw_or1 (PW.pt (dw_and (dt_cmp (op_eqAny hr.units) rs_eq (de_ix ix_seq rs_it (dv 0) dk_int (fun _ _ => rfl)) dk_int (nomark _)) (pw_and1 (dt_cmp op_gt rs_gt (de_ix ix_seq rs_it (dv 0) dk_int (fun _ _ => rfl)) dk_int (nomark _))))))))
  (dss_cons (ds_set (i := 2) sc__law_roll.nd rfl (Or.inl rfl) (de_op op_mod rs_mod (de_callTy call_int1 rs_int rfl (C.fr_int) (by decide +kernel) (dl_cons (de_ix ix_seq rs_it (dv 0) dk_int (fun _ _ => rfl)) dl_nil)) (dv 1)))
  (dss_cons (ds_asgG (de_op op_fdivW rs_fdiv (de_ix ix_seq rs_it (dv 0) dk_int (fun _ _ => rfl)) (dv 1)) (pg_sub (dv 0) dk_int set_list (fun _ => rfl)) (rg_sub rset_list) goes_sub)
  (dss_one (ds_ret (dv 2)))))
  dss_nil)
  (dss_cons (ds_asgG dk_int (pg_sub (dv 0) dk_int set_list (fun _ => rfl)) (rg_sub rset_list) goes_sub)
  (dss_cons (ds_if (dt_cmp op_gt rs_gt (dv 1) dk_int (nomark _))
  (dss_one (ds_ret (de_op op_mod rs_mod (de_callTy call_int1 rs_int rfl (C.fr_int) (by decide +kernel) (dl_cons (de_op op_addAny rs_add (de_op op_mulAny rs_mul (de_call (dfl := []) (ih__law_roll C) (Pas.of tk) (hr.mono (by first | omega | decide)) rfl C.gl__law_roll C.kp__law_roll C.b__law_roll .nil (fun _ _ => .nil) (dl_cons (dv 0) (dl_cons (de_op op_addAny rs_add (de_op op_fdivW rs_fdiv (dv 1) dk_int) dk_int) dl_nil))) dk_int) (de_call (dfl := []) (ih__law_roll C) (Pas.of tk) (hr.mono (by first | omega | decide)) rfl C.gl__law_roll C.kp__law_roll C.b__law_roll .nil (fun _ _ => .nil) (dl_cons (dv 0) (dl_cons dk_int dl_nil)))) dl_nil)) (dv 1))))
  dss_nil)
  (dss_cons (ds_asgG (de_op op_mod rs_mod (de_callTy call_int1 rs_int rfl (C.fr_int) (by decide +kernel) (dl_cons (de_op op_addAny rs_add (de_op op_addAny rs_add (de_op op_mulAny rs_mul (de_ix ix_seq rs_it (dv 0) dk_int (fun _ _ => rfl)) dk_int) (de_op op_mulAny rs_mul (de_ix ix_seq rs_it (dv 0) dk_int (fun _ _ => rfl)) dk_int)) dk_int) dl_nil)) dk_int) (pg_sub (dv 0) dk_int set_list (fun _ => rfl)) (rg_sub rset_list) goes_sub)
  (dss_cons (ds_asgG (de_op op_addAny rs_add (de_ix ix_seq rs_it (dv 0) dk_int (fun _ _ => rfl)) dk_int) (pg_sub (dv 0) dk_int set_list (fun _ => rfl)) (rg_sub rset_list) goes_sub)
  (dss_one (ds_ret (de_op op_mod rs_mod (de_callTy call_int1 rs_int rfl (C.fr_int) (by decide +kernel) (dl_cons (de_op op_fdivW rs_fdiv (de_ix ix_seq rs_it (dv 0) dk_int (fun _ _ => rfl)) dk_int) dl_nil)) (dv 1)))))))))
theorem sc__law_rounds : FnScope N__law_rounds ["script", "most"] (defScope s__law_rounds) := ⟨rfl, rfl, rfl, by decide +kernel, rfl, by decide +kernel, by decide +kernel⟩
theorem ok__law_rounds (C : Cnd K mg base) : FnOk P w K mg base (L2.CX P w) 2 (He.fAd K ("_law_rounds", none)) (fdA K ("_law_rounds", none)) ["script", "most"] (spD (gg K cc) 2 F__law_rounds) := by
    refine fn_okD3 (m := m__law_rounds) C.def__law_rounds sc__law_rounds rfl rfl fun A outer s H E hr => ?_
    have tk : Takes (cxOf (L2.CX P w) P w K mg base N__law_rounds "_law_rounds" (defScope s__law_rounds) (He.fAd K ("_law_rounds", none)) (fdA K ("_law_rounds", none)).code A outer s H E) (fun cls d _ H => E cls d H) := takes_of rfl rfl rfl rfl
    have po : PassesOwn (model P w) (A.deeper (PyProof.Rows.envOfC "_law_rounds" (defScope s__law_rounds) s.heap.objs.size (He.fAd K ("_law_rounds", none)) (fdA K ("_law_rounds", none)).code)) (PyProof.Rows.envOfC "_law_rounds" (defScope s__law_rounds) s.heap.objs.size (He.fAd K ("_law_rounds", none)) (fdA K ("_law_rounds", none)).code) (cxOf (L2.CX P w) P w K mg base N__law_rounds "_law_rounds" (defScope s__law_rounds) (He.fAd K ("_law_rounds", none)) (fdA K ("_law_rounds", none)).code A outer s H E).xe := passes_of rfl
    exact (dss_cons (ds_set (i := 2) sc__law_rounds.nd rfl (Or.inl rfl) (de_slice rfl (dv 0) do_none (do_some (dv 1))))
  (dss_cons (ds_if (dt_cmp (op_eqAny hr.units) rs_eq (dv 2) (de_lst dl_nil) (nomark _))
  (dss_one (ds_set (i := 2) sc__law_rounds.nd rfl (Or.inl rfl) (de_lst (dl_cons dk_int dl_nil))))
  dss_nil)
  (dss_one (ds_ret (de_lcQ (own := [("cell", 3)]) rfl sc__law_rounds.nd (pi_list (dv 2)) (it_lst rfl) (blkOk_by (N := N__law_rounds) (sc := (defScope s__law_rounds)) (own := [("cell", 3)]) (by decide +kernel)) (fun _ => (rg_name)) (goes_name) (own_name (by decide)) (fun _ _ _ _ _ => (pg_name (i := 3) sc__law_rounds.nd rfl (Or.inl rfl))) (fun _ _ _ _ _ => pts_nil) (fun _ _ _ _ _ => (de_call (dfl := []) (ok__law_dice C) (Pas.of LamX.takes0) (hr.mono (by first | omega | decide)) rfl C.gl__law_dice C.kp__law_dice C.b__law_dice .nil (fun _ _ => .nil) (dl_cons (dv 3) dl_nil))))))))
theorem sc_law : FnScope N_law ["script"] (defScope s_law) := ⟨rfl, rfl, rfl, by decide +kernel, rfl, by decide +kernel, by decide +kernel⟩
theorem ok_law (C : Cnd K mg base) : FnOk P w K mg base (L2.CX P w) 6 (He.fAd K ("law", none)) (fdA K ("law", none)) ["script"] (fun vs H Q E => ∀ L, spD (gg K (ccLaw L)) 1 F_law vs H Q E) := by
    refine fn_okL (m := m_law) C.def_law sc_law rfl rfl fun A outer s H E hr => ?_
    have tk : Takes (cxOf (L2.CX P w) P w K mg base N_law "law" (defScope s_law) (He.fAd K ("law", none)) (fdA K ("law", none)).code A outer s H E) (fun cls d _ H => E cls d H) := takes_of rfl rfl rfl rfl
    have po : PassesOwn (model P w) (A.deeper (PyProof.Rows.envOfC "law" (defScope s_law) s.heap.objs.size (He.fAd K ("law", none)) (fdA K ("law", none)).code)) (PyProof.Rows.envOfC "law" (defScope s_law) s.heap.objs.size (He.fAd K ("law", none)) (fdA K ("law", none)).code) (cxOf (L2.CX P w) P w K mg base N_law "law" (defScope s_law) (He.fAd K ("law", none)) (fdA K ("law", none)).code A outer s H E).xe := passes_of rfl
    exact (dss_cons (ds_for (it_lst rfl) (pi_list (de_call (dfl := []) (ok__law_rounds C) (Pas.of tk) (hr.mono (by first | omega | decide)) rfl C.gl__law_rounds C.kp__law_rounds C.b__law_rounds .nil (fun _ _ => .nil) (dl_cons (dv 0) (dl_cons dk_int dl_nil)))) po rfl (pg_name (i := 1) sc_law.nd rfl (Or.inr rfl)) (rg_name) (goes_name)
  (dss_cons (ds_asgG (de_tup (dl_cons (de_make0 (ci := 2) (dfl := []) C.mk_Shares (ok_Shares_init C) (Pas.of tk) (hr.mono (by first | omega | decide)) rfl C.gl_Shares C.b_Shares_init .nil (fun _ _ => .nil)) (dl_cons de_dnew (dl_cons dk_int (dl_cons dk_int dl_nil))))) (pg_tup rfl (pgs_cons (pg_name (i := 8) sc_law.nd rfl (Or.inr rfl)) (pgs_cons (pg_name (i := 9) sc_law.nd rfl (Or.inr rfl)) (pgs_cons (pg_name (i := 10) sc_law.nd rfl (Or.inl rfl)) (pgs_cons (pg_name (i := 11) sc_law.nd rfl (Or.inl rfl)) pgs_nil))))) (rg_names (is := [8, 9, 10, 11]) (rgs_cons rg_name (rgs_cons rg_name (rgs_cons rg_name (rgs_cons rg_name rgs_nil))))) (goes_names))
  (dss_cons (ds_for it_rng1 (pi_range1 rfl (C.fr_range) (pa_cons (de_op op_addAny rs_add dk_int (de_call (dfl := []) (ok__law_roll C 5) (Pas.of tk) (hr.mono (by first | omega | decide)) rfl C.gl__law_roll C.kp__law_roll C.b__law_roll .nil (fun _ _ => .nil) (dl_cons (dv 1) (dl_cons dk_int dl_nil)))) pa_nil)) po rfl (pg_name (i := 4) sc_law.nd rfl (Or.inl rfl)) (rg_name) (goes_name)
  (dss_cons (ds_set (i := 6) sc_law.nd rfl (Or.inl rfl) (de_ix ix_seq rs_it dk_str (dv 4) (fun _ _ => rfl)))
  (dss_cons (ds_asgG (de_disp (ms := [((cM (.str "weight")), (binM (cM (.int 1)) (callM (consM (varM 1) (consM (cM (.int 10)) nilM)) (callF 2 [] (R__law_roll 5))) addM)), ((cM (.str "waits")), (lstM nilM)), ((cM (.str "point")), (cM (.int 0)))]) (pps_cons dk_str (de_op op_addAny rs_add dk_int (de_call (dfl := []) (ok__law_roll C 5) (Pas.of tk) (hr.mono (by first | omega | decide)) rfl C.gl__law_roll C.kp__law_roll C.b__law_roll .nil (fun _ _ => .nil) (dl_cons (dv 1) (dl_cons dk_int dl_nil)))) (pps_cons dk_str (de_lst dl_nil) (pps_cons dk_str dk_int pps_nil))) rfl rfl (fun z => by cases z) (by decide)) (pg_sub (dv 9) (dv 6) (set_dict (u1 hr.units)) (fun _ => rfl)) (rg_sub rset_dict) goes_sub)
  (dss_one (ds_expr (de_meth (ci := 2) (dv 8) C.cl_Shares C.me_Shares_add (ok_Shares_add C) (Pas.of tk) (hr.mono (by first | omega | decide)) C.b_Shares_add .nil (fun _ _ => .nil) (dl_cons (dv 6) (dl_cons (de_dget (u1 hr.units) (de_dget (u1 hr.units) (dv 9) (dv 6) (fun _ _ => rfl)) dk_str (fun _ _ => rfl)) dl_nil))))))))
  (dss_cons (ds_for it_rng1 (pi_range1 rfl (C.fr_range) (pa_cons (de_call (dfl := []) (ok__law_roll C 5) (Pas.of tk) (hr.mono (by first | omega | decide)) rfl C.gl__law_roll C.kp__law_roll C.b__law_roll .nil (fun _ _ => .nil) (dl_cons (dv 1) (dl_cons dk_int dl_nil))) pa_nil)) po rfl (pg_name (i := 5) sc_law.nd rfl (Or.inl rfl)) (rg_name) (goes_name)
  (dss_cons (ds_set (i := 6) sc_law.nd rfl (Or.inl rfl) (de_ix ix_seq rs_it (de_callTy (call_list_dK rfl) rs_listD rfl (C.fr_list) (by decide +kernel) (dl_cons (dv 9) dl_nil)) (de_call (dfl := []) (ok__law_roll C 5) (Pas.of tk) (hr.mono (by first | omega | decide)) rfl C.gl__law_roll C.kp__law_roll C.b__law_roll .nil (fun _ _ => .nil) (dl_cons (dv 1) (dl_cons (d_len rfl (C.fr_len) (dv 9)) dl_nil))) (fun _ _ => rfl)))
  (dss_cons (ds_set (i := 12) sc_law.nd rfl (Or.inl rfl) (de_dget (u1 hr.units) (dv 9) (dv 6) (fun _ _ => rfl)))
  (dss_cons (ds_if (dt_cmp (op_eqAny hr.units) rs_eq (de_call (dfl := []) (ok__law_roll C 5) (Pas.of tk) (hr.mono (by first | omega | decide)) rfl C.gl__law_roll C.kp__law_roll C.b__law_roll .nil (fun _ _ => .nil) (dl_cons (dv 1) (dl_cons dk_int dl_nil))) dk_int (nomark _))
  (dss_cons (ds_set (i := 17) sc_law.nd rfl (Or.inl rfl) (de_op op_addAny rs_add dk_int (de_call (dfl := []) (ok__law_roll C 5) (Pas.of tk) (hr.mono (by first | omega | decide)) rfl C.gl__law_roll C.kp__law_roll C.b__law_roll .nil (fun _ _ => .nil) (dl_cons (dv 1) (dl_cons dk_int dl_nil)))))
  (dss_cons (ds_set (i := 11) sc_law.nd rfl (Or.inl rfl) (de_op op_addAny rs_add (dv 11) dk_int))
  (dss_cons (ds_expr (de_meth (ci := 2) (dv 8) C.cl_Shares C.me_Shares_put (ok_Shares_put C) (Pas.of tk) (hr.mono (by first | omega | decide)) C.b_Shares_put .nil (fun _ _ => .nil) (dl_cons (dv 6) (dl_cons (dv 17) (dl_cons (dv 11) dl_nil)))))
  (dss_cons (ds_asgG (de_if (dt_cmp (op_eqAny hr.units) rs_eq (de_dget (u1 hr.units) (dv 12) dk_str (fun _ _ => rfl)) (de_lst dl_nil) (nomark _)) (de_callB (call_max2 rfl) rs_max2 rfl (C.fr_max) (by decide +kernel) (dl_cons (de_dget (u1 hr.units) (dv 12) dk_str (fun _ _ => rfl)) (dl_cons (dv 10) dl_nil))) (de_dget (u1 hr.units) (dv 12) dk_str (fun _ _ => rfl))) (pg_sub (dv 12) dk_str (set_dict (u1 hr.units)) (fun _ => rfl)) (rg_sub rset_dict) goes_sub)
  (dss_one (ds_asgG (de_op op_addAny rs_add (de_dget (u1 hr.units) (dv 12) dk_str (fun _ _ => rfl)) (de_lst (dl_cons (de_tup (dl_cons (dv 17) (dl_cons (dv 11) dl_nil))) dl_nil))) (pg_sub (dv 12) dk_str (set_dict (u1 hr.units)) (fun _ => rfl)) (rg_sub rset_dict) goes_sub))))))
  (dss_cons (ds_lock (pk := (refOf (varM 9))) (ds_setLcQ (i := 19) (own := [("one", 18)]) rfl sc_law.nd rfl rfl (sw_true rfl rfl rfl (by decide +kernel)) (pi_keys (dv 9)) it_keys (blkOk_by (N := N_law) (sc := (defScope s_law)) (own := [("one", 18)]) (by decide +kernel)) (fun _ => (rg_name)) (goes_name) (own_name (by decide)) (fun _ _ _ _ _ => (pg_name (i := 18) sc_law.nd rfl (Or.inl rfl))) (fun _ _ _ _ _ => (pts_one (dt_cmp (op_neAny hr.units) rs_ne (de_dget (u1 hr.units) (de_dget (u1 hr.units) (dv 9) (dv 18) (fun _ _ => rfl)) dk_str (fun _ _ => rfl)) (de_lst dl_nil) (nomark _)))) (fun _ _ _ _ _ => (de_tup (dl_cons (de_dget (u1 hr.units) (de_dget (u1 hr.units) (dv 9) (dv 18) (fun _ _ => rfl)) dk_str (fun _ _ => rfl)) (dl_cons (dv 18) dl_nil))))))
  (dss_cons (ds_set (i := 20) sc_law.nd rfl (Or.inl rfl) (de_meth0 (ci := 2) (dv 8) C.cl_Shares C.me_Shares_next_work (ok_Shares_next_work C) (Pas.of tk) (hr.mono (by first | omega | decide)) C.b_Shares_next_work .nil (fun _ _ => .nil)))
  (dss_cons (ds_if (dt_cmp (op_eqAny hr.units) rs_eq (dv 19) (de_lst dl_nil) (nomark _))
  (dss_cons (ds_if (dt_cmp op_isnAny rs_isn (dv 20) dk_non (nomark _))
  (dss_one (ds_ret dk_bl))
  dss_nil)
  (dss_one ds_continue))
  dss_nil)
  (dss_cons (ds_asgG (de_callB (call_minP hr) rs_minP rfl (C.fr_min) (by decide +kernel) (dl_cons (dv 19) dl_nil)) (pg_tup rfl (pgs_cons (pg_name (i := 10) sc_law.nd rfl (Or.inl rfl)) (pgs_cons (pg_name (i := 18) sc_law.nd rfl (Or.inl rfl)) pgs_nil))) (rg_names (is := [10, 18]) (rgs_cons rg_name (rgs_cons rg_name rgs_nil))) (goes_names))
  (dss_cons (ds_set (i := 12) sc_law.nd rfl (Or.inl rfl) (de_dget (u1 hr.units) (dv 9) (dv 18) (fun _ _ => rfl)))
  (dss_cons (ds_asgG (de_ix ix_seq rs_it (de_dget (u1 hr.units) (dv 12) dk_str (fun _ _ => rfl)) dk_int (fun _ _ => rfl)) (pg_tup rfl (pgs_cons (pg_name (i := 17) sc_law.nd rfl (Or.inl rfl)) (pgs_cons (pg_name (i := 21) sc_law.nd rfl (Or.inl rfl)) pgs_nil))) (rg_names (is := [17, 21]) (rgs_cons rg_name (rgs_cons rg_name rgs_nil))) (goes_names))
  (dss_cons (ds_asgG (de_tup (dl_cons (de_slice rfl (de_dget (u1 hr.units) (dv 12) dk_str (fun _ _ => rfl)) (do_some dk_int) do_none) (dl_cons (de_op op_addAny rs_add (dv 10) (de_op op_fdivW rs_fdiv (de_op op_mulAny rs_mul (dv 17) dk_int) (de_dget (u1 hr.units) (dv 12) dk_str (fun _ _ => rfl)))) dl_nil))) (pg_tup rfl (pgs_cons (pg_sub (dv 12) dk_str (set_dict (u1 hr.units)) (fun _ => rfl)) (pgs_cons (pg_sub (dv 12) dk_str (set_dict (u1 hr.units)) (fun _ => rfl)) pgs_nil))) (rg_tups (fs := [(subG (varM 12) (cM (.str "waits")) setDF), (subG (varM 12) (cM (.str "point")) setDF)]) (rgs_cons (rg_sub rset_dict) (rgs_cons (rg_sub rset_dict) rgs_nil))) (goes_tupX (gl_cons goes_sub (gl_cons goes_sub gl_nil))))
  (dss_one (ds_if (dt_cmp (op_neAny hr.units) rs_ne (dv 20) (de_tup (dl_cons (dv 18) (dl_cons (dv 17) (dl_cons (dv 21) dl_nil)))) (nomark _))
  (dss_one (ds_ret dk_bl))
  dss_nil))))))))))
  (dss_one (ds_if (PW.pt (dw_or (dt_cmp (op_neAny hr.units) rs_ne (de_fld rfl C.no_point (dv 8)) (dv 10) (nomark _)) (pw_or1 (dt_cmp (op_neAny hr.units) rs_neP (de_lock (pk := (refOf (varM 9))) (de_lcQ (own := [("one", 18)]) rfl sc_law.nd (pi_keys (dv 9)) it_keys (blkOk_by (N := N_law) (sc := (defScope s_law)) (own := [("one", 18)]) (by decide +kernel)) (fun _ => (rg_name)) (goes_name) (own_name (by decide)) (fun _ _ _ _ _ => (pg_name (i := 18) sc_law.nd rfl (Or.inl rfl))) (fun _ _ _ _ _ => pts_nil) (fun _ _ _ _ _ => (de_tup (dl_cons (dv 18) (dl_cons (de_fld rfl C.no_point (de_dget (u1 hr.units) (de_fld rfl C.no_tenants (dv 8)) (dv 18) (fun _ _ => rfl))) (dl_cons (de_fld rfl C.no_waits (de_dget (u1 hr.units) (de_fld rfl C.no_tenants (dv 8)) (dv 18) (fun _ _ => rfl))) dl_nil))))))) (de_lock (pk := (refOf (varM 9))) (de_lcQ (own := [("one", 18)]) rfl sc_law.nd (pi_keys (dv 9)) it_keys (blkOk_by (N := N_law) (sc := (defScope s_law)) (own := [("one", 18)]) (by decide +kernel)) (fun _ => (rg_name)) (goes_name) (own_name (by decide)) (fun _ _ _ _ _ => (pg_name (i := 18) sc_law.nd rfl (Or.inl rfl))) (fun _ _ _ _ _ => pts_nil) (fun _ _ _ _ _ => (de_tup (dl_cons (dv 18) (dl_cons (de_dget (u1 hr.units) (de_dget (u1 hr.units) (dv 9) (dv 18) (fun _ _ => rfl)) dk_str (fun _ _ => rfl)) (dl_cons (de_dget (u1 hr.units) (de_dget (u1 hr.units) (dv 9) (dv 18) (fun _ _ => rfl)) dk_str (fun _ _ => rfl)) dl_nil))))))) (nomark _)))))
  (dss_one (ds_ret dk_bl))
  dss_nil))))))
  (dss_cons (ds_asgG (de_tup (dl_cons (de_make0 (ci := 2) (dfl := []) C.mk_Shares (ok_Shares_init C) (Pas.of tk) (hr.mono (by first | omega | decide)) rfl C.gl_Shares C.b_Shares_init .nil (fun _ _ => .nil)) (dl_cons de_dnew (dl_cons de_dnew (dl_cons de_dnew dl_nil))))) (pg_tup rfl (pgs_cons (pg_name (i := 13) sc_law.nd rfl (Or.inl rfl)) (pgs_cons (pg_name (i := 14) sc_law.nd rfl (Or.inl rfl)) (pgs_cons (pg_name (i := 15) sc_law.nd rfl (Or.inl rfl)) (pgs_cons (pg_name (i := 16) sc_law.nd rfl (Or.inl rfl)) pgs_nil))))) (rg_names (is := [13, 14, 15, 16]) (rgs_cons rg_name (rgs_cons rg_name (rgs_cons rg_name (rgs_cons rg_name rgs_nil))))) (goes_names))
  (dss_cons (ds_lock (pk := (refOf (varM 9))) (ds_for it_keys (pi_keys (dv 9)) po rfl (pg_name (i := 6) sc_law.nd rfl (Or.inl rfl)) (rg_name) (goes_name)
  (dss_cons (ds_expr (de_meth (ci := 2) (dv 13) C.cl_Shares C.me_Shares_add (ok_Shares_add C) (Pas.of tk) (hr.mono (by first | omega | decide)) C.b_Shares_add .nil (fun _ _ => .nil) (dl_cons (dv 6) (dl_cons (de_dget (u1 hr.units) (de_dget (u1 hr.units) (dv 9) (dv 6) (fun _ _ => rfl)) dk_str (fun _ _ => rfl)) dl_nil))))
  (dss_cons (ds_asgG (de_lcQ (own := [("k", 4)]) rfl sc_law.nd (pi_range1 rfl (C.fr_range) (pa_cons dk_int pa_nil)) it_rng1 (blkOk_by (N := N_law) (sc := (defScope s_law)) (own := [("k", 4)]) (by decide +kernel)) (fun _ => (rg_name)) (goes_name) (own_name (by decide)) (fun _ _ _ _ _ => (pg_name (i := 4) sc_law.nd rfl (Or.inl rfl))) (fun _ _ _ _ _ => pts_nil) (fun _ _ _ _ _ => (de_op op_addAny rs_add dk_int (de_call (dfl := []) (ok__law_roll C 5) (Pas.of LamX.takes0) (hr.mono (by first | omega | decide)) rfl C.gl__law_roll C.kp__law_roll C.b__law_roll .nil (fun _ _ => .nil) (dl_cons (dv 1) (dl_cons dk_int dl_nil)))))) (pg_sub (dv 14) (dv 6) (set_dict (u1 hr.units)) (fun _ => rfl)) (rg_sub rset_dict) goes_sub)
  (dss_cons (ds_asgG (de_tup (dl_cons dk_int (dl_cons dk_int dl_nil))) (pg_tup rfl (pgs_cons (pg_sub (dv 15) (dv 6) (set_dict (u1 hr.units)) (fun _ => rfl)) (pgs_cons (pg_sub (dv 16) (dv 6) (set_dict (u1 hr.units)) (fun _ => rfl)) pgs_nil))) (rg_tups (fs := [(subG (varM 15) (varM 6) setDF), (subG (varM 16) (varM 6) setDF)]) (rgs_cons (rg_sub rset_dict) (rgs_cons (rg_sub rset_dict) rgs_nil))) (goes_tupX (gl_cons goes_sub (gl_cons goes_sub gl_nil))))
  (dss_one (ds_for (it_lst rfl) (pi_list (de_dget (u1 hr.units) (dv 14) (dv 6) (fun _ _ => rfl))) po rfl (pg_name (i := 17) sc_law.nd rfl (Or.inl rfl)) (rg_name) (goes_name)
  (dss_one (ds_expr (de_meth (ci := 2) (dv 13) C.cl_Shares C.me_Shares_put (ok_Shares_put C) (Pas.of tk) (hr.mono (by first | omega | decide)) C.b_Shares_put .nil (fun _ _ => .nil) (dl_cons (dv 6) (dl_cons (dv 17) (dl_cons dk_int dl_nil)))))))))))))
  (dss_one (ds_for it_rng1 (pi_range1 rfl (C.fr_range) (pa_cons dk_int pa_nil)) po rfl (pg_name (i := 7) sc_law.nd rfl (Or.inl rfl)) (rg_name) (goes_name)
  (dss_cons (ds_asgG (de_meth0 (ci := 2) (dv 13) C.cl_Shares C.me_Shares_next_work (ok_Shares_next_work C) (Pas.of tk) (hr.mono (by first | omega | decide)) C.b_Shares_next_work .nil (fun _ _ => .nil)) (pg_tup rfl (pgs_cons (pg_name (i := 6) sc_law.nd rfl (Or.inl rfl)) (pgs_cons (pg_name (i := 17) sc_law.nd rfl (Or.inl rfl)) (pgs_cons (pg_name (i := 21) sc_law.nd rfl (Or.inl rfl)) pgs_nil)))) (rg_names (is := [6, 17, 21]) (rgs_cons rg_name (rgs_cons rg_name (rgs_cons rg_name rgs_nil)))) (goes_names))
  (dss_cons (ds_asgG (de_tup (dl_cons (de_op op_addAny rs_add (de_dget (u1 hr.units) (dv 15) (dv 6) (fun _ _ => rfl)) (dv 17)) (dl_cons (de_op op_addAny rs_add (de_dget (u1 hr.units) (dv 16) (dv 6) (fun _ _ => rfl)) dk_int) dl_nil))) (pg_tup rfl (pgs_cons (pg_sub (dv 15) (dv 6) (set_dict (u1 hr.units)) (fun _ => rfl)) (pgs_cons (pg_sub (dv 16) (dv 6) (set_dict (u1 hr.units)) (fun _ => rfl)) pgs_nil))) (rg_tups (fs := [(subG (varM 15) (varM 6) setDF), (subG (varM 16) (varM 6) setDF)]) (rgs_cons (rg_sub rset_dict) (rgs_cons (rg_sub rset_dict) rgs_nil))) (goes_tupX (gl_cons goes_sub (gl_cons goes_sub gl_nil))))
  (dss_one (ds_lock (pk := (refOf (varM 9))) (ds_for it_keys (pi_keys (dv 9)) po rfl (pg_name (i := 18) sc_law.nd rfl (Or.inl rfl)) (rg_name) (goes_name)
  (dss_one (ds_lock (pk := (refOf (varM 9))) (ds_for it_keys (pi_keys (dv 9)) po rfl (pg_name (i := 22) sc_law.nd rfl (Or.inl rfl)) (rg_name) (goes_name)
  (dss_cons (ds_set (i := 23) sc_law.nd rfl (Or.inl rfl) (de_op op_sub rs_sub (de_op op_fdivW rs_fdiv (de_op op_mulAny rs_mul (de_dget (u1 hr.units) (dv 15) (dv 18) (fun _ _ => rfl)) dk_int) (de_dget (u1 hr.units) (de_dget (u1 hr.units) (dv 9) (dv 18) (fun _ _ => rfl)) dk_str (fun _ _ => rfl))) (de_op op_fdivW rs_fdiv (de_op op_mulAny rs_mul (de_dget (u1 hr.units) (dv 15) (dv 22) (fun _ _ => rfl)) dk_int) (de_dget (u1 hr.units) (de_dget (u1 hr.units) (dv 9) (dv 22) (fun _ _ => rfl)) dk_str (fun _ _ => rfl)))))
  (dss_one (ds_if (dt_cmp op_gt rs_gt (dv 23) (de_op op_addAny rs_add (de_op op_addAny rs_add (de_op op_addAny rs_add (de_op op_addAny rs_add (de_op op_fdivW rs_fdiv (de_op op_mulAny rs_mul (de_callB (call_maxA rfl) rs_maxA rfl (C.fr_max) (by decide +kernel) (dl_cons (de_dget (u1 hr.units) (dv 14) (dv 18) (fun _ _ => rfl)) dl_nil)) dk_int) (de_dget (u1 hr.units) (de_dget (u1 hr.units) (dv 9) (dv 18) (fun _ _ => rfl)) dk_str (fun _ _ => rfl))) (de_op op_fdivW rs_fdiv (de_op op_mulAny rs_mul (de_callB (call_maxA rfl) rs_maxA rfl (C.fr_max) (by decide +kernel) (dl_cons (de_dget (u1 hr.units) (dv 14) (dv 22) (fun _ _ => rfl)) dl_nil)) dk_int) (de_dget (u1 hr.units) (de_dget (u1 hr.units) (dv 9) (dv 22) (fun _ _ => rfl)) dk_str (fun _ _ => rfl)))) (de_dget (u1 hr.units) (dv 16) (dv 18) (fun _ _ => rfl))) (de_dget (u1 hr.units) (dv 16) (dv 22) (fun _ _ => rfl))) dk_int) (nomark _))
  (dss_one (ds_ret dk_bl))
  dss_nil)))))))))))))))))))
  (dss_cons (ds_set (i := 2) sc_law.nd rfl (Or.inr rfl) (de_make0 (ci := 2) (dfl := []) C.mk_Shares (ok_Shares_init C) (Pas.of tk) (hr.mono (by first | omega | decide)) rfl C.gl_Shares C.b_Shares_init .nil (fun _ _ => .nil)))
  (dss_cons (ds_expr (de_meth (ci := 2) (dv 2) C.cl_Shares C.me_Shares_add (ok_Shares_add C) (Pas.of tk) (hr.mono (by first | omega | decide)) C.b_Shares_add .nil (fun _ _ => .nil) (dl_cons dk_str (dl_cons dk_int dl_nil))))
  (dss_cons (ds_set (i := 3) sc_law.nd rfl (Or.inl rfl) (de_lst (dl_cons (de_lamV (i := 0) C.tb_law C.hc_law C.hT_law C.hu_law (C.lv_0) rfl rfl (LamX.lamS_by (by rfl))) (dl_cons (de_lamV (i := 1) C.tb_law C.hc_law C.hT_law C.hu_law (C.lv_1) rfl rfl (LamX.lamS_by (by rfl))) (dl_cons (de_lamV (i := 2) C.tb_law C.hc_law C.hT_law C.hu_law (C.lv_2) rfl rfl (LamX.lamS_by (by rfl))) (dl_cons (de_lamV (i := 3) C.tb_law C.hc_law C.hT_law C.hu_law (C.lv_3) rfl rfl (LamX.lamS_by (by rfl))) (dl_cons (de_lamV (i := 4) C.tb_law C.hc_law C.hT_law C.hu_law (C.lv_4) rfl rfl (LamX.lamS_by (by rfl))) dl_nil)))))))
  (dss_one (ds_ret (de_and (de_cmp (op_eqAny hr.units) rs_eqP (de_lcG (i := 24) (x := "f") (jf := law_l8j) (frf := law_l8f) rfl rfl sc_law.nd (dv 3) (blkOk_by (N := N_law) (sc := (defScope s_law)) (own := [("f", 24)]) (by decide +kernel)) (fun _ _ _ _ _ => (pg_name (i := 24) sc_law.nd rfl (Or.inl rfl))) (fun _ _ _ _ _ wf gdh => (dt_cmpG (op_neAny hr.units) rs_ne (toldsG__law_told C hr ⟨rfl, rfl, rfl⟩ (ms := law_l8) (jf := law_l8j) (frf := law_l8f) (wf := wf) (dv 24) (fun i I0 h => by
  rcases (C.lv_all i I0 h) with ⟨rfl, h⟩ | ⟨rfl, h⟩ | ⟨rfl, h⟩ | ⟨rfl, h⟩ | ⟨rfl, h⟩
  · cases h; exact ⟨rfl, NdefX.nscope_by (by rfl), (gdh 0 _ rfl).1, fun y c e => (gdh 0 _ rfl).2 y c e, fun _ _ _ _ _ => rfl, fun A1 outer1 s1 H1 E1 f1 c1 hrl => (de_meth (ci := 2) (dv 0) C.cl_Shares C.me_Shares_add (ok_Shares_add C) (Pas.of ncx_takes) (hrl.mono (by first | omega | decide)) C.b_Shares_add .nil (fun _ _ => .nil) (dl_cons dk_str (dl_cons dk_int dl_nil)))⟩
  · cases h; exact ⟨rfl, NdefX.nscope_by (by rfl), (gdh 1 _ rfl).1, fun y c e => (gdh 1 _ rfl).2 y c e, fun _ _ _ _ _ => rfl, fun A1 outer1 s1 H1 E1 f1 c1 hrl => (de_meth (ci := 2) (dv 0) C.cl_Shares C.me_Shares_add (ok_Shares_add C) (Pas.of ncx_takes) (hrl.mono (by first | omega | decide)) C.b_Shares_add .nil (fun _ _ => .nil) (dl_cons dk_str (dl_cons dk_int dl_nil)))⟩
  · cases h; exact ⟨rfl, NdefX.nscope_by (by rfl), (gdh 2 _ rfl).1, fun y c e => (gdh 2 _ rfl).2 y c e, fun _ _ _ _ _ => rfl, fun A1 outer1 s1 H1 E1 f1 c1 hrl => (de_meth (ci := 2) (dv 0) C.cl_Shares C.me_Shares_add (ok_Shares_add C) (Pas.of ncx_takes) (hrl.mono (by first | omega | decide)) C.b_Shares_add .nil (fun _ _ => .nil) (dl_cons dk_str (dl_cons dk_int dl_nil)))⟩
  · cases h; exact ⟨rfl, NdefX.nscope_by (by rfl), (gdh 3 _ rfl).1, fun y c e => (gdh 3 _ rfl).2 y c e, fun _ _ _ _ _ => rfl, fun A1 outer1 s1 H1 E1 f1 c1 hrl => (de_meth (ci := 2) (dv 0) C.cl_Shares C.me_Shares_put (ok_Shares_put C) (Pas.of ncx_takes) (hrl.mono (by first | omega | decide)) C.b_Shares_put .nil (fun _ _ => .nil) (dl_cons dk_str (dl_cons dk_int (dl_cons dk_int dl_nil))))⟩
  · cases h; exact ⟨rfl, NdefX.nscope_by (by rfl), (gdh 4 _ rfl).1, fun y c e => (gdh 4 _ rfl).2 y c e, fun _ _ _ _ _ => rfl, fun A1 outer1 s1 H1 E1 f1 c1 hrl => (de_meth (ci := 2) (dv 0) C.cl_Shares C.me_Shares_put (ok_Shares_put C) (Pas.of ncx_takes) (hrl.mono (by first | omega | decide)) C.b_Shares_put .nil (fun _ _ => .nil) (dl_cons dk_str (dl_cons dk_int (dl_cons dk_int dl_nil))))⟩)) dk_str (nomark _))) (fun _ _ _ _ _ => dk_int) (fun i I0 h => by
  rcases (C.lv_all i I0 h) with ⟨rfl, h⟩ | ⟨rfl, h⟩ | ⟨rfl, h⟩ | ⟨rfl, h⟩ | ⟨rfl, h⟩
  · cases h; exact ⟨rfl, NdefX.ndef_free (fr := ["fresh"]) (by rfl), NdefX.ndef_fr (sc := (defScope s_law)) (by rfl), rfl, by decide⟩
  · cases h; exact ⟨rfl, NdefX.ndef_free (fr := ["fresh"]) (by rfl), NdefX.ndef_fr (sc := (defScope s_law)) (by rfl), rfl, by decide⟩
  · cases h; exact ⟨rfl, NdefX.ndef_free (fr := ["fresh"]) (by rfl), NdefX.ndef_fr (sc := (defScope s_law)) (by rfl), rfl, by decide⟩
  · cases h; exact ⟨rfl, NdefX.ndef_free (fr := ["fresh"]) (by rfl), NdefX.ndef_fr (sc := (defScope s_law)) (by rfl), rfl, by decide⟩
  · cases h; exact ⟨rfl, NdefX.ndef_free (fr := ["fresh"]) (by rfl), NdefX.ndef_fr (sc := (defScope s_law)) (by rfl), rfl, by decide⟩) env_above) (de_lst dl_nil) (nomark _)) (de_and (de_cmp op_isAny rs_is (de_meth0 (ci := 2) (dv 2) C.cl_Shares C.me_Shares_next_work (ok_Shares_next_work C) (Pas.of tk) (hr.mono (by first | omega | decide)) C.b_Shares_next_work .nil (fun _ _ => .nil)) dk_non (nomark _)) (pe_one (de_cmp (op_eqAny hr.units) rs_eq (de_fld rfl C.no_waits (de_make (ci := 1) (dfl := []) C.mk_Tenant (ok_Tenant_init C) (Pas.of tk) (hr.mono (by first | omega | decide)) rfl C.gl_Tenant C.b_Tenant_init .nil (fun _ _ => .nil) (dl_cons dk_int dl_nil))) (de_lst dl_nil) (nomark _)))))))))))
end
end K23
end

section
set_option Elab.async false
set_option linter.all false
set_option maxRecDepth 100000
set_option maxHeartbeats 0
namespace DD
open PySem L2
/-- a list of ints, as the mirror has it -/
theorem den_ints {g : G} {α : List Addr} {H : Hp} : ∀ ns : List Int, DenL g α H (ns.map D.int) (ns.map V.int)
  | [] => .nil
  | n :: ns => .cons (.int n) (den_ints ns)
/-- the script, as it is handed in: two ways in which it may stand -/
def Scr (ns : List Int) (d : D) (h : AH) : Prop := (d = .ref 0 ∧ h = [.lst (ns.map D.int)]) ∨ (d = .fls (ns.map D.int) ∧ h = [])
theorem sp_scr {g : G} {F : List D → AH → EO} {H : Hp} {a : Addr} {ns : List Int} (hT : LamX.Tabs g.T H) (hS : SqL g.K H a (ns.map V.int)) (hF : ∀ d h, Scr ns d h → ∃ h', F [d] h = .ok (.bl true) h') :
    spD g 1 F [.ref a] H (fun v _ => v = .bl true) (fun _ _ _ => False) := by
  have fin : ∀ {α : List Addr} {h : AH} {d : D}, Rep g α h H → Den g α H d (.ref a) → (∃ h', F [d] h = .ok (.bl true) h') → spD g 1 F [.ref a] H (fun v _ => v = .bl true) (fun _ _ _ => False) := fun {α h d} R D1 ⟨h', e⟩ => by
    refine ⟨α, h, [d], R, .cons D1 .nil, rfl, ?_⟩
    rw [e]
    intro α' H' v _ _ Dv
    cases Dv
    rfl
  rcases hS with (hS | ⟨o, hS⟩) | hS
  · refine fin (α := [a]) (h := [.lst (ns.map D.int)]) (d := .ref 0) ⟨rfl, by simp, hT, fun l o b h1 h2 => ?_⟩ (.ref rfl) (hF _ _ (.inl ⟨rfl, rfl⟩))
    have hl : l = 0 := by
      have := (List.getElem?_eq_some_iff.mp h1).1
      simp at this
      exact this
    subst hl
    simp at h1 h2
    subst h1 h2
    exact ⟨_, hS, den_ints ns⟩
  · exact fin (α := []) (h := []) (d := .fls (ns.map D.int)) ⟨rfl, .nil, hT, fun l o b h1 h2 => by simp at h1⟩ (.fls (.inl ⟨o, hS⟩) (den_ints ns)) (hF _ _ (.inr ⟨rfl, rfl⟩))
  · exact fin (α := []) (h := []) (d := .fls (ns.map D.int)) ⟨rfl, .nil, hT, fun l o b h1 h2 => by simp at h1⟩ (.fls (.inr hS) (den_ints ns)) (hF _ _ (.inr ⟨rfl, rfl⟩))
end DD
end

section
set_option Elab.async false
set_option linter.all false
set_option maxRecDepth 100000
set_option maxHeartbeats 0
namespace K23
open PySem L2 DD
theorem lawAt {l : PySem.W.OpenLaw} {w : World} {K : PySem.W.Frag} {mg : Str → Option Value} {f : Addr} {h : Heap} {ts : List Addr} (KX : K.In h) (T : ∀ P ∈ ts, h.get? P = some (PySem.W.tabObj #[])) (G : h.Ns mainGlobals mg) (hf : mg "law" = some (.ref f))
    (c : He.SaysD fa fn K) (lb : lams.all (lamB K ts) = true) (nd : (lams.map (tabA K)).Nodup)
    (math : ∀ ns : List Int, ns.length ≤ 63 → (∀ z ∈ ns, Builtin.Int.intBits z ≤ 1048576) → ∀ d h, Scr ns d h → ∃ h', F_law [d] h = .ok (.bl true) h') :
    LamX.LawAtS l w K (L2.CX l.prog w) 6 63 "script" mg f h := by
  have lb' : ∀ p ∈ lams, lamB K ts p = true := List.all_eq_true.mp lb
  have hT : ∀ cc, ∀ p ∈ (gg K cc).T, ∃ q ∈ lams, p.1 = tabA K q := by
    intro cc p hp
    unfold gg at hp
    simp only [List.mem_cons, List.mem_nil_iff, or_false] at hp
    unfold lams
    rcases hp with rfl | rfl <;> exact ⟨_, by simp, rfl⟩
  have F0 := fdA_ok (c.def_ (fn.length - 1) (d := dd_law) rfl)
  have e := hf.symm.trans (He.glo_ok KX G (c.fact 9 (f := .glo "law") rfl))
  cases e
  refine ⟨fdA K ("law", none), lams.map fun p => (codeA K p, tabA K p), fun vs H Q E => ∀ L, spD (gg K (ccLaw L)) 1 F_law vs H Q E, fun p hp => ?_, fun p hp => ?_, fun p hp => ?_, fun s u => ?_, fun H a ns hl hb hH hS => ?_, fun base KB GB TB => ?_⟩
  · obtain ⟨q, hq, rfl⟩ := List.mem_map.mp hp
    exact T _ (lamB_ok (lb' q hq)).2.2.1
  · obtain ⟨q, hq, rfl⟩ := List.mem_map.mp hp
    exact (lamB_ok (lb' q hq)).2.2.2
  · obtain ⟨q, hq, rfl⟩ := List.mem_map.mp hp
    exact PySem.W.codeHd_of_K KX (lamB_ok (lb' q hq)).2.1
  · exact FunD.bindsA (ps := ["script"]) F0 (fun _ _ _ _ _ _ us hl => match us, hl with | [_], _ => rfl) s [u] rfl
  · intro L; refine sp_scr ?_ hS (math ns hl hb)
    intro p hp
    obtain ⟨q, hq, e⟩ := hT _ p hp
    have z := hH (codeA K q, tabA K q) (List.mem_map.mpr ⟨q, hq, rfl⟩)
    rw [e]
    exact LamX.TabS.nil z
  · have C : Cnd K mg base := ⟨c, KB, GB, fun p hp => TB _ (List.mem_map.mpr ⟨p, hp, rfl⟩), fun p hp => (lamB_ok (lb' p hp)).1, nd⟩
    exact ok_law C
end K23
end

section
set_option Elab.async false
set_option linter.all false
set_option maxRecDepth 100000
set_option maxHeartbeats 1000000
/-! Running the mirrors: each by its equation where it is applied to all of its arguments. -/
namespace DD
open PySem L2
section
variable {d : D} {h : AH} {c : Nat} {f : D → AH → EO} {τ : SL} {fs : D → AH → SO} {fl : D → AH → LO} {ds : List D} {fe : List D → AH → EO} {g : SL → AH → SO} {gl : List D → AH → LO}
theorem bind_ok : (EO.ok d h).bind f = f d h := Eq.trans rfl rfl
theorem bind_exc : (EO.exc c h).bind f = .exc c h := Eq.trans rfl rfl
theorem toS_ok : (EO.ok d h).toS τ fs = fs d h := Eq.trans rfl rfl
theorem toS_exc : (EO.exc c h).toS τ fs = .exc c τ h := Eq.trans rfl rfl
theorem bindL_ok : (EO.ok d h).bindL fl = fl d h := Eq.trans rfl rfl
theorem bindL_exc : (EO.exc c h).bindL fl = .exc c h := Eq.trans rfl rfl
theorem lbind_ok : (LO.ok ds h).bind gl = gl ds h := Eq.trans rfl rfl
theorem lbind_exc : (LO.exc c h).bind gl = .exc c h := Eq.trans rfl rfl
theorem bindE_ok : (LO.ok ds h).bindE fe = fe ds h := Eq.trans rfl rfl
theorem bindE_exc : (LO.exc c h).bindE fe = .exc c h := Eq.trans rfl rfl
theorem sbind_nx : (SO.nx τ h).bind g = g τ h := Eq.trans rfl rfl
theorem sbind_rt : (SO.rt d h).bind g = .rt d h := Eq.trans rfl rfl
theorem sbind_exc : (SO.exc c τ h).bind g = .exc c τ h := Eq.trans rfl rfl
theorem sbind_bk : (SO.bk τ h).bind g = .bk τ h := Eq.trans rfl rfl
theorem sbind_ct : (SO.ct τ h).bind g = .ct τ h := Eq.trans rfl rfl
theorem ret_nx : retOf (.nx τ h) = .ok .non h := Eq.trans rfl rfl
theorem ret_rt : retOf (.rt d h) = .ok d h := Eq.trans rfl rfl
theorem ret_exc : retOf (.exc c τ h) = .exc c h := Eq.trans rfl rfl
end
section
variable {τ : SL} {h : AH} {a b e : EM} {i : Nat} {d : D} {f : D → D → AH → EO} {u : D → AH → EO} {m : LM} {sa sb : SM} {F : List D → AH → EO} {dfl : List D} {n : Nat} {mt : Str}
theorem varM_e : varM i τ h = match τ[i]? with | some (some d) => .ok d h | _ => .bad := Eq.trans rfl rfl
theorem varM_0 {t : SL} : varM 0 (some d :: t) h = .ok d h := Eq.trans rfl rfl
theorem varM_1 {a0 : Option D} {t : SL} : varM 1 (a0 :: some d :: t) h = .ok d h := Eq.trans rfl rfl
theorem varM_2 {a0 a1 : Option D} {t : SL} : varM 2 (a0 :: a1 :: some d :: t) h = .ok d h := Eq.trans rfl rfl
theorem varM_3 {a0 a1 a2 : Option D} {t : SL} : varM 3 (a0 :: a1 :: a2 :: some d :: t) h = .ok d h := Eq.trans rfl rfl
theorem varM_4 {a0 a1 a2 a3 : Option D} {t : SL} : varM 4 (a0 :: a1 :: a2 :: a3 :: some d :: t) h = .ok d h := Eq.trans rfl rfl
theorem varM_5 {a0 a1 a2 a3 a4 : Option D} {t : SL} : varM 5 (a0 :: a1 :: a2 :: a3 :: a4 :: some d :: t) h = .ok d h := Eq.trans rfl rfl
theorem cM_e : cM d τ h = .ok d h := Eq.trans rfl rfl
theorem binM_e : binM a b f τ h = (a τ h).bind fun x h1 => (b τ h1).bind fun y h2 => f x y h2 := Eq.trans rfl rfl
theorem unM_e : unM a u τ h = (a τ h).bind fun x h1 => u x h1 := Eq.trans rfl rfl
theorem seqM_e : seqM sa sb τ h = (sa τ h).bind sb := Eq.trans rfl rfl
theorem setM_e : setM i e τ h = (e τ h).toS τ fun d h1 => .nx (τ.set i (some d)) h1 := Eq.trans rfl rfl
theorem exprM_e : exprM e τ h = (e τ h).toS τ fun _ h1 => .nx τ h1 := Eq.trans rfl rfl
theorem retM_e : retM e τ h = (e τ h).toS τ fun d h1 => .rt d h1 := Eq.trans rfl rfl
theorem raiseM_e : raiseM i τ h = .exc i τ h := Eq.trans rfl rfl
theorem passM_e : passM τ h = .nx τ h := Eq.trans rfl rfl
theorem brkM_e : brkM τ h = .bk τ h := Eq.trans rfl rfl
theorem ifSM_e : ifSM e sa sb τ h = (e τ h).toS τ fun d h1 => match d with | .bl true => sa τ h1 | .bl false => sb τ h1 | _ => .bad := Eq.trans rfl rfl
theorem ifM_e {c : EM} : ifM c a b τ h = (c τ h).bind fun d h1 => match d with | .bl true => a τ h1 | .bl false => b τ h1 | _ => .bad := Eq.trans rfl rfl
theorem andM_e : andM a b τ h = (a τ h).bind fun d h1 => match d with | .bl true => b τ h1 | .bl false => .ok (.bl false) h1 | _ => .bad := Eq.trans rfl rfl
theorem orM_e : orM a b τ h = (a τ h).bind fun d h1 => match d with | .bl false => b τ h1 | .bl true => .ok (.bl true) h1 | _ => .bad := Eq.trans rfl rfl
theorem notM_e : notM a τ h = (a τ h).bind fun d h1 => match d with | .bl b => .ok (.bl (!b)) h1 | _ => .bad := Eq.trans rfl rfl
theorem nilM_e : nilM τ h = .ok [] h := Eq.trans rfl rfl
theorem consM_e : consM a m τ h = (a τ h).bindL fun d h1 => (m τ h1).bind fun ds h2 => .ok (d :: ds) h2 := Eq.trans rfl rfl
theorem callM_e : callM m F τ h = (m τ h).bindE F := Eq.trans rfl rfl
theorem tupM_e : tupM m τ h = (m τ h).bindE fun ds h1 => if ds.length ≤ sizeLine then .ok (.tup ds) h1 else .bad := Eq.trans rfl rfl
theorem lstM_e : lstM m τ h = (m τ h).bindE fun ds h1 => if ds.length ≤ sizeLine then .ok (.ref h1.length) (h1 ++ [.lst ds]) else .bad := Eq.trans rfl rfl
theorem bmM_e {fm : D → List D → AH → EO} : bmM a m fm τ h = (a τ h).bind fun d h1 => match d with | .ref l => (match h1[l]? with | some (.lst _) => (m τ h1).bindE fun ds h2 => fm d ds h2 | _ => .bad) | _ => .bad := Eq.trans rfl rfl
theorem smM_e {fm : Str → D → AH → EO} : smM a b fm τ h = (a τ h).bind fun d h1 => match d with | .str x => (b τ h1).bind fun y h2 => fm x y h2 | _ => .bad := Eq.trans rfl rfl
theorem methF_e {ci : Nat} : methF mt ci n dfl F a m τ h = (a τ h).bind fun d h1 => match d with | .ref l => (match h1[l]? with | some (.ins c' fs) => if c' = ci ∧ fs.lookup mt = none then (m τ h1).bindE fun ds h2 => callF n dfl F (d :: ds) h2 else .bad | _ => .bad) | _ => .bad := Eq.trans rfl rfl
theorem asgM_e {t : TM} : asgM e t τ h = (e τ h).toS τ fun d h1 => t d τ h1 := Eq.trans rfl rfl
theorem subG_e {v : D} {fz : D → D → D → AH → Option AH} : subG a b fz v τ h = (a τ h).toS τ fun d h1 => (b τ h1).toS τ fun k h2 => match fz d k v h2 with | some h3 => .nx τ h3 | none => .bad := Eq.trans rfl rfl
theorem nameG_e {v : D} : nameG i v τ h = .nx (τ.set i (some v)) h := Eq.trans rfl rfl
theorem slM_e {lo hi : OM} : slM a lo hi τ h = (a τ h).bind fun x h1 => lo.run τ h1 fun l h2 => hi.run τ h2 fun u h3 => sliceM x l u h3 := Eq.trans rfl rfl
theorem om_none {k : Option Int → AH → EO} : OM.none.run τ h k = k none h := Eq.trans rfl rfl
theorem om_some {k : Option Int → AH → EO} : (OM.some e).run τ h k = (e τ h).bind fun d h1 => match d with | .int i => k (some i) h1 | _ => .bad := Eq.trans rfl rfl
theorem fldSetM_e {cs : List Nat} {fl : Str} : fldSetM fl cs a b τ h = (b τ h).toS τ fun y h1 => (a τ h1).toS τ fun d h2 => match d with | .ref l => (match h2[l]? with | some (.ins c fs) => if c ∈ cs ∧ fs.length < 1000 then .nx τ (h2.set l (.ins c (putD fl y fs))) else .bad | _ => .bad) | _ => .bad := Eq.trans rfl rfl
theorem toldM_e {c : Nat → Option Bool} {r : Str} : toldM c r e τ h = match e τ h with | .ok d h' => .ok d h' | .exc i h' => (match c i with | some true => .ok (.str r) h' | _ => .bad) | .bad => .bad := Eq.trans rfl rfl
/-! values -/
theorem add_ii {i j : Int} : addM (.int i) (.int j) h = .ok (.int (i + j)) h := Eq.trans rfl rfl
theorem add_tt {x y : List D} : addM (.tup x) (.tup y) h = if x.length + y.length ≤ sizeLine then .ok (.tup (x ++ y)) h else .bad := Eq.trans rfl rfl
theorem sub_ii {i j : Int} : subM (.int i) (.int j) h = .ok (.int (i - j)) h := Eq.trans rfl rfl
theorem mul_ii {i j : Int} : mulM (.int i) (.int j) h = if CMb' i j = true then .ok (.int (i * j)) h else .bad := Eq.trans rfl rfl
theorem lt_ii {i j : Int} : ltM (.int i) (.int j) h = .ok (.bl (decide (i < j))) h := Eq.trans rfl rfl
theorem le_ii {i j : Int} : leM (.int i) (.int j) h = .ok (.bl (decide (i ≤ j))) h := Eq.trans rfl rfl
theorem gt_ii {i j : Int} : gtM (.int i) (.int j) h = .ok (.bl (decide (j < i))) h := Eq.trans rfl rfl
theorem ge_ii {i j : Int} : geM (.int i) (.int j) h = .ok (.bl (decide (j ≤ i))) h := Eq.trans rfl rfl
theorem fdiv_ii {i j : Int} : fdivM (.int i) (.int j) h = if CDb i j = true then .ok (.int (i / j)) h else .bad := Eq.trans rfl rfl
theorem mod_ii {i j : Int} : modM (.int i) (.int j) h = if decide (0 < j) = true then .ok (.int (i % j)) h else .bad := Eq.trans rfl rfl
theorem eq_ii {i j : Int} : eqM (.int i) (.int j) h = .ok (.bl (i == j)) h := by
  simp [eqM, eqB, plD, depD, eqD]
theorem ne_ii {i j : Int} : neM (.int i) (.int j) h = .ok (.bl (!(i == j))) h := by
  simp [neM, eqB, plD, depD, eqD]
theorem eq_ss {i j : Str} : eqM (.str i) (.str j) h = .ok (.bl (i == j)) h := by
  simp [eqM, eqB, plD, depD, eqD]
theorem ne_ss {i j : Str} : neM (.str i) (.str j) h = .ok (.bl (!(i == j))) h := by
  simp [neM, eqB, plD, depD, eqD]
theorem fld_e {fl : Str} {cs : List Nat} {l : Nat} : fldM fl cs (.ref l) h = match h[l]? with
    | some (.ins c fs) => if c ∈ cs then match fs.lookup fl with
      | some v => .ok v h
      | none => .bad else .bad
    | _ => .bad := Eq.trans rfl rfl
theorem len_t {x : List D} : lenF [.tup x] h = .ok (.int x.length) h := Eq.trans rfl rfl
theorem len_s {x : Str} : lenF [.str x] h = if x.length ≤ sizeLine then .ok (.int x.length) h else .bad := Eq.trans rfl rfl
theorem append_e {l : Nat} {y : D} : appendF (.ref l) [y] h = match h[l]? with
    | some (.lst xs) => if xs.length < sizeLine then .ok .non (h.set l (.lst (xs ++ [y]))) else .bad
    | _ => .bad := Eq.trans rfl rfl
theorem extend_t {l : Nat} {zs : List D} : extendF (.ref l) [.tup zs] h = match h[l]? with
    | some (.lst xs) => if xs.length + zs.length ≤ sizeLine then .ok .non (h.set l (.lst (xs ++ zs))) else .bad
    | _ => .bad := Eq.trans rfl rfl
theorem extend_r {l b : Nat} : extendF (.ref l) [.ref b] h = match h[l]?, h[b]? with
    | some (.lst xs), some (.lst zs) => if xs.length + zs.length ≤ sizeLine then .ok .non (h.set l (.lst (xs ++ zs))) else .bad
    | _, _ => .bad := Eq.trans rfl rfl
theorem tup_r {l : Nat} : tupF (.ref l) h = match h[l]? with
    | some (.lst xs) => .ok (.tup xs) h
    | _ => .bad := Eq.trans rfl rfl
theorem it_t {x : List D} {i : Int} : itM (.tup x) (.int i) h = match atI x i with
    | some d => .ok d h
    | none => .bad := Eq.trans rfl rfl
theorem sl_t {x : List D} {lo hi : Option Int} : sliceM (.tup x) lo hi h = .ok (.tup (cutL x lo hi)) h := Eq.trans rfl rfl
end
/-! loops -/
section
variable {c : EM} {b : SM} {τ τ' : SL} {h h1 h' : AH}
theorem while_go (hc : c τ h = .ok (.bl true) h1) (hb : b τ h1 = .nx τ' h') : whileM c b τ h = whileM c b τ' h' := by
  rw [whileM_eq]; simp only [turnM, hc, toS_ok, hb]
theorem while_stop (hc : c τ h = .ok (.bl false) h1) : whileM c b τ h = .nx τ h1 := by
  rw [whileM_eq]; simp only [turnM, hc, toS_ok]
theorem while_exc {i : Nat} (hc : c τ h = .ok (.bl true) h1) (hb : b τ h1 = .exc i τ' h') : whileM c b τ h = .exc i τ' h' := by
  rw [whileM_eq]; simp only [turnM, hc, toS_ok, hb]
theorem while_brk (hc : c τ h = .ok (.bl true) h1) (hb : b τ h1 = .bk τ' h') : whileM c b τ h = .nx τ' h' := by
  rw [whileM_eq]; simp only [turnM, hc, toS_ok, hb]
end
/-! heaps -/
theorem get_app {h gb : AH} {l : Nat} {o : O} (e : h[l]? = some o) : (h ++ gb)[l]? = some o := by
  rw [List.getElem?_append_left (List.getElem?_eq_some_iff.mp e).1]; exact e
theorem get_new {h gb : AH} {o : O} : (h ++ o :: gb)[h.length]? = some o := by simp
theorem set_new {h gb : AH} {o o' : O} : (h ++ o :: gb).set h.length o' = h ++ o' :: gb := by simp
theorem set_app {h gb : AH} {l : Nat} {o : O} (e : l < h.length) : (h ++ gb).set l o = h.set l o ++ gb := by rw [List.set_append_left _ _ e]
theorem get_set {h : AH} {l : Nat} {o : O} (e : l < h.length) : (h.set l o)[l]? = some o := by simp [e]
theorem get_set_ne {h : AH} {l k : Nat} {o : O} (e : l ≠ k) : (h.set l o)[k]? = h[k]? := by simp [e]
theorem set_set {h : AH} {l : Nat} {o o' : O} : (h.set l o).set l o' = h.set l o' := by simp
theorem set_same {h : AH} {l : Nat} {o : O} (e : h[l]? = some o) : h.set l o = h := by
  apply List.ext_getElem?
  intro i
  by_cases hi : l = i
  · subst hi; rw [get_set (List.getElem?_eq_some_iff.mp e).1, e]
  · rw [get_set_ne hi]
theorem lt_of_get {h : AH} {l : Nat} {o : O} (e : h[l]? = some o) : l < h.length := (List.getElem?_eq_some_iff.mp e).1
abbrev B (bs : List Nat) : List D := bs.map fun (b : Nat) => D.int (b : Int)
theorem B_app (a b : List Nat) : B (a ++ b) = B a ++ B b := by simp [B]
theorem B_len (a : List Nat) : (B a).length = a.length := by simp [B]
theorem B_snoc (a : List Nat) (n : Nat) : B a ++ [D.int (n : Int)] = B (a ++ [n]) := by simp [B]
end DD
end

section
set_option Elab.async false
set_option linter.all false
set_option maxRecDepth 100000
set_option maxHeartbeats 2000000
namespace DD
open PySem L2
theorem cdb_pos {i : Int} {n : Nat} (h : 0 < n) (h2 : n < 2 ^ 128) : CDb i (n : Int) = true := by
  unfold CDb
  simp only [Bool.and_eq_true, decide_eq_true_eq]
  omega
theorem cdb128 {i : Int} : CDb i 128 = true := by unfold CDb; decide
theorem forM_e {e : EM} {items : D → AH → Option (List D × (AH → Bool))} {f : TM} {b : SM} {τ : SL} {h : AH} : DD.forM e items f b τ h = (e τ h).toS τ fun d h1 => match items d h1 with | some (ds, live) => loopM live f b ds τ h1 | none => .bad := rfl
theorem loop_nil {f : TM} {b : SM} {τ : SL} {h : AH} : loopM (fun _ => true) f b [] τ h = .nx τ h := rfl
theorem loop_cons {f : TM} {b : SM} {τ : SL} {h : AH} {d : D} {ds : List D} : loopM (fun _ => true) f b (d :: ds) τ h = (f d τ h).bind fun τ1 h1 => nextM (b τ1 h1) (loopM (fun _ => true) f b ds) := rfl
theorem next_nx {τ : SL} {h : AH} {k : SM} : nextM (.nx τ h) k = k τ h := rfl
theorem next_rt {d : D} {h : AH} {k : SM} : nextM (.rt d h) k = .rt d h := rfl
theorem next_exc {τ : SL} {h : AH} {k : SM} {c : Nat} : nextM (.exc c τ h) k = .exc c τ h := rfl
theorem tupIt_e {xs : List D} {h : AH} : tupIt (.tup xs) h = some (xs, fun _ => true) := rfl
theorem strIt_e {x : Str} {h : AH} : strIt (.str x) h = some (signs x, fun _ => true) := rfl
theorem cmb_r {i j : Int} (h : j.natAbs < 2 ^ 64) : CMb' i j = true := by
  unfold CMb'
  simp only [Bool.or_eq_true, decide_eq_true_eq]
  exact .inl (.inr h)
theorem cmb_l {i j : Int} (h : i.natAbs < 2 ^ 64) : CMb' i j = true := by
  unfold CMb'
  simp only [Bool.or_eq_true, decide_eq_true_eq]
  exact .inl (.inl h)
/-- what stood in h stands in h', but at u -/
def Fr (u : Option Nat) (h h' : AH) : Prop := h.length ≤ h'.length ∧ ∀ i, i < h.length → some i ≠ u → h'[i]? = h[i]?
section
variable {u : Option Nat} {h h' h'' : AH} {i : Nat} {o : O}
theorem Fr.refl : Fr u h h := ⟨Nat.le_refl _, fun _ _ _ => rfl⟩
theorem Fr.trans (a : Fr u h h') (b : Fr u h' h'') : Fr u h h'' := ⟨Nat.le_trans a.1 b.1, fun i hi hu => (b.2 i (Nat.lt_of_lt_of_le hi a.1) hu).trans (a.2 i hi hu)⟩
theorem Fr.wk (a : Fr none h h') : Fr u h h' := ⟨a.1, fun i hi _ => a.2 i hi (by simp)⟩
theorem Fr.get (a : Fr u h h') (e : h[i]? = some o) (hu : some i ≠ u) : h'[i]? = some o := (a.2 i (lt_of_get e) hu).trans e
theorem Fr.getN (a : Fr none h h') (e : h[i]? = some o) : h'[i]? = some o := a.get e (by simp)
theorem Fr.app {gb : AH} : Fr u h (h ++ gb) := ⟨by simp, fun i hi _ => by rw [List.getElem?_append_left hi]⟩
theorem Fr.set {k : Nat} : Fr (some k) h (h.set k o) := ⟨by simp, fun i hi hu => get_set_ne (fun e => hu (by rw [e]))⟩
/-- a new thing written later -/
theorem Fr.setN {k : Nat} (a : Fr u h h') (hk : h.length ≤ k) : Fr u h (h'.set k o) := ⟨by simp [a.1], fun i hi hu => by rw [get_set_ne (by omega)]; exact a.2 i hi hu⟩
theorem Fr.setU {k : Nat} (a : Fr (some k) h h') : Fr (some k) h (h'.set k o) := a.trans Fr.set
end
theorem find_e {x y : Str} {h : AH} : findS x (.str y) h = .ok (.int (Txt.find x y)) h := rfl
theorem lcM_e {e : EM} {items : D → AH → Option (List D × (AH → Bool))} {f : TM} {mc : Option EM} {me : EM} {own : List Nat} {τ : SL} {h : AH} : lcM e items f mc me own τ h = (e τ h).bind fun d h1 => match items d h1 with
  | some (ds, live) => lcLoop live f mc me own τ h1.length ds (h1 ++ [.lst []])
  | none => .bad := rfl
theorem is_nn {h : AH} : isM .non .non h = .ok (.bl true) h := rfl
def mcM : Option EM → EM
  | none => fun _ h => .ok (.bl true) h
  | some c => c
theorem lc_nil {mc : Option EM} {me : EM} {own : List Nat} {τ : SL} {L j : Nat} {h : AH} : lcLoop (fun _ => true) (nameG j) mc me own τ L [] h = .ok (.ref L) h := rfl
theorem lc_cons {mc : Option EM} {me : EM} {own : List Nat} {τ : SL} {L j : Nat} {d : D} {ds : List D} {h : AH} : lcLoop (fun _ => true) (nameG j) mc me own τ L (d :: ds) h = (mcM mc ((wipeD τ own).set j (some d)) h).bind fun k h2 => match k with
    | .bl true => (me ((wipeD τ own).set j (some d)) h2).bind fun y h3 => match h3[L]? with
      | some (.lst acc) => if acc.length < sizeLine then lcLoop (fun _ => true) (nameG j) mc me own τ L ds (h3.set L (.lst (acc ++ [y]))) else .bad
      | _ => .bad
    | .bl false => lcLoop (fun _ => true) (nameG j) mc me own τ L ds h2
    | _ => .bad := by cases mc <;> rfl
/-- a list comprehension, turn by turn -/
theorem lc_run {mc : Option EM} {me : EM} {own : List Nat} {τ : SL} {L j : Nat} {ds : List D} (P : Nat → List D → AH → Prop)
    (step : ∀ k d acc h, ds[k]? = some d → P k acc h → ∃ b h2, mcM mc ((wipeD τ own).set j (some d)) h = .ok (.bl b) h2 ∧ (b = false → P (k + 1) acc h2) ∧
      (b = true → ∃ y h3, me ((wipeD τ own).set j (some d)) h2 = .ok y h3 ∧ h3[L]? = some (.lst acc) ∧ acc.length < 16777216 ∧ P (k + 1) (acc ++ [y]) (h3.set L (.lst (acc ++ [y]))))) :
    ∀ (rest : List D) (k : Nat) (acc : List D) (h : AH), ds.drop k = rest → k ≤ ds.length → P k acc h → ∃ acc' h', P ds.length acc' h' ∧ lcLoop (fun _ => true) (nameG j) mc me own τ L rest h = .ok (.ref L) h' := by
  intro rest
  induction rest with
  | nil =>
    intro k acc h hd hk p
    have : k = ds.length := by
      have := List.drop_eq_nil_iff.mp hd
      omega
    subst this
    exact ⟨acc, h, p, rfl⟩
  | cons d rest ih =>
    intro k acc h hd hk p
    have hlt : k < ds.length := by
      apply Classical.byContradiction
      intro hn
      rw [List.drop_eq_nil_of_le (by omega)] at hd
      cases hd
    have hg : ds[k]? = some d := by
      have := List.drop_eq_getElem_cons hlt
      rw [hd] at this
      simp only [List.cons.injEq] at this
      rw [List.getElem?_eq_getElem hlt, this.1]
    have hd' : ds.drop (k + 1) = rest := by
      have := List.drop_eq_getElem_cons hlt
      rw [hd] at this
      simp only [List.cons.injEq] at this
      exact this.2.symm
    obtain ⟨b, h2, e1, e2, e3⟩ := step k d acc h hg p
    cases b with
    | false =>
      obtain ⟨acc', h', q1, q2⟩ := ih (k + 1) acc h2 hd' hlt (e2 rfl)
      refine ⟨acc', h', q1, ?_⟩
      rw [lc_cons, e1]
      exact q2
    | true =>
      obtain ⟨y, h3, f1, f2, f3, f4⟩ := e3 rfl
      obtain ⟨acc', h', q1, q2⟩ := ih (k + 1) (acc ++ [y]) _ hd' hlt f4
      refine ⟨acc', h', q1, ?_⟩
      rw [lc_cons, e1]
      simp only [EO.bind, f1, f2]
      rw [if_pos (by rw [sizeLine_eq]; exact f3)]
      exact q2
/-! slices by places -/
theorem cut_nn {β : Type} {xs : List β} {a b : Nat} : cutL xs (some (a : Int)) (some (b : Int)) = (xs.drop a).take (b - a) := by
  unfold cutL HT.sIx
  simp only [show ¬ ((a : Int) < 0) from by omega, show ¬ ((b : Int) < 0) from by omega, if_false, Int.toNat_natCast]
  by_cases h : a ≤ xs.length
  · have ha : min a xs.length = a := Nat.min_eq_left h
    rw [ha]
    by_cases h2 : b ≤ xs.length
    · have hb : min b xs.length = b := Nat.min_eq_left h2
      rw [hb]
    · have hb : min b xs.length = xs.length := Nat.min_eq_right (by omega)
      rw [hb, List.take_of_length_le (by simp), List.take_of_length_le (by simp; omega)]
  · have ha : min a xs.length = xs.length := Nat.min_eq_right (by omega)
    rw [ha, List.drop_eq_nil_of_le (Nat.le_refl _), List.drop_eq_nil_of_le (by omega)]
    simp
theorem cut_n {β : Type} {xs : List β} {b : Nat} : cutL xs none (some (b : Int)) = xs.take b := by
  have := @cut_nn β xs 0 b
  have e : cutL xs none (some (b : Int)) = cutL xs (some ((0 : Nat) : Int)) (some (b : Int)) := by
    unfold cutL HT.sIx
    simp
  rw [e, this]
  simp
theorem cut_d {β : Type} {xs : List β} {a : Nat} : cutL xs (some (a : Int)) none = xs.drop a := by
  unfold cutL HT.sIx
  simp only [show ¬ ((a : Int) < 0) from by omega, if_false, Int.toNat_natCast]
  by_cases h : a ≤ xs.length
  · rw [Nat.min_eq_left h, List.take_of_length_le (by simp)]
  · rw [Nat.min_eq_right (by omega), List.drop_eq_nil_of_le (Nat.le_refl _), List.drop_eq_nil_of_le (by omega)]
    simp
theorem B_take (xs : List Nat) (k : Nat) : (B xs).take k = B (xs.take k) := by simp [B, List.map_take]
theorem B_drop (xs : List Nat) (k : Nat) : (B xs).drop k = B (xs.drop k) := by simp [B, List.map_drop]
theorem lcQ_e {e : EM} {items : D → AH → Option (List D × (AH → Bool))} {f : TM} {mc : Option EM} {me : EM} {own : List Nat} {τ : SL} {h : AH} : lcQ e items f mc me own τ h = noexc (lcM e items f mc me own τ h) := rfl
theorem noexc_ok {d : D} {h : AH} : noexc (.ok d h) = .ok d h := rfl
theorem any_e {l : Nat} {h : AH} {bs : List Bool} (e : h[l]? = some (.lst (bs.map D.bl))) : anyF [.ref l] h = .ok (.bl (bs.any id)) h := by
  have : ∀ bs : List Bool, blsOf (bs.map D.bl) = some bs := fun bs => by
    induction bs with
    | nil => rfl
    | cons b bs ih => simp only [List.map_cons, blsOf, ih, Option.map_some]
  simp only [anyF, e, this]
theorem strsOf_map (ss : List Str) : strsOf (ss.map D.str) = some ss := by
  induction ss with
  | nil => rfl
  | cons b bs ih => simp only [List.map_cons, strsOf, ih, Option.map_some]
theorem join_e {l : Nat} {h : AH} {ss : List Str} {x : Str} (e : h[l]? = some (.lst (ss.map D.str))) (hz : (ss.map (·.length)).sum + ss.length * x.length ≤ 16777216) : joinS x (.ref l) h = .ok (.str (Txt.join x ss)) h := by
  simp only [joinS, e, strsOf_map, if_pos hz]
theorem eq_nat {m c : Nat} : ((m : Int) == (c : Int)) = decide (m = c) := by
  by_cases h : m = c
  · subst h; simp
  · rw [decide_eq_false h]; exact beq_eq_false_iff_ne.mpr (by omega)
theorem rng1_e {j : Nat} {h : AH} (hj : j < 16777216) : rngIt1 (.int (j : Int)) h = some (rngL 0 j, fun _ => true) := by
  simp only [rngIt1]
  rw [if_pos (by constructor <;> omega)]
  simp
theorem lcM_of {e : EM} {items : D → AH → Option (List D × (AH → Bool))} {f : TM} {mc : Option EM} {me : EM} {own : List Nat} {τ : SL} {h h1 : AH} {d : D} {ds : List D} {live : AH → Bool} (e1 : e τ h = .ok d h1) (e2 : items d h1 = some (ds, live)) :
    lcM e items f mc me own τ h = lcLoop live f mc me own τ h1.length ds (h1 ++ [.lst []]) := by
  rw [lcM_e, e1, bind_ok, e2]
theorem plDs_B : ∀ x : List Nat, plDs (B x) = true
  | [] => rfl
  | a :: x => by show (plD (.int a) && plDs (B x)) = true; rw [plDs_B x]; rfl
theorem depDs_B : ∀ x : List Nat, depDs (B x) = 0
  | [] => rfl
  | a :: x => by show max (depD (.int a)) (depDs (B x)) = 0; rw [depDs_B x]; rfl
theorem eqDs_B : ∀ x y : List Nat, eqDs (B x) (B y) = decide (x = y)
  | [], [] => by simp [eqDs, B]
  | [], _ :: _ => by simp [eqDs, B]
  | _ :: _, [] => by simp [eqDs, B]
  | a :: x, b :: y => by
    show (eqD (.int a) (.int b) && eqDs (B x) (B y)) = _
    rw [eqDs_B x y]
    have : eqD (.int (a : Int)) (.int (b : Int)) = decide (a = b) := by
      show ((a : Int) == (b : Int)) = _
      by_cases h : a = b
      · subst h; simp
      · rw [decide_eq_false h]; exact beq_eq_false_iff_ne.mpr (by omega)
    rw [this]
    by_cases h1 : a = b <;> by_cases h2 : x = y <;> simp [h1, h2]
theorem ne_BB {x y : List Nat} {h : AH} : neM (.tup (B x)) (.tup (B y)) h = .ok (.bl (!decide (x = y))) h := by
  unfold neM eqB
  simp only [plD, plDs_B, depD, depDs_B, Bool.and_self, eqD, eqDs_B]
  rfl
theorem eq_BB {x y : List Nat} {h : AH} : eqM (.tup (B x)) (.tup (B y)) h = .ok (.bl (decide (x = y))) h := by
  unfold eqM eqB
  simp only [plD, plDs_B, depD, depDs_B, Bool.and_self, eqD, eqDs_B]
  rfl
theorem tryQ_nx {b : SM} {hs : List ((Nat → Option Bool) × SM)} {τ τ' : SL} {h h' : AH} (e : b τ h = .nx τ' h') : tryQ b hs τ h = .nx τ' h' := by
  simp only [tryQ, tryM, e]
theorem it_r {l : Nat} {i : Int} {h : AH} : itM (.ref l) (.int i) h = match h[l]? with
    | some (.lst xs) => (match atI xs i with
      | some d => .ok d h
      | none => .bad)
    | _ => .bad := Eq.trans rfl rfl
theorem setL_e {l : Nat} {i : Int} {v : D} {h : AH} : setLF (.ref l) (.int i) v h = match h[l]? with
    | some (.lst xs) => (match ixN xs.length i with
      | some j => some (h.set l (.lst (xs.set j v)))
      | none => none)
    | _ => none := Eq.trans rfl rfl
theorem int_e {i : Int} {h : AH} : intF [.int i] h = .ok (.int i) h := Eq.trans rfl rfl
theorem emod_nat (a : Int) (m : Nat) (h : 0 < m) : ∃ r : Nat, a % (m : Int) = (r : Int) ∧ r < m := by
  have h1 := Int.emod_nonneg a (b := (m : Int)) (by omega)
  have h2 := Int.emod_lt_of_pos a (b := (m : Int)) (by omega)
  exact ⟨(a % (m : Int)).toNat, by omega, by omega⟩
theorem tupG_e {is : List Nat} {ds : List D} {τ : SL} {h : AH} : tupG (is.map nameG) (.tup ds) τ h = unpackG (is.map nameG) ds τ h := Eq.trans rfl rfl
theorem unp2 {i j : Nat} {a b : D} {τ : SL} {h : AH} : unpackG ([i, j].map nameG) [a, b] τ h = .nx ((τ.set i (some a)).set j (some b)) h := Eq.trans rfl rfl
theorem pow_ii {i j : Int} {h : AH} : powM (.int i) (.int j) h = if CPb i j = true then .ok (.int (i ^ j.toNat)) h else .bad := Eq.trans rfl rfl
theorem it_s {z : Str} {i : Int} {h : AH} : itM (.str z) (.int i) h = if z.length ≤ sizeLine then (match atI z.cps.toList i with
    | some c => .ok (.str ⟨#[c]⟩) h
    | none => .bad) else .bad := Eq.trans rfl rfl
theorem lcP_nil {mc : Option EM} {me : EM} {own : List Nat} {τ : SL} {L : Nat} {h : AH} {f : TM} : lcLoop (fun _ => true) f mc me own τ L [] h = .ok (.ref L) h := Eq.trans rfl rfl
/-- a pair that the test leaves out -/
theorem lcP_skip {c me : EM} {own : List Nat} {τ : SL} {L i j : Nat} {a b : D} {ds : List D} {h h2 : AH} (e : c (((wipeD τ own).set i (some a)).set j (some b)) h = .ok (.bl false) h2) :
    lcLoop (fun _ => true) (tupG ([i, j].map nameG)) (some c) me own τ L (.tup [a, b] :: ds) h = lcLoop (fun _ => true) (tupG ([i, j].map nameG)) (some c) me own τ L ds h2 := by
  show (c (((wipeD τ own).set i (some a)).set j (some b)) h).bind _ = _
  rw [e, bind_ok]
theorem pairM_e {a b : EM} {τ : SL} {h : AH} : pairM a b τ h = (a τ h).bind fun x h1 => (b τ h1).bind fun y h2 => .ok (.tup [x, y]) h2 := Eq.trans rfl rfl
theorem zipIt_t {xs ys : List D} {h : AH} : zipIt (.tup [.tup xs, .tup ys]) h = some (zipL xs ys, fun _ => true) := rfl
theorem eq_bb {a b : Bool} {h : AH} : eqM (.bl a) (.bl b) h = .ok (.bl (a == b)) h := by
  simp [eqM, eqB, plD, depD, eqD]
theorem eq_nilnil {i j : Nat} {h : AH} (e1 : h[i]? = some (.lst [])) (e2 : h[j]? = some (.lst [])) : eqM (.ref i) (.ref j) h = .ok (.bl true) h := by
  simp [eqM, eqB, e1, e2, plDs, depDs, eqDs]
theorem chainM_e {a b c : EM} {f f' : D → D → AH → EO} {τ : SL} {h : AH} : chainM a b c f f' τ h = (a τ h).bind fun x h1 => (b τ h1).bind fun y h2 => (f x y h2).bind fun d h3 => match d with
  | .bl true => (c τ h3).bind fun z h4 => f' y z h4
  | .bl false => .ok (.bl false) h3
  | _ => .bad := Eq.trans rfl rfl
theorem abs_e {i : Int} {h : AH} : absF [.int i] h = .ok (.int (if i < 0 then -i else i)) h := Eq.trans rfl rfl
theorem int_b {k : Bool} {h : AH} : intF [.bl k] h = .ok (.int (if k then 1 else 0)) h := Eq.trans rfl rfl
theorem sl_f {x : List D} {lo hi : Option Int} {h : AH} : sliceM (.fls x) lo hi h = .ok (.ref h.length) (h ++ [.lst (cutL x lo hi)]) := Eq.trans rfl rfl
theorem sl_r {l : Nat} {lo hi : Option Int} {h : AH} : sliceM (.ref l) lo hi h = match h[l]? with
    | some (.lst xs) => .ok (.ref h.length) (h ++ [.lst (cutL xs lo hi)])
    | _ => .bad := Eq.trans rfl rfl
theorem lstIt_e {l : Nat} {h : AH} {xs : List D} (e : h[l]? = some (.lst xs)) : lstIt (.ref l) h = some (xs, isLst l xs) := by
  simp only [lstIt, e]
theorem lcL_nil {mc : Option EM} {me : EM} {own : List Nat} {τ : SL} {L j : Nat} {live : AH → Bool} {h : AH} (e : live h = true) : lcLoop live (nameG j) mc me own τ L [] h = .ok (.ref L) h := by
  show (if live h = true then _ else _) = _
  rw [if_pos e]
theorem lcL_cons {me : EM} {own : List Nat} {τ : SL} {L j : Nat} {d : D} {ds : List D} {live : AH → Bool} {h : AH} (e : live h = true) : lcLoop live (nameG j) none me own τ L (d :: ds) h = (me ((wipeD τ own).set j (some d)) h).bind fun y h3 => match h3[L]? with
      | some (.lst acc) => if acc.length < sizeLine then lcLoop live (nameG j) none me own τ L ds (h3.set L (.lst (acc ++ [y]))) else .bad
      | _ => .bad := by
  show (if live h = true then _ else _) = _
  rw [if_pos e]
  rfl
/-! slots by place -/
def Sl (τ : SL) (i : Nat) (d : D) : Prop := τ[i]? = some (some d)
section
variable {τ : SL} {i j : Nat} {d : D} {o : Option D} {h : AH}
theorem varM_at (e : Sl τ i d) : varM i τ h = .ok d h := by
  rw [varM_e]; unfold Sl at e; rw [e]
theorem Sl.set (e : Sl τ i d) (n : j ≠ i) : Sl (τ.set j o) i d := by
  unfold Sl; rw [List.getElem?_set_ne n]; exact e
theorem Sl.new (n : j < τ.length) : Sl (τ.set j (some d)) j d := by
  unfold Sl; simp [n]
end
theorem len_set {τ : SL} {i : Nat} {o : Option D} {n : Nat} (h : τ.length = n) : (τ.set i o).length = n := by rw [List.length_set]; exact h
theorem atI_k {β : Type} {xs : List β} {k : Nat} (h : k < xs.length) : atI xs (k : Int) = xs[k]? := by
  unfold atI ixN
  rw [if_pos (by omega), if_pos (by omega)]
  rfl
theorem rngL_snoc (n : Nat) : rngL 0 (n + 1) = rngL 0 n ++ [.int (n : Int)] := by
  simp [rngL, List.range_succ]
theorem rngL_nat (n : Nat) : rngL 0 n = (List.range n).map fun (k : Nat) => D.int (k : Int) := by
  simp [rngL]
theorem loopL_nil {live : AH → Bool} {f : TM} {b : SM} {τ : SL} {h : AH} (e : live h = true) : loopM live f b [] τ h = .nx τ h := by
  show (if live h = true then _ else _) = _
  rw [if_pos e]
theorem loopL_cons {live : AH → Bool} {f : TM} {b : SM} {τ : SL} {h : AH} {d : D} {ds : List D} (e : live h = true) : loopM live f b (d :: ds) τ h = (f d τ h).bind fun τ1 h1 => nextM (b τ1 h1) (loopM live f b ds) := by
  show (if live h = true then _ else _) = _
  rw [if_pos e]
theorem lcL_skip {c me : EM} {own : List Nat} {τ : SL} {L j : Nat} {d : D} {ds : List D} {live : AH → Bool} {h h2 : AH} (e : live h = true) (e2 : c ((wipeD τ own).set j (some d)) h = .ok (.bl false) h2) :
    lcLoop live (nameG j) (some c) me own τ L (d :: ds) h = lcLoop live (nameG j) (some c) me own τ L ds h2 := by
  show (if live h = true then (c ((wipeD τ own).set j (some d)) h).bind _ else _) = _
  rw [if_pos e, e2, bind_ok]
theorem lcL_nilC {mc : Option EM} {me : EM} {own : List Nat} {τ : SL} {L : Nat} {live : AH → Bool} {f : TM} {h : AH} (e : live h = true) : lcLoop live f mc me own τ L [] h = .ok (.ref L) h := by
  show (if live h = true then _ else _) = _
  rw [if_pos e]
theorem ne_nilnil {i j : Nat} {h : AH} (e1 : h[i]? = some (.lst [])) (e2 : h[j]? = some (.lst [])) : neM (.ref i) (.ref j) h = .ok (.bl false) h := by
  simp [neM, eqB, e1, e2, plDs, depDs, eqDs]
theorem len_r {l : Nat} {h : AH} {xs : List D} (e : h[l]? = some (.lst xs)) : lenF [.ref l] h = .ok (.int xs.length) h := by
  simp only [lenF, e]
theorem Fr.newU {l k : Nat} {h0 h1 h2 : AH} (a : Fr (some l) h0 h1) (hk : h0.length ≤ k) (b : Fr (some k) h1 h2) : Fr (some l) h0 h2 :=
  ⟨Nat.le_trans a.1 b.1, fun i hi hu => (b.2 i (Nat.lt_of_lt_of_le hi a.1) (by intro z; injection z with z; omega)).trans (a.2 i hi hu)⟩
theorem ne_bb {a b : Bool} {h : AH} : neM (.bl a) (.bl b) h = .ok (.bl (!(a == b))) h := by
  simp [neM, eqB, plD, depD, eqD]
theorem eq_Bs {x : List Nat} {s : Str} {h : AH} : eqM (.tup (B x)) (.str s) h = .ok (.bl false) h := by
  have : eqB h (.tup (B x)) (.str s) = if (plDs (B x) && true && decide (min (depDs (B x) + 1) 0 ≤ 64)) = true then some false else none := rfl
  unfold eqM
  rw [this, plDs_B, Nat.min_zero]
  rfl
/-- what stood in h stands in h', but at us -/
def Fs (us : List Nat) (h h' : AH) : Prop := h.length ≤ h'.length ∧ ∀ i, i < h.length → i ∉ us → h'[i]? = h[i]?
section
variable {us : List Nat} {h h' h'' : AH} {i k : Nat} {o : O} {gb : AH}
theorem Fs.refl : Fs us h h := ⟨Nat.le_refl _, fun _ _ _ => rfl⟩
theorem Fs.trans (a : Fs us h h') (b : Fs us h' h'') : Fs us h h'' := ⟨Nat.le_trans a.1 b.1, fun i hi hu => (b.2 i (Nat.lt_of_lt_of_le hi a.1) hu).trans (a.2 i hi hu)⟩
theorem Fs.of (a : Fr none h h') : Fs us h h' := ⟨a.1, fun i hi _ => a.2 i hi (by simp)⟩
theorem Fs.of1 (a : Fr (some k) h h') (hk : k ∈ us) : Fs us h h' := ⟨a.1, fun i hi hu => a.2 i hi (by intro z; injection z with z; subst z; exact hu hk)⟩
theorem Fs.app : Fs us h (h ++ gb) := .of Fr.app
theorem Fs.set (hk : k ∈ us) : Fs us h (h.set k o) := .of1 Fr.set hk
theorem Fs.setN (a : Fs us h h') (hk : h.length ≤ k) : Fs us h (h'.set k o) := ⟨by simp [a.1], fun i hi hu => by rw [get_set_ne (by omega)]; exact a.2 i hi hu⟩
theorem Fs.get (a : Fs us h h') (e : h[i]? = some o) (hu : i ∉ us) : h'[i]? = some o := (a.2 i (lt_of_get e) hu).trans e
theorem Fs.mono {vs : List Nat} (a : Fs us h h') (hs : ∀ x ∈ us, x ∈ vs) : Fs vs h h' := ⟨a.1, fun i hi hu => a.2 i hi fun z => hu (hs i z)⟩
end
theorem valK_put (kvs : List (Key × D)) (k j : Key) (d : D) : valK (putKD kvs k d) j = if j = k then some d else valK kvs j := by
  have up : ∀ kvs : List (Key × D), valK (kvs.map fun kv => if kv.1 = k then (kv.1, d) else kv) j = (valK kvs j).map fun x => if j = k then d else x := by
    intro kvs
    induction kvs with
    | nil => rfl
    | cons p r ih =>
      have q1 : (if p.1 = k then (p.1, d) else p).1 = p.1 := by split <;> rfl
      unfold valK at ih ⊢
      rw [List.map_cons]
      by_cases e : p.1 = j
      · rw [List.find?_cons_of_pos (by rw [q1]; simpa using e), List.find?_cons_of_pos (by simpa using e)]
        simp only [Option.map_some, Option.some.injEq]
        subst e
        split <;> rfl
      · rw [List.find?_cons_of_neg (by rw [q1]; simpa using e), List.find?_cons_of_neg (by simpa using e)]
        exact ih
  have any : ∀ kvs : List (Key × D), (kvs.any fun kv => decide (kv.1 = k)) = (valK kvs k).isSome := by
    intro kvs
    induction kvs with
    | nil => rfl
    | cons p r ih =>
      unfold valK at ih ⊢
      by_cases e : p.1 = k
      · rw [List.find?_cons_of_pos (by simpa using e), List.any_cons, decide_eq_true e]; rfl
      · rw [List.find?_cons_of_neg (by simpa using e), List.any_cons, decide_eq_false e, Bool.false_or]; exact ih
  have snoc : ∀ kvs : List (Key × D), valK kvs k = none → valK (kvs ++ [(k, d)]) j = if j = k then some d else valK kvs j := by
    intro kvs hn
    induction kvs with
    | nil =>
      unfold valK
      by_cases e : k = j
      · rw [List.nil_append, List.find?_cons_of_pos (by simpa using e), if_pos e.symm]; rfl
      · rw [List.nil_append, List.find?_cons_of_neg (by simpa using e), if_neg (fun z => e z.symm)]; first | rfl | done
    | cons p r ih =>
      unfold valK at ih hn ⊢
      have hk : ¬ p.1 = k := fun e => by rw [List.find?_cons_of_pos (by simpa using e)] at hn; cases hn
      rw [List.find?_cons_of_neg (by simpa using hk)] at hn
      rw [List.cons_append]
      by_cases e : p.1 = j
      · rw [List.find?_cons_of_pos (by simpa using e), List.find?_cons_of_pos (by simpa using e), if_neg (fun z => hk (e.trans z))]
      · rw [List.find?_cons_of_neg (by simpa using e), List.find?_cons_of_neg (by simpa using e)]
        exact ih hn
  unfold putKD
  rw [any]
  split
  · rename_i hs
    rw [up]
    by_cases e : j = k
    · subst e
      cases ev : valK kvs j with
      | none => rw [ev] at hs; cases hs
      | some x => simp
    · simp [if_neg e]
  · rename_i hs
    refine snoc kvs ?_
    cases ev : valK kvs k with
    | none => rfl
    | some x => rw [ev] at hs; exact absurd rfl hs
theorem putKD_len (kvs : List (Key × D)) (k : Key) (d : D) : (putKD kvs k d).length ≤ kvs.length + 1 := by
  unfold putKD
  split <;> simp
theorem fwA {fl : Str} {cs : List Nat} {c k : Nat} {fs : List (Str × D)} {o v : EM} {τ : SL} {x : D} {h h1 : AH} (g : h1[k]? = some (.ins c fs)) (hc : c ∈ cs) (hl : fs.length < 1000) (ev : v τ h = .ok x h1) (eo : o τ h1 = .ok (.ref k) h1) : fldSetM fl cs o v τ h = .nx τ (h1.set k (.ins c (putD fl x fs))) := by
  rw [fldSetM_e, ev, toS_ok, eo, toS_ok]
  simp only [g, hc, hl, and_self, ↓reduceIte]
theorem ne_bb' {a b : Bool} {h : AH} : neM (.bl a) (.bl b) h = .ok (.bl (!(a == b))) h := by
  simp [neM, eqB, plD, depD, eqD]
theorem add_rr {i j : Nat} {xs ys : List D} {h : AH} (e1 : h[i]? = some (.lst xs)) (e2 : h[j]? = some (.lst ys)) (hz : xs.length + ys.length ≤ 16777216) : addM (.ref i) (.ref j) h = .ok (.ref h.length) (h ++ [.lst (xs ++ ys)]) := by
  simp only [addM, e1, e2]
  rw [if_pos (by rw [sizeLine_eq]; exact hz)]
theorem unp4 {i j u w : Nat} {a b c d : D} {τ : SL} {h : AH} : unpackG ([i, j, u, w].map nameG) [a, b, c, d] τ h = .nx ((((τ.set i (some a)).set j (some b)).set u (some c)).set w (some d)) h := Eq.trans rfl rfl
mutual
theorem eqD_self : ∀ d : D, plD d = true → eqD d d = true
  | .non, _ => rfl
  | .bl b, _ => by simp [eqD]
  | .int i, _ => by simp [eqD]
  | .str x, _ => by simp [eqD]
  | .tup xs, h => by
    simp only [eqD]
    exact eqDs_self xs (by simpa [plD] using h)
  | .ref _, h => by simp [plD] at h
  | .con _, h => by simp [plD] at h
  | .fls _, h => by simp [plD] at h
theorem eqDs_self : ∀ ds : List D, plDs ds = true → eqDs ds ds = true
  | [], _ => rfl
  | d :: ds, h => by
    simp only [plDs, Bool.and_eq_true] at h
    simp only [eqDs, eqD_self d h.1, eqDs_self ds h.2, Bool.and_self]
end
/-- a plain value is not other than itself -/
theorem ne_self {d : D} {h : AH} (hp : plD d = true) (hd : depD d ≤ 64) : neM d d h = .ok (.bl false) h := by
  have e : eqB h d d = if (plD d && plD d && decide (min (depD d) (depD d) ≤ 64)) = true then some (eqD d d) else none := by
    cases d <;> first | rfl | (simp [plD] at hp)
  unfold neM
  rw [e, hp, Nat.min_self, decide_eq_true hd, eqD_self d hp]
  rfl
theorem ne_lists {i j : Nat} {xs : List D} {h : AH} (e1 : h[i]? = some (.lst xs)) (e2 : h[j]? = some (.lst xs)) (hp : plDs xs = true) (hd : depDs xs < 64) : neM (.ref i) (.ref j) h = .ok (.bl false) h := by
  have e : eqB h (.ref i) (.ref j) = if (plDs xs && plDs xs && decide (min (depDs xs) (depDs xs) < 64)) = true then some (eqDs xs xs) else none := by
    simp only [eqB, e1, e2]
  unfold neM
  rw [e, hp, Nat.min_self, decide_eq_true hd, eqDs_self xs hp]
  rfl
theorem unp7 {a b c d e f g : D} {i1 i2 i3 i4 i5 i6 i7 : Nat} {τ : SL} {h : AH} : unpackG ([i1, i2, i3, i4, i5, i6, i7].map nameG) [a, b, c, d, e, f, g] τ h = .nx (((((((τ.set i1 (some a)).set i2 (some b)).set i3 (some c)).set i4 (some d)).set i5 (some e)).set i6 (some f)).set i7 (some g)) h := Eq.trans rfl rfl
theorem Fs.new {us vs : List Nat} {h0 h1 h2 : AH} (a : Fs us h0 h1) (b : Fs vs h1 h2) (hs : ∀ x ∈ vs, x ∈ us ∨ h0.length ≤ x) : Fs us h0 h2 :=
  ⟨Nat.le_trans a.1 b.1, fun i hi hu => (b.2 i (Nat.lt_of_lt_of_le hi a.1) (fun z => by rcases hs i z with q | q; exact hu q; omega)).trans (a.2 i hi hu)⟩
end DD
end

section
set_option Elab.async false
set_option linter.all false
set_option maxRecDepth 100000
set_option maxHeartbeats 2000000
namespace K23
open PySem L2 DD
def Dc (a b c : Int) : O := .lst [.int a, .int b, .int c]
def RB : Nat → Nat → Prop
  | 0, _ => False
  | n + 1, m => m ≤ 100000000 ∨ RB n (m / 100000000 + 1)
theorem dc0 {a b c : Int} : atI [D.int a, .int b, .int c] 0 = some (.int a) := rfl
theorem dc1 {a b c : Int} : atI [D.int a, .int b, .int c] 1 = some (.int b) := rfl
theorem dc2 {a b c : Int} : atI [D.int a, .int b, .int c] 2 = some (.int c) := rfl
theorem ix0 : ixN 3 0 = some 0 := rfl
theorem ix1 : ixN 3 1 = some 1 := rfl
theorem ix2 : ixN 3 2 = some 2 := rfl
theorem RB_one {n : Nat} (h : RB n 100000000 ∨ 0 < n) : 0 < n → RB n 100000000 := fun hn => by
  cases n with
  | zero => omega
  | succ n => exact .inl (Nat.le_refl _)
theorem roll_run : ∀ (n many : Nat) (h : AH) (l : Nat) (a b c : Int), h[l]? = some (Dc a b c) → 0 < many → RB n many → many < 2 ^ 120 →
    ∃ (r : Nat) (a' b' c' : Int) (h' : AH), R__law_roll n [.ref l, .int (many : Int)] h = .ok (.int (r : Int)) h' ∧ r < many ∧ Fr (some l) h h' ∧ h'[l]? = some (Dc a' b' c') := by
  intro n
  induction n with
  | zero => intro many h l a b c _ _ hb; exact hb.elim
  | succ n ih =>
    intro many h l a b c e hm hb h120
    have hl := lt_of_get e
    have e' : h[l]? = some (O.lst [.int a, .int b, .int c]) := e
    have e0 : startD N__law_roll.length [D.ref l, D.int (many : Int)] = [some (.ref l), some (.int (many : Int)), none] := rfl
    unfold R__law_roll m__law_roll
    rw [e0]
    have dm : decide ((0 : Int) < (many : Int)) = true := decide_eq_true (by omega)
    have cd : CDb a (many : Int) = true := cdb_pos hm (Nat.lt_of_lt_of_le h120 (by decide))
    have first : (c == 2) = true ∨ ((c == 2) = false ∧ (c == 1) = true ∧ decide ((0 : Int) < a) = true) → ∃ (r : Nat) (a' b' c' : Int) (h' : AH), retOf (m__law_roll (R__law_roll n) [some (.ref l), some (.int (many : Int)), none] h) = .ok (.int (r : Int)) h' ∧ r < many ∧ Fr (some l) h h' ∧ h'[l]? = some (Dc a' b' c') := fun hc => by
      obtain ⟨r, er, hr⟩ := emod_nat a many hm
      refine ⟨r, a / (many : Int), b, c, h.set l (Dc (a / (many : Int)) b c), ?_, hr, Fr.set, get_set hl⟩
      unfold m__law_roll Dc
      rcases hc with hc | ⟨hc1, hc2, hc3⟩
      · simp only [it_r, e', dc0, dc1, dc2, hc, int_e, dm, er, cd, setL_e, ix0, DD.bind_ok, DD.bind_exc, DD.toS_ok, DD.toS_exc, DD.bindL_ok, DD.bindL_exc, DD.lbind_ok, DD.lbind_exc, DD.bindE_ok, DD.bindE_exc, DD.sbind_nx, DD.sbind_rt, DD.sbind_exc, DD.sbind_bk, DD.sbind_ct, DD.ret_nx, DD.ret_rt, DD.ret_exc, DD.varM_0, DD.varM_1, DD.varM_2, DD.varM_3, DD.varM_4, DD.varM_5, DD.cM_e, DD.binM_e, DD.unM_e, DD.seqM_e, DD.setM_e, DD.exprM_e, DD.retM_e, DD.raiseM_e, DD.passM_e, DD.brkM_e, DD.ifSM_e, DD.ifM_e, DD.andM_e, DD.orM_e, DD.notM_e, DD.nilM_e, DD.consM_e, DD.callM_e, DD.tupM_e, DD.lstM_e, DD.bmM_e, DD.smM_e, DD.asgM_e, DD.subG_e, DD.nameG_e, DD.slM_e, DD.om_none, DD.om_some, DD.fldSetM_e, DD.toldM_e, DD.add_ii, DD.add_tt, DD.sub_ii, DD.mul_ii, DD.lt_ii, DD.le_ii, DD.gt_ii, DD.ge_ii, DD.fdiv_ii, DD.mod_ii, DD.eq_ii, DD.ne_ii, DD.eq_ss, DD.ne_ss, DD.fld_e, DD.len_t, DD.len_s, DD.append_e, DD.extend_t, DD.extend_r, DD.tup_r, DD.it_t, DD.sl_t, DD.callF, List.length_append, List.length_cons, List.length_nil, List.append_nil, Nat.reduceAdd, List.set_cons_zero, List.set_cons_succ, ↓reduceIte, Bool.not_true, Bool.not_false, Nat.zero_le]
      · simp only [it_r, e', dc0, dc1, dc2, hc1, hc2, hc3, int_e, dm, er, cd, setL_e, ix0, DD.bind_ok, DD.bind_exc, DD.toS_ok, DD.toS_exc, DD.bindL_ok, DD.bindL_exc, DD.lbind_ok, DD.lbind_exc, DD.bindE_ok, DD.bindE_exc, DD.sbind_nx, DD.sbind_rt, DD.sbind_exc, DD.sbind_bk, DD.sbind_ct, DD.ret_nx, DD.ret_rt, DD.ret_exc, DD.varM_0, DD.varM_1, DD.varM_2, DD.varM_3, DD.varM_4, DD.varM_5, DD.cM_e, DD.binM_e, DD.unM_e, DD.seqM_e, DD.setM_e, DD.exprM_e, DD.retM_e, DD.raiseM_e, DD.passM_e, DD.brkM_e, DD.ifSM_e, DD.ifM_e, DD.andM_e, DD.orM_e, DD.notM_e, DD.nilM_e, DD.consM_e, DD.callM_e, DD.tupM_e, DD.lstM_e, DD.bmM_e, DD.smM_e, DD.asgM_e, DD.subG_e, DD.nameG_e, DD.slM_e, DD.om_none, DD.om_some, DD.fldSetM_e, DD.toldM_e, DD.add_ii, DD.add_tt, DD.sub_ii, DD.mul_ii, DD.lt_ii, DD.le_ii, DD.gt_ii, DD.ge_ii, DD.fdiv_ii, DD.mod_ii, DD.eq_ii, DD.ne_ii, DD.eq_ss, DD.ne_ss, DD.fld_e, DD.len_t, DD.len_s, DD.append_e, DD.extend_t, DD.extend_r, DD.tup_r, DD.it_t, DD.sl_t, DD.callF, List.length_append, List.length_cons, List.length_nil, List.append_nil, Nat.reduceAdd, List.set_cons_zero, List.set_cons_succ, ↓reduceIte, Bool.not_true, Bool.not_false, Nat.zero_le]
    by_cases q2 : (c == 2) = true
    · exact first (.inl q2)
    have q2' : (c == 2) = false := by simpa using q2
    by_cases q1 : (c == 1) = true ∧ decide ((0 : Int) < a) = true
    · exact first (.inr ⟨q2', q1.1, q1.2⟩)
    have g1 : (h.set l (Dc a b 0))[l]? = some (O.lst [.int a, .int b, .int 0]) := get_set hl
    by_cases hbig : many > 100000000
    · have hb2 : RB n (many / 100000000 + 1) := by
        rcases hb with hb | hb
        · omega
        · exact hb
      have hn : 0 < n := by cases n with
        | zero => exact hb2.elim
        | succ n => omega
      obtain ⟨r1, a1, b1, c1, h1, s1, s2, s3, s4⟩ := ih (many / 100000000 + 1) (h.set l (Dc a b 0)) l a b 0 g1 (by omega) hb2 (by omega)
      obtain ⟨r2, a2, b2, c2, h2, t1, t2, t3, t4⟩ := ih 100000000 h1 l a1 b1 c1 s4 (by omega) (RB_one (.inr hn) hn) (by decide)
      obtain ⟨r, er, hr⟩ := emod_nat ((r1 : Int) * 100000000 + (r2 : Int)) many hm
      refine ⟨r, a2, b2, c2, h2, ?_, hr, (Fr.set.trans s3).trans t3, t4⟩
      have ed : ((many : Int) / 100000000 + 1) = ((many / 100000000 + 1 : Nat) : Int) := by omega
      have cd2 : CDb (many : Int) 100000000 = true := cdb_pos (n := 100000000) (by decide) (by decide)
      have dbig : decide ((100000000 : Int) < (many : Int)) = true := decide_eq_true (by omega)
      have t1' : R__law_roll n [.ref l, .int 100000000] h1 = .ok (.int (r2 : Int)) h2 := t1
      have cm : CMb' (r1 : Int) 100000000 = true := cmb_r (by decide)
      unfold Dc at s1
      by_cases q3 : (c == 1) = true
      · have q4 : decide ((0 : Int) < a) = false := by
          cases hq : decide ((0 : Int) < a) with
          | true => exact absurd ⟨q3, hq⟩ q1
          | false => rfl
        simp only [it_r, e', dc0, dc1, dc2, q2', q3, q4, setL_e, ix2, dbig, ed, cd2, s1, t1', int_e, cm, dm, er, DD.bind_ok, DD.bind_exc, DD.toS_ok, DD.toS_exc, DD.bindL_ok, DD.bindL_exc, DD.lbind_ok, DD.lbind_exc, DD.bindE_ok, DD.bindE_exc, DD.sbind_nx, DD.sbind_rt, DD.sbind_exc, DD.sbind_bk, DD.sbind_ct, DD.ret_nx, DD.ret_rt, DD.ret_exc, DD.varM_0, DD.varM_1, DD.varM_2, DD.varM_3, DD.varM_4, DD.varM_5, DD.cM_e, DD.binM_e, DD.unM_e, DD.seqM_e, DD.setM_e, DD.exprM_e, DD.retM_e, DD.raiseM_e, DD.passM_e, DD.brkM_e, DD.ifSM_e, DD.ifM_e, DD.andM_e, DD.orM_e, DD.notM_e, DD.nilM_e, DD.consM_e, DD.callM_e, DD.tupM_e, DD.lstM_e, DD.bmM_e, DD.smM_e, DD.asgM_e, DD.subG_e, DD.nameG_e, DD.slM_e, DD.om_none, DD.om_some, DD.fldSetM_e, DD.toldM_e, DD.add_ii, DD.add_tt, DD.sub_ii, DD.mul_ii, DD.lt_ii, DD.le_ii, DD.gt_ii, DD.ge_ii, DD.fdiv_ii, DD.mod_ii, DD.eq_ii, DD.ne_ii, DD.eq_ss, DD.ne_ss, DD.fld_e, DD.len_t, DD.len_s, DD.append_e, DD.extend_t, DD.extend_r, DD.tup_r, DD.it_t, DD.sl_t, DD.callF, List.length_append, List.length_cons, List.length_nil, List.append_nil, Nat.reduceAdd, List.set_cons_zero, List.set_cons_succ, ↓reduceIte, Bool.not_true, Bool.not_false, Nat.zero_le]
      · have q3' : (c == 1) = false := by simpa using q3
        simp only [it_r, e', dc0, dc1, dc2, q2', q3', setL_e, ix2, dbig, ed, cd2, s1, t1', int_e, cm, dm, er, DD.bind_ok, DD.bind_exc, DD.toS_ok, DD.toS_exc, DD.bindL_ok, DD.bindL_exc, DD.lbind_ok, DD.lbind_exc, DD.bindE_ok, DD.bindE_exc, DD.sbind_nx, DD.sbind_rt, DD.sbind_exc, DD.sbind_bk, DD.sbind_ct, DD.ret_nx, DD.ret_rt, DD.ret_exc, DD.varM_0, DD.varM_1, DD.varM_2, DD.varM_3, DD.varM_4, DD.varM_5, DD.cM_e, DD.binM_e, DD.unM_e, DD.seqM_e, DD.setM_e, DD.exprM_e, DD.retM_e, DD.raiseM_e, DD.passM_e, DD.brkM_e, DD.ifSM_e, DD.ifM_e, DD.andM_e, DD.orM_e, DD.notM_e, DD.nilM_e, DD.consM_e, DD.callM_e, DD.tupM_e, DD.lstM_e, DD.bmM_e, DD.smM_e, DD.asgM_e, DD.subG_e, DD.nameG_e, DD.slM_e, DD.om_none, DD.om_some, DD.fldSetM_e, DD.toldM_e, DD.add_ii, DD.add_tt, DD.sub_ii, DD.mul_ii, DD.lt_ii, DD.le_ii, DD.gt_ii, DD.ge_ii, DD.fdiv_ii, DD.mod_ii, DD.eq_ii, DD.ne_ii, DD.eq_ss, DD.ne_ss, DD.fld_e, DD.len_t, DD.len_s, DD.append_e, DD.extend_t, DD.extend_r, DD.tup_r, DD.it_t, DD.sl_t, DD.callF, List.length_append, List.length_cons, List.length_nil, List.append_nil, Nat.reduceAdd, List.set_cons_zero, List.set_cons_succ, ↓reduceIte, Bool.not_true, Bool.not_false, Nat.zero_le]
    · have dbig : decide ((100000000 : Int) < (many : Int)) = false := decide_eq_false (by omega)
      have cm1 : CMb' a 48271 = true := cmb_r (by decide)
      have cm2 : CMb' b 69621 = true := cmb_r (by decide)
      have cd7 : ∀ x : Int, CDb x 7 = true := fun x => cdb_pos (n := 7) (by decide) (by decide)
      have d21 : decide ((0 : Int) < 2147483647) = true := by decide
      obtain ⟨r, er, hr⟩ := emod_nat ((a * 48271 + b * 69621 + 11) % 2147483647 / 7) many hm
      have g1' : (h.set l (O.lst [.int a, .int b, .int 0]))[l]? = some (O.lst [.int a, .int b, .int 0]) := get_set hl
      have g2 : (h.set l (O.lst [.int ((a * 48271 + b * 69621 + 11) % 2147483647), .int b, .int 0]))[l]? = some (O.lst [.int ((a * 48271 + b * 69621 + 11) % 2147483647), .int b, .int 0]) := get_set hl
      have g3 : (h.set l (O.lst [.int ((a * 48271 + b * 69621 + 11) % 2147483647), .int (b + 1), .int 0]))[l]? = some (O.lst [.int ((a * 48271 + b * 69621 + 11) % 2147483647), .int (b + 1), .int 0]) := get_set hl
      refine ⟨r, (a * 48271 + b * 69621 + 11) % 2147483647, b + 1, 0, h.set l (Dc ((a * 48271 + b * 69621 + 11) % 2147483647) (b + 1) 0), ?_, hr, Fr.set, get_set hl⟩
      unfold Dc
      by_cases q3 : (c == 1) = true
      · have q4 : decide ((0 : Int) < a) = false := by
          cases hq : decide ((0 : Int) < a) with
          | true => exact absurd ⟨q3, hq⟩ q1
          | false => rfl
        simp only [it_r, e', dc0, dc1, dc2, q2', q3, q4, setL_e, ix0, ix1, ix2, dbig, cm1, cm2, int_e, d21, dm, set_set, g1', g2, g3, cd7, er, DD.bind_ok, DD.bind_exc, DD.toS_ok, DD.toS_exc, DD.bindL_ok, DD.bindL_exc, DD.lbind_ok, DD.lbind_exc, DD.bindE_ok, DD.bindE_exc, DD.sbind_nx, DD.sbind_rt, DD.sbind_exc, DD.sbind_bk, DD.sbind_ct, DD.ret_nx, DD.ret_rt, DD.ret_exc, DD.varM_0, DD.varM_1, DD.varM_2, DD.varM_3, DD.varM_4, DD.varM_5, DD.cM_e, DD.binM_e, DD.unM_e, DD.seqM_e, DD.setM_e, DD.exprM_e, DD.retM_e, DD.raiseM_e, DD.passM_e, DD.brkM_e, DD.ifSM_e, DD.ifM_e, DD.andM_e, DD.orM_e, DD.notM_e, DD.nilM_e, DD.consM_e, DD.callM_e, DD.tupM_e, DD.lstM_e, DD.bmM_e, DD.smM_e, DD.asgM_e, DD.subG_e, DD.nameG_e, DD.slM_e, DD.om_none, DD.om_some, DD.fldSetM_e, DD.toldM_e, DD.add_ii, DD.add_tt, DD.sub_ii, DD.mul_ii, DD.lt_ii, DD.le_ii, DD.gt_ii, DD.ge_ii, DD.fdiv_ii, DD.mod_ii, DD.eq_ii, DD.ne_ii, DD.eq_ss, DD.ne_ss, DD.fld_e, DD.len_t, DD.len_s, DD.append_e, DD.extend_t, DD.extend_r, DD.tup_r, DD.it_t, DD.sl_t, DD.callF, List.length_append, List.length_cons, List.length_nil, List.append_nil, Nat.reduceAdd, List.set_cons_zero, List.set_cons_succ, ↓reduceIte, Bool.not_true, Bool.not_false, Nat.zero_le]
      · have q3' : (c == 1) = false := by simpa using q3
        simp only [it_r, e', dc0, dc1, dc2, q2', q3', setL_e, ix0, ix1, ix2, dbig, cm1, cm2, int_e, d21, dm, set_set, g1', g2, g3, cd7, er, DD.bind_ok, DD.bind_exc, DD.toS_ok, DD.toS_exc, DD.bindL_ok, DD.bindL_exc, DD.lbind_ok, DD.lbind_exc, DD.bindE_ok, DD.bindE_exc, DD.sbind_nx, DD.sbind_rt, DD.sbind_exc, DD.sbind_bk, DD.sbind_ct, DD.ret_nx, DD.ret_rt, DD.ret_exc, DD.varM_0, DD.varM_1, DD.varM_2, DD.varM_3, DD.varM_4, DD.varM_5, DD.cM_e, DD.binM_e, DD.unM_e, DD.seqM_e, DD.setM_e, DD.exprM_e, DD.retM_e, DD.raiseM_e, DD.passM_e, DD.brkM_e, DD.ifSM_e, DD.ifM_e, DD.andM_e, DD.orM_e, DD.notM_e, DD.nilM_e, DD.consM_e, DD.callM_e, DD.tupM_e, DD.lstM_e, DD.bmM_e, DD.smM_e, DD.asgM_e, DD.subG_e, DD.nameG_e, DD.slM_e, DD.om_none, DD.om_some, DD.fldSetM_e, DD.toldM_e, DD.add_ii, DD.add_tt, DD.sub_ii, DD.mul_ii, DD.lt_ii, DD.le_ii, DD.gt_ii, DD.ge_ii, DD.fdiv_ii, DD.mod_ii, DD.eq_ii, DD.ne_ii, DD.eq_ss, DD.ne_ss, DD.fld_e, DD.len_t, DD.len_s, DD.append_e, DD.extend_t, DD.extend_r, DD.tup_r, DD.it_t, DD.sl_t, DD.callF, List.length_append, List.length_cons, List.length_nil, List.append_nil, Nat.reduceAdd, List.set_cons_zero, List.set_cons_succ, ↓reduceIte, Bool.not_true, Bool.not_false, Nat.zero_le]
/-- the dice stand at l, the rest is kept -/
def Dd (l : Nat) (h h' : AH) : Prop := Fr (some l) h h' ∧ ∃ a b c, h'[l]? = some (Dc a b c)
theorem roll5 (many : Nat) (h : AH) (l : Nat) (hd : ∃ a b c, h[l]? = some (Dc a b c)) (hm : 0 < many) (hb : RB 5 many) (h120 : many < 2 ^ 120) :
    ∃ (r : Nat) (h' : AH), R__law_roll 5 [.ref l, .int (many : Int)] h = .ok (.int (r : Int)) h' ∧ r < many ∧ Dd l h h' := by
  obtain ⟨a, b, c, e⟩ := hd
  obtain ⟨r, a', b', c', h', s1, s2, s3, s4⟩ := roll_run 5 many h l a b c e hm hb h120
  exact ⟨r, h', s1, s2, s3, a', b', c', s4⟩
theorem Dd.trans {l : Nat} {h h1 h2 : AH} (a : Dd l h h1) (b : Dd l h1 h2) : Dd l h h2 := ⟨a.1.trans b.1, b.2⟩
theorem Dd.frame {l : Nat} {h h' : AH} (a : Dd l h h') : Fr (some l) h h' := a.1
/-- a new thing is laid -/
theorem Dd.app {l : Nat} {h h' gb : AH} (a : Dd l h h') : Dd l h (h' ++ gb) := ⟨a.1.trans Fr.app, by
  obtain ⟨x, y, z, q⟩ := a.2
  exact ⟨x, y, z, get_app q⟩⟩
theorem dice_run (x : Int) (h : AH) : ∃ a b c, F__law_dice [.int x] h = .ok (.ref h.length) (h ++ [Dc a b c]) := by
  unfold F__law_dice m__law_dice
  have e0 : startD N__law_dice.length [D.int x] = [some (.int x)] := rfl
  rw [e0]
  have l3 : (0 + 1 + 1 + 1 ≤ sizeLine) = True := by rw [sizeLine_eq]; decide
  have d9 : decide ((0 : Int) < 1009) = true := by decide
  have cp : CPb 10 18 = true := by decide
  have c2 : ∃ a b c, retOf (retM (lstM (consM (varM 0) (consM (binM (cM (.int 1)) (binM (callM (consM (varM 0) nilM) intF) (cM (.int 1009)) modM) addM) (consM (callM (consM (binM (varM 0) (binM (cM (.int 10)) (cM (.int 18)) powM) geM) nilM) intF) nilM)))) [some (.int x)] h) = .ok (.ref h.length) (h ++ [Dc a b c]) := by
    refine ⟨x, 1 + x % 1009, if decide ((10 : Int) ^ (18 : Int).toNat ≤ x) then 1 else 0, ?_⟩
    unfold Dc
    simp only [int_e, int_b, d9, pow_ii, cp, l3, DD.bind_ok, DD.bind_exc, DD.toS_ok, DD.toS_exc, DD.bindL_ok, DD.bindL_exc, DD.lbind_ok, DD.lbind_exc, DD.bindE_ok, DD.bindE_exc, DD.sbind_nx, DD.sbind_rt, DD.sbind_exc, DD.sbind_bk, DD.sbind_ct, DD.ret_nx, DD.ret_rt, DD.ret_exc, DD.varM_0, DD.varM_1, DD.varM_2, DD.varM_3, DD.varM_4, DD.varM_5, DD.cM_e, DD.binM_e, DD.unM_e, DD.seqM_e, DD.setM_e, DD.exprM_e, DD.retM_e, DD.raiseM_e, DD.passM_e, DD.brkM_e, DD.ifSM_e, DD.ifM_e, DD.andM_e, DD.orM_e, DD.notM_e, DD.nilM_e, DD.consM_e, DD.callM_e, DD.tupM_e, DD.lstM_e, DD.bmM_e, DD.smM_e, DD.asgM_e, DD.subG_e, DD.nameG_e, DD.slM_e, DD.om_none, DD.om_some, DD.fldSetM_e, DD.toldM_e, DD.add_ii, DD.add_tt, DD.sub_ii, DD.mul_ii, DD.lt_ii, DD.le_ii, DD.gt_ii, DD.ge_ii, DD.fdiv_ii, DD.mod_ii, DD.eq_ii, DD.ne_ii, DD.eq_ss, DD.ne_ss, DD.fld_e, DD.len_t, DD.len_s, DD.append_e, DD.extend_t, DD.extend_r, DD.tup_r, DD.it_t, DD.sl_t, DD.callF, List.length_append, List.length_cons, List.length_nil, List.append_nil, Nat.reduceAdd, List.set_cons_zero, List.set_cons_succ, ↓reduceIte, Bool.not_true, Bool.not_false, Nat.zero_le]
  by_cases h1 : (0 : Int) - 10 < x
  · by_cases h2 : x < 10
    · refine ⟨if x < 0 then -x else x, 0, 2, ?_⟩
      unfold Dc
      simp only [chainM_e, decide_eq_true h1, decide_eq_true h2, abs_e, l3, DD.bind_ok, DD.bind_exc, DD.toS_ok, DD.toS_exc, DD.bindL_ok, DD.bindL_exc, DD.lbind_ok, DD.lbind_exc, DD.bindE_ok, DD.bindE_exc, DD.sbind_nx, DD.sbind_rt, DD.sbind_exc, DD.sbind_bk, DD.sbind_ct, DD.ret_nx, DD.ret_rt, DD.ret_exc, DD.varM_0, DD.varM_1, DD.varM_2, DD.varM_3, DD.varM_4, DD.varM_5, DD.cM_e, DD.binM_e, DD.unM_e, DD.seqM_e, DD.setM_e, DD.exprM_e, DD.retM_e, DD.raiseM_e, DD.passM_e, DD.brkM_e, DD.ifSM_e, DD.ifM_e, DD.andM_e, DD.orM_e, DD.notM_e, DD.nilM_e, DD.consM_e, DD.callM_e, DD.tupM_e, DD.lstM_e, DD.bmM_e, DD.smM_e, DD.asgM_e, DD.subG_e, DD.nameG_e, DD.slM_e, DD.om_none, DD.om_some, DD.fldSetM_e, DD.toldM_e, DD.add_ii, DD.add_tt, DD.sub_ii, DD.mul_ii, DD.lt_ii, DD.le_ii, DD.gt_ii, DD.ge_ii, DD.fdiv_ii, DD.mod_ii, DD.eq_ii, DD.ne_ii, DD.eq_ss, DD.ne_ss, DD.fld_e, DD.len_t, DD.len_s, DD.append_e, DD.extend_t, DD.extend_r, DD.tup_r, DD.it_t, DD.sl_t, DD.callF, List.length_append, List.length_cons, List.length_nil, List.append_nil, Nat.reduceAdd, List.set_cons_zero, List.set_cons_succ, ↓reduceIte, Bool.not_true, Bool.not_false, Nat.zero_le]
    · obtain ⟨a, b, c, e⟩ := c2
      refine ⟨a, b, c, ?_⟩
      rw [← e]
      simp only [chainM_e, decide_eq_true h1, decide_eq_false h2, DD.bind_ok, DD.bind_exc, DD.toS_ok, DD.toS_exc, DD.bindL_ok, DD.bindL_exc, DD.lbind_ok, DD.lbind_exc, DD.bindE_ok, DD.bindE_exc, DD.sbind_nx, DD.sbind_rt, DD.sbind_exc, DD.sbind_bk, DD.sbind_ct, DD.ret_nx, DD.ret_rt, DD.ret_exc, DD.varM_0, DD.varM_1, DD.varM_2, DD.varM_3, DD.varM_4, DD.varM_5, DD.cM_e, DD.binM_e, DD.unM_e, DD.seqM_e, DD.setM_e, DD.exprM_e, DD.retM_e, DD.raiseM_e, DD.passM_e, DD.brkM_e, DD.ifSM_e, DD.ifM_e, DD.andM_e, DD.orM_e, DD.notM_e, DD.nilM_e, DD.consM_e, DD.callM_e, DD.tupM_e, DD.lstM_e, DD.bmM_e, DD.smM_e, DD.asgM_e, DD.subG_e, DD.nameG_e, DD.slM_e, DD.om_none, DD.om_some, DD.fldSetM_e, DD.toldM_e, DD.add_ii, DD.add_tt, DD.sub_ii, DD.mul_ii, DD.lt_ii, DD.le_ii, DD.gt_ii, DD.ge_ii, DD.fdiv_ii, DD.mod_ii, DD.eq_ii, DD.ne_ii, DD.eq_ss, DD.ne_ss, DD.fld_e, DD.len_t, DD.len_s, DD.append_e, DD.extend_t, DD.extend_r, DD.tup_r, DD.it_t, DD.sl_t, DD.callF, List.length_append, List.length_cons, List.length_nil, List.append_nil, Nat.reduceAdd, List.set_cons_zero, List.set_cons_succ, ↓reduceIte, Bool.not_true, Bool.not_false, Nat.zero_le]
  · obtain ⟨a, b, c, e⟩ := c2
    refine ⟨a, b, c, ?_⟩
    rw [← e]
    simp only [chainM_e, decide_eq_false h1, DD.bind_ok, DD.bind_exc, DD.toS_ok, DD.toS_exc, DD.bindL_ok, DD.bindL_exc, DD.lbind_ok, DD.lbind_exc, DD.bindE_ok, DD.bindE_exc, DD.sbind_nx, DD.sbind_rt, DD.sbind_exc, DD.sbind_bk, DD.sbind_ct, DD.ret_nx, DD.ret_rt, DD.ret_exc, DD.varM_0, DD.varM_1, DD.varM_2, DD.varM_3, DD.varM_4, DD.varM_5, DD.cM_e, DD.binM_e, DD.unM_e, DD.seqM_e, DD.setM_e, DD.exprM_e, DD.retM_e, DD.raiseM_e, DD.passM_e, DD.brkM_e, DD.ifSM_e, DD.ifM_e, DD.andM_e, DD.orM_e, DD.notM_e, DD.nilM_e, DD.consM_e, DD.callM_e, DD.tupM_e, DD.lstM_e, DD.bmM_e, DD.smM_e, DD.asgM_e, DD.subG_e, DD.nameG_e, DD.slM_e, DD.om_none, DD.om_some, DD.fldSetM_e, DD.toldM_e, DD.add_ii, DD.add_tt, DD.sub_ii, DD.mul_ii, DD.lt_ii, DD.le_ii, DD.gt_ii, DD.ge_ii, DD.fdiv_ii, DD.mod_ii, DD.eq_ii, DD.ne_ii, DD.eq_ss, DD.ne_ss, DD.fld_e, DD.len_t, DD.len_s, DD.append_e, DD.extend_t, DD.extend_r, DD.tup_r, DD.it_t, DD.sl_t, DD.callF, List.length_append, List.length_cons, List.length_nil, List.append_nil, Nat.reduceAdd, List.set_cons_zero, List.set_cons_succ, ↓reduceIte, Bool.not_true, Bool.not_false, Nat.zero_le]
theorem rounds_run {ns : List Int} {dd : D} {h0 : AH} (hs : Scr ns dd h0) : ∃ L D1 h' a b c, F__law_rounds [dd, .int 1] h0 = .ok (.ref L) h' ∧ h'[L]? = some (.lst [.ref D1]) ∧ h'[D1]? = some (Dc a b c) ∧ D1 ≠ L := by
  have ec : ∀ xs : List D, cutL xs none (some (1 : Int)) = xs.take 1 := fun xs => cut_n (b := 1)
  have sl : slM (varM 0) .none (.some (varM 1)) [some dd, some (.int 1), none, none] h0 = .ok (.ref h0.length) (h0 ++ [.lst ((ns.map D.int).take 1)]) := by
    rcases hs with ⟨rfl, rfl⟩ | ⟨rfl, rfl⟩
    · simp only [sl_r, ec, show ([O.lst (ns.map D.int)] : AH)[0]? = some (.lst (ns.map D.int)) from rfl, DD.bind_ok, DD.bind_exc, DD.toS_ok, DD.toS_exc, DD.bindL_ok, DD.bindL_exc, DD.lbind_ok, DD.lbind_exc, DD.bindE_ok, DD.bindE_exc, DD.sbind_nx, DD.sbind_rt, DD.sbind_exc, DD.sbind_bk, DD.sbind_ct, DD.ret_nx, DD.ret_rt, DD.ret_exc, DD.varM_0, DD.varM_1, DD.varM_2, DD.varM_3, DD.varM_4, DD.varM_5, DD.cM_e, DD.binM_e, DD.unM_e, DD.seqM_e, DD.setM_e, DD.exprM_e, DD.retM_e, DD.raiseM_e, DD.passM_e, DD.brkM_e, DD.ifSM_e, DD.ifM_e, DD.andM_e, DD.orM_e, DD.notM_e, DD.nilM_e, DD.consM_e, DD.callM_e, DD.tupM_e, DD.lstM_e, DD.bmM_e, DD.smM_e, DD.asgM_e, DD.subG_e, DD.nameG_e, DD.slM_e, DD.om_none, DD.om_some, DD.fldSetM_e, DD.toldM_e, DD.add_ii, DD.add_tt, DD.sub_ii, DD.mul_ii, DD.lt_ii, DD.le_ii, DD.gt_ii, DD.ge_ii, DD.fdiv_ii, DD.mod_ii, DD.eq_ii, DD.ne_ii, DD.eq_ss, DD.ne_ss, DD.fld_e, DD.len_t, DD.len_s, DD.append_e, DD.extend_t, DD.extend_r, DD.tup_r, DD.it_t, DD.sl_t, DD.callF, List.length_append, List.length_cons, List.length_nil, List.append_nil, Nat.reduceAdd, List.set_cons_zero, List.set_cons_succ, ↓reduceIte, Bool.not_true, Bool.not_false, Nat.zero_le]
    · simp only [sl_f, ec, DD.bind_ok, DD.bind_exc, DD.toS_ok, DD.toS_exc, DD.bindL_ok, DD.bindL_exc, DD.lbind_ok, DD.lbind_exc, DD.bindE_ok, DD.bindE_exc, DD.sbind_nx, DD.sbind_rt, DD.sbind_exc, DD.sbind_bk, DD.sbind_ct, DD.ret_nx, DD.ret_rt, DD.ret_exc, DD.varM_0, DD.varM_1, DD.varM_2, DD.varM_3, DD.varM_4, DD.varM_5, DD.cM_e, DD.binM_e, DD.unM_e, DD.seqM_e, DD.setM_e, DD.exprM_e, DD.retM_e, DD.raiseM_e, DD.passM_e, DD.brkM_e, DD.ifSM_e, DD.ifM_e, DD.andM_e, DD.orM_e, DD.notM_e, DD.nilM_e, DD.consM_e, DD.callM_e, DD.tupM_e, DD.lstM_e, DD.bmM_e, DD.smM_e, DD.asgM_e, DD.subG_e, DD.nameG_e, DD.slM_e, DD.om_none, DD.om_some, DD.fldSetM_e, DD.toldM_e, DD.add_ii, DD.add_tt, DD.sub_ii, DD.mul_ii, DD.lt_ii, DD.le_ii, DD.gt_ii, DD.ge_ii, DD.fdiv_ii, DD.mod_ii, DD.eq_ii, DD.ne_ii, DD.eq_ss, DD.ne_ss, DD.fld_e, DD.len_t, DD.len_s, DD.append_e, DD.extend_t, DD.extend_r, DD.tup_r, DD.it_t, DD.sl_t, DD.callF, List.length_append, List.length_cons, List.length_nil, List.append_nil, Nat.reduceAdd, List.set_cons_zero, List.set_cons_succ, ↓reduceIte, Bool.not_true, Bool.not_false, Nat.zero_le]
  -- over the cells
  have fin : ∀ (q : Nat) (x : Int) (h1 : AH), h1[q]? = some (.lst [.int x]) → ∃ L D1 h' a b c, lcQ (varM 2) lstIt (nameG 3) none (callM (consM (varM 3) nilM) (callF 1 [] F__law_dice)) [3] [some dd, some (.int 1), some (.ref q), none] h1 = .ok (.ref L) h' ∧ h'[L]? = some (.lst [.ref D1]) ∧ h'[D1]? = some (Dc a b c) ∧ D1 ≠ L := fun q x h1 e => by
    obtain ⟨a, b, c, er⟩ := dice_run x (h1 ++ [.lst []])
    have hq := lt_of_get e
    have e1 : (h1 ++ [O.lst []])[q]? = some (.lst [.int x]) := get_app e
    have e2 : ((h1 ++ [O.lst []]) ++ [Dc a b c])[q]? = some (.lst [.int x]) := get_app e1
    have e3 : ((h1 ++ [O.lst []]) ++ [Dc a b c])[h1.length]? = some (.lst []) := get_app get_new
    have nq : h1.length ≠ q := by omega
    have e4 : (((h1 ++ [O.lst []]) ++ [Dc a b c]).set h1.length (.lst [.ref (h1 ++ [O.lst []]).length]))[q]? = some (.lst [.int x]) := by rw [get_set_ne nq]; exact e2
    refine ⟨h1.length, (h1 ++ [O.lst []]).length, ((h1 ++ [O.lst []]) ++ [Dc a b c]).set h1.length (.lst [.ref (h1 ++ [O.lst []]).length]), a, b, c, ?_, get_set (lt_of_get e3), ?_, by simp⟩
    · rw [lcQ_e, lcM_of (show varM 2 [some dd, some (.int 1), some (.ref q), none] h1 = .ok (.ref q) h1 from varM_2) (lstIt_e e), lcL_cons (isLst_mk e1)]
      have ew : (wipeD [some dd, some (D.int 1), some (D.ref q), none] [3]).set 3 (some (D.int x)) = [some dd, some (.int 1), some (.ref q), some (.int x)] := rfl
      rw [ew]
      have em : callM (consM (varM 3) nilM) (callF 1 [] F__law_dice) [some dd, some (.int 1), some (.ref q), some (.int x)] (h1 ++ [O.lst []]) = .ok (.ref (h1 ++ [O.lst []]).length) ((h1 ++ [O.lst []]) ++ [Dc a b c]) := by
        rw [callM_e, consM_e, varM_3, bindL_ok, nilM_e, lbind_ok, bindE_ok]
        exact er
      rw [em, bind_ok, e3]
      simp only []
      rw [if_pos (by rw [sizeLine_eq]; decide)]
      rw [List.nil_append, lcL_nil (isLst_mk e4), noexc_ok]
    · rw [get_set_ne (by simp)]
      exact get_new
  unfold F__law_rounds m__law_rounds
  have e0 : startD N__law_rounds.length [dd, D.int 1] = [some dd, some (.int 1), none, none] := rfl
  rw [e0]
  cases ns with
  | nil =>
    have g1 : (h0 ++ [O.lst []])[h0.length]? = some (O.lst []) := get_new
    obtain ⟨L, D1, h', a, b, c, f1, f2⟩ := fin ((h0 ++ [O.lst []]) ++ [O.lst []]).length 0 (((h0 ++ [O.lst []]) ++ [O.lst []]) ++ [.lst [.int 0]]) get_new
    refine ⟨L, D1, h', a, b, c, ?_, f2⟩
    have sl' : slM (varM 0) .none (.some (varM 1)) [some dd, some (.int 1), none, none] h0 = .ok (.ref h0.length) (h0 ++ [.lst []]) := sl
    have l2 : lstM nilM [some dd, some (.int 1), some (.ref h0.length), none] (h0 ++ [O.lst []]) = .ok (.ref (h0 ++ [O.lst []]).length) ((h0 ++ [O.lst []]) ++ [.lst []]) := by rw [lstM_e, nilM_e, bindE_ok, if_pos (by simp)]
    have l3 : lstM (consM (cM (.int 0)) nilM) [some dd, some (.int 1), some (.ref h0.length), none] ((h0 ++ [O.lst []]) ++ [O.lst []]) = .ok (.ref ((h0 ++ [O.lst []]) ++ [O.lst []]).length) (((h0 ++ [O.lst []]) ++ [O.lst []]) ++ [.lst [.int 0]]) := by rw [lstM_e, consM_e, cM_e, bindL_ok, nilM_e, lbind_ok, bindE_ok, if_pos (by rw [sizeLine_eq]; decide)]
    have q1 : eqM (.ref h0.length) (.ref (h0 ++ [O.lst []]).length) ((h0 ++ [O.lst []]) ++ [O.lst []]) = .ok (.bl true) ((h0 ++ [O.lst []]) ++ [O.lst []]) := eq_nilnil (get_app g1) get_new
    rw [seqM_e, setM_e, sl']
    simp only [toS_ok, sbind_nx, List.set_cons_zero, List.set_cons_succ]
    rw [seqM_e, ifSM_e, binM_e, varM_2, bind_ok, l2, bind_ok, q1, toS_ok]
    simp only []
    rw [setM_e, l3]
    simp only [toS_ok, sbind_nx, List.set_cons_zero, List.set_cons_succ]
    rw [retM_e, f1, toS_ok, ret_rt]
  | cons x ns =>
    obtain ⟨L, D1, h', a, b, c, f1, f2⟩ := fin h0.length x ((h0 ++ [O.lst [.int x]]) ++ [O.lst []]) (get_app get_new)
    refine ⟨L, D1, h', a, b, c, ?_, f2⟩
    have sl' : slM (varM 0) .none (.some (varM 1)) [some dd, some (.int 1), none, none] h0 = .ok (.ref h0.length) (h0 ++ [.lst [.int x]]) := sl
    have l2 : lstM nilM [some dd, some (.int 1), some (.ref h0.length), none] (h0 ++ [O.lst [.int x]]) = .ok (.ref (h0 ++ [O.lst [.int x]]).length) ((h0 ++ [O.lst [.int x]]) ++ [.lst []]) := by rw [lstM_e, nilM_e, bindE_ok, if_pos (by simp)]
    have g1 : ((h0 ++ [O.lst [.int x]]) ++ [O.lst []])[h0.length]? = some (O.lst [.int x]) := get_app get_new
    have g2 : ((h0 ++ [O.lst [.int x]]) ++ [O.lst []])[(h0 ++ [O.lst [.int x]]).length]? = some (O.lst []) := get_new
    have q1 : eqM (.ref h0.length) (.ref (h0 ++ [O.lst [.int x]]).length) ((h0 ++ [O.lst [.int x]]) ++ [O.lst []]) = .ok (.bl false) ((h0 ++ [O.lst [.int x]]) ++ [O.lst []]) := by
      simp only [eqM, eqB, g1, g2, plDs, plD, depDs, depD, eqDs]
      rfl
    rw [seqM_e, setM_e, sl']
    simp only [toS_ok, sbind_nx, List.set_cons_zero, List.set_cons_succ]
    rw [seqM_e, ifSM_e, binM_e, varM_2, bind_ok, l2, bind_ok, q1, toS_ok]
    simp only []
    rw [passM_e, sbind_nx, retM_e, f1, toS_ok, ret_rt]
/-- the dice stand at l -/
abbrev Di (h : AH) (l : Nat) : Prop := ∃ a b c, h[l]? = some (Dc a b c)
theorem Dd.of {l : Nat} {h h' : AH} (f : Fr none h h') (hd : Di h l) : Dd l h h' := by
  obtain ⟨a, b, c, e⟩ := hd
  exact ⟨f.wk, a, b, c, f.getN e⟩
theorem Dd.refl {l : Nat} {h : AH} (hd : Di h l) : Dd l h h := Dd.of Fr.refl hd
theorem rb (m : Nat) (h : m ≤ 100000000) : RB 5 m := .inl h
end K23
end

section
set_option Elab.async false
set_option linter.all false
set_option maxRecDepth 100000
set_option maxHeartbeats 2000000
/-! dicts whose keys are some of the texts ns: told by a function -/
namespace DD
open PySem L2
def up {β : Type} (f : Str → β) (x : Str) (b : β) : Str → β := fun y => if y = x then b else f y
theorem up_eq {β : Type} {f : Str → β} {x : Str} {b : β} : up f x b x = b := if_pos rfl
theorem up_ne {β : Type} {f : Str → β} {x y : Str} {b : β} (h : y ≠ x) : up f x b y = f y := if_neg h
structure DctIs (ns : List Str) (kvs : List (Key × D)) (f : Str → Option D) : Prop where
  nd : (kvs.map (·.1)).Nodup
  sub : ∀ k ∈ kvs.map (·.1), ∃ x ∈ ns, k = .inr x
  val : ∀ x, valK kvs (.inr x) = f x
section
variable {ns : List Str} {kvs : List (Key × D)} {f : Str → Option D} {x : Str} {d : D} {l : Nat} {h : AH}
theorem valK_mem : ∀ (kvs : List (Key × D)) (k : Key), (valK kvs k).isSome = true ↔ k ∈ kvs.map (·.1)
  | [], k => by simp [valK]
  | p :: r, k => by
    have ih := valK_mem r k
    unfold valK at ih ⊢
    by_cases e : p.1 = k
    · rw [List.find?_cons_of_pos (by simpa using e)]
      simp [e]
    · rw [List.find?_cons_of_neg (by simpa using e), ih, List.map_cons, List.mem_cons]
      exact ⟨.inr, fun z => z.resolve_left fun z => e z.symm⟩
theorem valK_drop (kvs : List (Key × D)) (k j : Key) : valK (dropKD kvs k) j = if j = k then none else valK kvs j := by
  unfold dropKD
  induction kvs with
  | nil => simp [valK]
  | cons p r ih =>
    unfold valK at ih ⊢
    by_cases e : p.1 = k
    · rw [List.filter_cons_of_neg (by simpa using e), ih]
      by_cases q : j = k
      · rw [if_pos q, if_pos q]
      · rw [if_neg q, if_neg q, List.find?_cons_of_neg (by simp [e]; exact fun z => q z.symm)]
    · rw [List.filter_cons_of_pos (by simpa using e)]
      by_cases q : p.1 = j
      · rw [List.find?_cons_of_pos (by simpa using q), List.find?_cons_of_pos (by simpa using q), if_neg (fun z => e (q.trans z))]
      · rw [List.find?_cons_of_neg (by simpa using q), List.find?_cons_of_neg (by simpa using q), ih]
theorem putKD_keys (kvs : List (Key × D)) (k : Key) (d : D) : (putKD kvs k d).map (·.1) = if (valK kvs k).isSome = true then kvs.map (·.1) else kvs.map (·.1) ++ [k] := by
  have e : (kvs.any fun kv => decide (kv.1 = k)) = (valK kvs k).isSome := by
    rw [Bool.eq_iff_iff, List.any_eq_true, valK_mem, List.mem_map]
    simp
  unfold putKD
  rw [e]
  by_cases c : (valK kvs k).isSome = true
  · rw [if_pos c, if_pos c, List.map_map]
    refine List.map_congr_left fun p _ => ?_
    show (if p.1 = k then (p.1, d) else p).1 = p.1
    split <;> rfl
  · rw [if_neg c, if_neg c, List.map_append]
    rfl
theorem DctIs.nil : DctIs ns [] fun _ => none := ⟨by simp, by simp, fun _ => rfl⟩
theorem DctIs.put (i : DctIs ns kvs f) (hx : x ∈ ns) : DctIs ns (putKD kvs (.inr x) d) (up f x (some d)) := by
  refine ⟨?_, fun k hk => ?_, fun y => ?_⟩
  · rw [putKD_keys]
    split
    · exact i.nd
    · rename_i c
      rw [List.nodup_append]
      refine ⟨i.nd, by simp, fun a ha b hb e => c ?_⟩
      rw [List.mem_singleton] at hb
      rw [valK_mem, ← hb, ← e]; exact ha
  · rw [putKD_keys] at hk
    split at hk
    · exact i.sub k hk
    · rcases List.mem_append.mp hk with hk | hk
      · exact i.sub k hk
      · exact ⟨x, hx, List.mem_singleton.mp hk⟩
  · rw [valK_put, i.val]
    unfold up
    by_cases e : y = x
    · rw [if_pos e, if_pos (by rw [e])]
    · rw [if_neg e, if_neg fun z => e (Sum.inr.inj z)]
theorem DctIs.drop (i : DctIs ns kvs f) : DctIs ns (dropKD kvs (.inr x)) (up f x none) := by
  have sl : ((dropKD kvs (.inr x)).map (·.1)).Sublist (kvs.map (·.1)) := List.Sublist.map _ List.filter_sublist
  refine ⟨i.nd.sublist sl, fun k hk => i.sub k (sl.subset hk), fun y => ?_⟩
  rw [valK_drop, i.val]
  unfold up
  by_cases e : y = x
  · rw [if_pos e, if_pos (by rw [e])]
  · rw [if_neg e, if_neg fun z => e (Sum.inr.inj z)]
theorem DctIs.congr {f' : Str → Option D} (i : DctIs ns kvs f) (e : ∀ x, f' x = f x) : DctIs ns kvs f' := ⟨i.nd, i.sub, fun x => (i.val x).trans (e x).symm⟩
theorem DctIs.has (i : DctIs ns kvs f) : (f x).isSome = true ↔ (.inr x : Key) ∈ kvs.map (·.1) := by rw [← i.val, valK_mem]
theorem DctIs.inn (i : DctIs ns kvs f) (e : (f x).isSome = true) : x ∈ ns := by
  obtain ⟨y, hy, z⟩ := i.sub _ (i.has.mp e)
  rw [Sum.inr.inj z]; exact hy
theorem txtKeys_of : ∀ ks : List Key, (∀ k ∈ ks, ∃ x, k = .inr x) → ∃ ss : List Str, txtKeys ks = some ss ∧ ks = ss.map Sum.inr
  | [], _ => ⟨[], rfl, rfl⟩
  | k :: ks, h => by
    obtain ⟨x, rfl⟩ := h k (by simp)
    obtain ⟨ss, e1, e2⟩ := txtKeys_of ks fun k hk => h k (by simp [hk])
    exact ⟨x :: ss, by simp [txtKeys, e1], by simp [e2]⟩
theorem DctIs.keys (i : DctIs ns kvs f) : ∃ ss : List Str, txtKeys (kvs.map (·.1)) = some ss ∧ ss.Nodup ∧ ∀ x, x ∈ ss ↔ (f x).isSome = true := by
  obtain ⟨ss, e1, e2⟩ := txtKeys_of (kvs.map (·.1)) fun k hk => let ⟨x, _, e⟩ := i.sub k hk; ⟨x, e⟩
  refine ⟨ss, e1, ?_, fun x => ?_⟩
  · have := i.nd
    rw [e2] at this
    exact (List.pairwise_map.mp this).imp fun h e => h (congrArg _ e)
  · rw [i.has, e2, List.mem_map]
    constructor
    · exact fun h => ⟨x, h, rfl⟩
    · rintro ⟨y, hy, e⟩
      rw [← Sum.inr.inj e]; exact hy
theorem sub_len {xs ys : List Str} (nd : xs.Nodup) (h : ∀ x ∈ xs, x ∈ ys) : xs.length ≤ ys.length := by
  induction xs generalizing ys with
  | nil => simp
  | cons x xs ih =>
    obtain ⟨n1, n2⟩ := List.nodup_cons.mp nd
    have hx := h x (by simp)
    have : xs.length ≤ (ys.erase x).length := ih n2 fun y hy => (List.mem_erase_of_ne (fun e => n1 (by rw [← e]; exact hy))).mpr (h y (by simp [hy]))
    rw [List.length_erase_of_mem hx] at this
    have : 0 < ys.length := List.length_pos_of_mem hx
    simp only [List.length_cons]
    omega
theorem DctIs.len (i : DctIs ns kvs f) : kvs.length ≤ ns.length := by
  obtain ⟨ss, e1, e2, e3⟩ := i.keys
  have e := txtKeys_eq e1
  have : kvs.length = ss.length := by
    have := congrArg List.length e
    simpa using this
  rw [this]
  exact sub_len e2 fun x hx => i.inn ((e3 x).mp hx)
/-- names in ascending order -/
structure Asc (ns : List Str) : Prop where
  nd : ns.Nodup
  pw : ns.Pairwise leT
  few : ns.length < 64
theorem sortT_filter {ss : List Str} {p : Str → Bool} (A : Asc ns) (nd : ss.Nodup) (hm : ∀ x, x ∈ ss ↔ x ∈ ns ∧ p x = true) : sortT ss = ns.filter p := by
  refine List.Perm.eq_of_pairwise (le := leT) (fun a b _ _ h1 h2 => leT_anti h1 h2) (sortT_pw ss) (A.pw.sublist List.filter_sublist) ((sortT_perm ss).trans ?_)
  refine (List.perm_ext_iff_of_nodup nd (A.nd.sublist List.filter_sublist)).mpr fun x => ?_
  rw [hm, List.mem_filter]
theorem sorted_run (A : Asc ns) (g : h[l]? = some (.dct kvs)) (i : DctIs ns kvs f) : sortedF [.ref l] h = .ok (.ref h.length) (h ++ [.lst ((ns.filter fun x => (f x).isSome).map D.str)]) := by
  obtain ⟨ss, e1, e2, e3⟩ := i.keys
  have hl : ss.length < 64 := Nat.lt_of_le_of_lt (sub_len e2 fun x hx => i.inn ((e3 x).mp hx)) A.few
  simp only [sortedF, g, e1]
  rw [if_pos hl, sortT_filter A e2 fun x => ⟨fun q => ⟨i.inn ((e3 x).mp q), (e3 x).mp q⟩, fun q => (e3 x).mpr q.2⟩]
  rfl
theorem dget_run (g : h[l]? = some (.dct kvs)) (i : DctIs ns kvs f) (e : f x = some d) : dgetM (.ref l) (.str x) h = .ok d h := by
  simp only [dgetM, g, kgM, keyD, i.val, e]
theorem din_run (g : h[l]? = some (.dct kvs)) (i : DctIs ns kvs f) : dinM (.str x) (.ref l) h = .ok (.bl (f x).isSome) h := by
  simp only [dinM, g, keyD, i.val]
theorem dnin_run (g : h[l]? = some (.dct kvs)) (i : DctIs ns kvs f) : dninM (.str x) (.ref l) h = .ok (.bl (!(f x).isSome)) h := by
  simp only [dninM, g, keyD, i.val]
theorem dset_run (g : h[l]? = some (.dct kvs)) (i : DctIs ns kvs f) (hl : ns.length < 64) : setDF (.ref l) (.str x) d h = some (h.set l (.dct (putKD kvs (.inr x) d))) := by
  simp only [setDF, g, keyD]
  rw [if_pos (by have := i.len; rw [sizeLine_eq]; omega)]
theorem dg2_run {τ : SL} {mo mk mx : EM} {z : D} (g : h[l]? = some (.dct kvs)) (i : DctIs ns kvs f) (e1 : mo τ h = .ok (.ref l) h) (e2 : mk τ h = .ok (.str x) h) (e3 : mx τ h = .ok z h) : dg2M mo mk mx τ h = .ok ((f x).getD z) h := by
  simp only [dg2M, e1, e2, e3, bind_ok, g, isDO, kvO, keyD, i.val]
theorem dg1_run {τ : SL} {mo mk : EM} (g : h[l]? = some (.dct kvs)) (i : DctIs ns kvs f) (e1 : mo τ h = .ok (.ref l) h) (e2 : mk τ h = .ok (.str x) h) : dg1M mo mk τ h = .ok ((f x).getD .non) h := by
  simp only [dg1M, e1, e2, bind_ok, g, isDO, kvO, keyD, i.val]
theorem dp1_run {τ : SL} {mo mk : EM} (g : h[l]? = some (.dct kvs)) (i : DctIs ns kvs f) (e1 : mo τ h = .ok (.ref l) h) (e2 : mk τ h = .ok (.str x) h) (e : f x = some d) : dp1M mo mk τ h = .ok d (h.set l (.dct (dropKD kvs (.inr x)))) := by
  simp only [dp1M, e1, e2, bind_ok, g, keyD, i.val, e]
theorem dp2_run {τ : SL} {mo mk mx : EM} {z : D} (g : h[l]? = some (.dct kvs)) (i : DctIs ns kvs f) (e1 : mo τ h = .ok (.ref l) h) (e2 : mk τ h = .ok (.str x) h) (e3 : mx τ h = .ok z h) : ∃ d kvs', dp2M mo mk mx τ h = .ok d (h.set l (.dct kvs')) ∧ DctIs ns kvs' (up f x none) := by
  cases e : f x with
  | some d => exact ⟨d, _, by simp only [dp2M, e1, e2, e3, bind_ok, g, keyD, i.val, e], i.drop⟩
  | none =>
    refine ⟨z, kvs, by simp only [dp2M, e1, e2, e3, bind_ok, g, keyD, i.val, e]; rw [set_same g], i.congr fun y => ?_⟩
    unfold up
    split
    · rename_i q; rw [q, e]
    · rfl
end
/-! objects by their tags -/
structure HeapOf {T : Type} (V : T → Prop) (a : T → Nat) (Is : T → O → Prop) (h : AH) : Prop where
  inj : ∀ s t, V s → V t → a s = a t → s = t
  at_ : ∀ t, V t → ∃ o, h[a t]? = some o ∧ Is t o
section
variable {T : Type} {V : T → Prop} {a : T → Nat} {Is Is' : T → O → Prop} {h h' : AH} {t : T} {o : O}
theorem HeapOf.frame (H : HeapOf V a Is h) (f : Fr none h h') : HeapOf V a Is h' := ⟨H.inj, fun t v => let ⟨o, e, i⟩ := H.at_ t v; ⟨o, f.getN e, i⟩⟩
theorem HeapOf.imp (H : HeapOf V a Is h) (k : ∀ t o, V t → Is t o → Is' t o) : HeapOf V a Is' h := ⟨H.inj, fun t v => let ⟨o, e, i⟩ := H.at_ t v; ⟨o, e, k t o v i⟩⟩
theorem HeapOf.write (H : HeapOf V a Is h) (v : V t) (io : Is' t o) (k : ∀ s o, V s → s ≠ t → Is s o → Is' s o) : HeapOf V a Is' (h.set (a t) o) := by
  refine ⟨H.inj, fun s vs => ?_⟩
  obtain ⟨o0, e0, i0⟩ := H.at_ s vs
  by_cases q : s = t
  · subst q
    exact ⟨o, get_set (lt_of_get e0), io⟩
  · exact ⟨o0, by rw [get_set_ne (fun z => q (H.inj _ _ v vs z).symm)]; exact e0, k s o0 vs q i0⟩
/-- only what t tags was written -/
theorem HeapOf.one (H : HeapOf V a Is h) (v : V t) (f : Fr (some (a t)) h h') (g : h'[a t]? = some o) (io : Is' t o) (k : ∀ s o, V s → s ≠ t → Is s o → Is' s o) : HeapOf V a Is' h' := by
  refine ⟨H.inj, fun s vs => ?_⟩
  obtain ⟨o0, e0, i0⟩ := H.at_ s vs
  by_cases q : s = t
  · subst q
    exact ⟨o, g, io⟩
  · exact ⟨o0, f.get e0 (by intro z; injection z with z; exact q (H.inj _ _ vs v z)), k s o0 vs q i0⟩
end
end DD
end

section
set_option Elab.async false
set_option linter.all false
set_option maxRecDepth 100000
set_option maxHeartbeats 2000000
/-! loops and list comprehensions over lists of the heap -/
namespace DD
open PySem L2
theorem lcL_go {mc : Option EM} {me : EM} {own : List Nat} {τ : SL} {L j : Nat} {d : D} {ds : List D} {live : AH → Bool} {h : AH} (e : live h = true) : lcLoop live (nameG j) mc me own τ L (d :: ds) h = (mcM mc ((wipeD τ own).set j (some d)) h).bind fun k h2 => match k with
    | .bl true => (me ((wipeD τ own).set j (some d)) h2).bind fun y h3 => match h3[L]? with
      | some (.lst acc) => if acc.length < sizeLine then lcLoop live (nameG j) mc me own τ L ds (h3.set L (.lst (acc ++ [y]))) else .bad
      | _ => .bad
    | .bl false => lcLoop live (nameG j) mc me own τ L ds h2
    | _ => .bad := by
  show (if live h = true then _ else _) = _
  rw [if_pos e]
  cases mc <;> rfl
section
variable {β : Type} {e me : EM} {mc : Option EM} {own : List Nat} {τ : SL} {L j q : Nat} {h h1 : AH} {φ : β → D} {xs : List β} {p : β → Bool} {g : β → D}
theorem lc_loop (hq : ∀ h2, Fr none h1 h2 → isLst q (xs.map φ) h2 = true) (few : xs.length ≤ 100000)
    (step : ∀ x ∈ xs, ∀ h2, Fr none h1 h2 → ∃ h3, mcM mc ((wipeD τ own).set j (some (φ x))) h2 = .ok (.bl (p x)) h3 ∧ Fr none h2 h3 ∧ (p x = true → ∃ h4, me ((wipeD τ own).set j (some (φ x))) h3 = .ok (g x) h4 ∧ Fr none h3 h4)) :
    ∀ (rest done : List β) (h2 : AH), xs = done ++ rest → Fr none h1 h2 → h1.length < h2.length → h2[h1.length]? = some (.lst ((done.filter p).map g)) → ∃ h', lcLoop (isLst q (xs.map φ)) (nameG j) mc me own τ h1.length (rest.map φ) h2 = .ok (.ref h1.length) h' ∧ h'[h1.length]? = some (.lst ((xs.filter p).map g)) ∧ Fr none h1 h' := by
  intro rest
  induction rest with
  | nil =>
    intro done h2 hx f hl hL
    rw [List.append_nil] at hx
    subst hx
    exact ⟨h2, by rw [List.map_nil, lcL_nil (hq h2 f)], hL, f⟩
  | cons x rest ih =>
    intro done h2 hx f hl hL
    obtain ⟨h3, a1, a2, a3⟩ := step x (by rw [hx]; simp) h2 f
    rw [List.map_cons, lcL_go (hq h2 f), a1, bind_ok]
    have hx' : xs = (done ++ [x]) ++ rest := by rw [hx]; simp
    cases hp : p x with
    | false =>
      simp only []
      refine ih (done ++ [x]) h3 hx' (f.trans a2) (Nat.lt_of_lt_of_le hl a2.1) ?_
      rw [a2.getN hL, List.filter_append, List.filter_cons_of_neg (by simp [hp]), List.filter_nil, List.append_nil]
    | true =>
      obtain ⟨h4, b1, b2⟩ := a3 hp
      have g4 := b2.getN (a2.getN hL)
      simp only []
      rw [b1, bind_ok, g4]
      simp only []
      have lf : ((done.filter p).map g).length < sizeLine := by
        have h5 : (done.filter p).length ≤ done.length := List.length_filter_le _ _
        have h6 : done.length ≤ xs.length := by rw [hx]; simp
        rw [List.length_map, sizeLine_eq]
        omega
      rw [if_pos lf]
      have l4 : h1.length < h4.length := Nat.lt_of_lt_of_le hl (Nat.le_trans a2.1 b2.1)
      refine ih (done ++ [x]) _ hx' (((f.trans a2).trans b2).setN (Nat.le_refl _)) (by simpa using l4) ?_
      rw [get_set l4, List.filter_append, List.filter_cons_of_pos (by simp [hp]), List.filter_nil, List.map_append]
      rfl
/-- [g(x) for x in xs if p(x)], nothing written -/
theorem lc_list (he : e τ h = .ok (.ref q) h1) (hq : h1[q]? = some (.lst (xs.map φ))) (few : xs.length ≤ 100000)
    (step : ∀ x ∈ xs, ∀ h2, Fr none h1 h2 → ∃ h3, mcM mc ((wipeD τ own).set j (some (φ x))) h2 = .ok (.bl (p x)) h3 ∧ Fr none h2 h3 ∧ (p x = true → ∃ h4, me ((wipeD τ own).set j (some (φ x))) h3 = .ok (g x) h4 ∧ Fr none h3 h4)) :
    ∃ h', lcQ e lstIt (nameG j) mc me own τ h = .ok (.ref h1.length) h' ∧ h'[h1.length]? = some (.lst ((xs.filter p).map g)) ∧ Fr none h1 h' := by
  obtain ⟨h', a1, a2, a3⟩ := lc_loop (τ := τ) (own := own) (me := me) (mc := mc) (j := j) (fun h2 f => isLst_mk (f.getN hq)) few step xs [] (h1 ++ [.lst []]) rfl Fr.app (by simp) get_new
  exact ⟨h', by rw [lcQ_e, lcM_of he (lstIt_e hq), a1, noexc_ok], a2, a3⟩
/-- the test is not there -/
theorem lc_all (he : e τ h = .ok (.ref q) h1) (hq : h1[q]? = some (.lst (xs.map φ))) (few : xs.length ≤ 100000)
    (step : ∀ x ∈ xs, ∀ h2, Fr none h1 h2 → ∃ h4, me ((wipeD τ own).set j (some (φ x))) h2 = .ok (g x) h4 ∧ Fr none h2 h4) :
    ∃ h', lcQ e lstIt (nameG j) none me own τ h = .ok (.ref h1.length) h' ∧ h'[h1.length]? = some (.lst (xs.map g)) ∧ Fr none h1 h' := by
  obtain ⟨h', a1, a2, a3⟩ := lc_list (mc := none) (p := fun _ => true) (g := g) (own := own) (j := j) (me := me) he hq few fun x hx h2 f => ⟨h2, rfl, .refl, fun _ => step x hx h2 f⟩
  exact ⟨h', a1, by rw [a2, List.filter_eq_self.mpr (fun _ _ => rfl)], a3⟩
/-- for x in xs: what is left tells where the loop stands -/
theorem for_list {f : TM} {b : SM} {live : AH → Bool} (P : List β → SL → AH → Prop) (hl : ∀ r τ h, P r τ h → live h = true)
    (step : ∀ x r τ h, P (x :: r) τ h → ∃ τ1 h1, (f (φ x) τ h).bind b = .nx τ1 h1 ∧ P r τ1 h1) :
    ∀ (xs : List β) (τ : SL) (h : AH), P xs τ h → ∃ τ' h', loopM live f b (xs.map φ) τ h = .nx τ' h' ∧ P [] τ' h' := by
  intro xs
  induction xs with
  | nil => exact fun τ h p => ⟨τ, h, loopL_nil (hl _ _ _ p), p⟩
  | cons x r ih =>
    intro τ h p
    obtain ⟨τ1, h1, e1, p1⟩ := step x r τ h p
    obtain ⟨τ2, h2, e2, p2⟩ := ih τ1 h1 p1
    refine ⟨τ2, h2, ?_, p2⟩
    rw [List.map_cons, loopL_cons (hl _ _ _ p)]
    cases ef : f (φ x) τ h with
    | nx τ3 h3 =>
      rw [ef, sbind_nx] at e1
      rw [sbind_nx, e1, next_nx, e2]
    | rt d h3 => rw [ef] at e1; cases e1
    | bk τ3 h3 => rw [ef] at e1; cases e1
    | ct τ3 h3 => rw [ef] at e1; cases e1
    | exc c τ3 h3 => rw [ef] at e1; cases e1
    | bad => rw [ef] at e1; cases e1
end
end DD
end

section
set_option Elab.async false
set_option linter.all false
set_option maxRecDepth 100000
set_option maxHeartbeats 2000000
/-! dict comprehensions, dict(pairs), places in a list -/
namespace DD
open PySem L2
section
variable {β : Type} {e mk mv : EM} {own : List Nat} {τ : SL} {j l : Nat} {h h1 : AH} {φ : β → D} {live : AH → Bool} {ns : List Str} {kvs : List (Key × D)} {f : Str → Option D}
theorem dcL_nil {f : TM} (e : live h = true) : dcLoop live f none mk mv own τ l [] h = .ok (.ref l) h := by
  show (if live h = true then _ else _) = _
  rw [if_pos e]
theorem dcL_cons {d : D} {ds : List D} (e : live h = true) : dcLoop live (nameG j) none mk mv own τ l (d :: ds) h = (mk ((wipeD τ own).set j (some d)) h).bind fun y h3 => (mv ((wipeD τ own).set j (some d)) h3).bind fun z h4 => match h4[l]?, keyD y with
    | some (.dct kvs), some k => if kvs.length < sizeLine then dcLoop live (nameG j) none mk mv own τ l ds (h4.set l (.dct (putKD kvs k z))) else .bad
    | _, _ => .bad := by
  show (if live h = true then _ else _) = _
  rw [if_pos e]
  rfl
theorem dc_loop (P : List β → AH → Prop) (hl : ∀ r h, P r h → live h = true)
    (step : ∀ x r h, P (x :: r) h → ∃ y z h4 kvs, mk ((wipeD τ own).set j (some (φ x))) h = .ok (.str y) h ∧ mv ((wipeD τ own).set j (some (φ x))) h = .ok z h4 ∧ h4[l]? = some (.dct kvs) ∧ kvs.length < 1000 ∧ P r (h4.set l (.dct (putKD kvs (.inr y) z)))) :
    ∀ (xs : List β) (h : AH), P xs h → ∃ h', dcLoop live (nameG j) none mk mv own τ l (xs.map φ) h = .ok (.ref l) h' ∧ P [] h' := by
  intro xs
  induction xs with
  | nil => exact fun h p => ⟨h, dcL_nil (hl _ _ p), p⟩
  | cons x r ih =>
    intro h p
    obtain ⟨y, z, h4, kvs, e1, e2, e3, e4, e5⟩ := step x r h p
    obtain ⟨h', a1, a2⟩ := ih _ e5
    refine ⟨h', ?_, a2⟩
    rw [List.map_cons, dcL_cons (hl _ _ p), e1, bind_ok, e2, bind_ok, e3]
    simp only [keyD]
    rw [if_pos (by rw [sizeLine_eq]; omega), a1]
theorem dcQ_of {items : D → AH → Option (List D × (AH → Bool))} {f : TM} {mc : Option EM} {d : D} {ds : List D} {d' : D} {h' : AH} (e1 : e τ h = .ok d h1) (e2 : items d h1 = some (ds, live)) (e3 : dcLoop live f mc mk mv own τ h1.length ds (h1 ++ [.dct []]) = .ok d' h') : dcQ e items f mc mk mv own τ h = .ok d' h' := by
  show noexc ((e τ h).bind _) = _
  rw [e1, bind_ok, e2]
  simp only []
  rw [e3, noexc_ok]
/-- pairs, laid into a dict -/
theorem merge_is {g : Str → D} : ∀ (l : List Str) {kvs : List (Key × D)} {f : Str → Option D}, (∀ x ∈ l, x ∈ ns) → DctIs ns kvs f → DctIs ns (mergeKD kvs (l.map fun x => (.inr x, g x))) (fun y => if y ∈ l then some (g y) else f y)
  | [], _, _, _, i => i.congr fun y => by simp
  | x :: l, kvs, f, hl, i => by
    have i1 := i.put (x := x) (d := g x) (hl x (by simp))
    have i2 := merge_is (g := g) l (fun y hy => hl y (by simp [hy])) i1
    refine DctIs.congr (kvs := mergeKD (putKD kvs (.inr x) (g x)) (l.map fun x => (.inr x, g x))) i2 fun y => ?_
    by_cases q : y ∈ l
    · rw [if_pos q, if_pos (by simp [q])]
    · rw [if_neg q]
      by_cases e : y = x
      · subst e; rw [if_pos (by simp), up_eq]
      · rw [if_neg (by simp [e, q]), up_ne e]
theorem pairsOf_map {g : Str → D} : ∀ l : List Str, pairsOf (l.map fun x => D.tup [.str x, g x]) = some (l.map fun x => (.inr x, g x))
  | [] => rfl
  | x :: l => by simp [pairsOf, keyD, pairsOf_map l]
/-- dict([(x, g(x)) ..]) -/
theorem dict_pairs {g : Str → D} {q : Nat} {xs : List Str} (hq : h[q]? = some (.lst (xs.map fun x => D.tup [.str x, g x]))) : dictF [.ref q] h = .ok (.ref h.length) (h ++ [.dct (mergeKD [] (xs.map fun x => (.inr x, g x)))]) := by
  simp only [dictF, hq, pairsOf_map]
  rfl
end
/-! places -/
def pos : List Str → Str → Nat
  | [], _ => 0
  | y :: r, x => if x = y then 0 else pos r x + 1
theorem pos_lt : ∀ {ns : List Str} {x : Str}, x ∈ ns → pos ns x < ns.length
  | y :: r, x, h => by
    unfold pos
    split
    · simp
    · rename_i e
      have := pos_lt (List.mem_of_ne_of_mem e h)
      simp only [List.length_cons]; omega
theorem pos_inj : ∀ {ns : List Str} {x y : Str}, x ∈ ns → y ∈ ns → pos ns x = pos ns y → x = y
  | z :: r, x, y, hx, hy, e => by
    unfold pos at e
    by_cases e1 : x = z
    · by_cases e2 : y = z
      · rw [e1, e2]
      · rw [if_pos e1, if_neg e2] at e; omega
    · by_cases e2 : y = z
      · rw [if_neg e1, if_pos e2] at e; omega
      · rw [if_neg e1, if_neg e2] at e
        exact pos_inj (List.mem_of_ne_of_mem e1 hx) (List.mem_of_ne_of_mem e2 hy) (by omega)
theorem pos_app : ∀ {done r : List Str} {x : Str}, x ∉ done → pos (done ++ x :: r) x = done.length
  | [], r, x, _ => by simp [pos]
  | y :: d, r, x, h => by
    simp only [List.mem_cons, not_or] at h
    simp only [List.cons_append, pos, if_neg h.1, pos_app h.2, List.length_cons]
end DD
end

section
set_option Elab.async false
set_option linter.all false
set_option maxRecDepth 100000
set_option maxHeartbeats 2000000
/-! more of list comprehensions -/
namespace DD
open PySem L2
section
variable {β : Type} {e me : EM} {mc : Option EM} {own : List Nat} {τ : SL} {j l q : Nat} {h h1 : AH} {φ : β → D} {live : AH → Bool} {xs : List β} {g : β → D}
/-- what is left and what is gathered tell where the loop stands -/
theorem lc_inv (P : List β → List D → AH → Prop) (hl : ∀ r acc h, P r acc h → live h = true)
    (step : ∀ x r acc h, P (x :: r) acc h → ∃ b h2, mcM mc ((wipeD τ own).set j (some (φ x))) h = .ok (.bl b) h2 ∧ (b = false → P r acc h2) ∧
      (b = true → ∃ y h3, me ((wipeD τ own).set j (some (φ x))) h2 = .ok y h3 ∧ h3[l]? = some (.lst acc) ∧ acc.length < 1000 ∧ P r (acc ++ [y]) (h3.set l (.lst (acc ++ [y]))))) :
    ∀ (xs : List β) (acc : List D) (h : AH), P xs acc h → ∃ acc' h', lcLoop live (nameG j) mc me own τ l (xs.map φ) h = .ok (.ref l) h' ∧ P [] acc' h' := by
  intro xs
  induction xs with
  | nil => exact fun acc h p => ⟨acc, h, lcL_nil (hl _ _ _ p), p⟩
  | cons x r ih =>
    intro acc h p
    obtain ⟨b, h2, e1, e2, e3⟩ := step x r acc h p
    rw [List.map_cons, lcL_go (hl _ _ _ p), e1, bind_ok]
    cases b with
    | false => exact ih acc h2 (e2 rfl)
    | true =>
      obtain ⟨y, h3, f1, f2, f3, f4⟩ := e3 rfl
      obtain ⟨acc', h', a1, a2⟩ := ih _ _ f4
      refine ⟨acc', h', ?_, a2⟩
      simp only []
      rw [f1, bind_ok, f2]
      simp only []
      rw [if_pos (by rw [sizeLine_eq]; omega), a1]
theorem lcQ_of {items : D → AH → Option (List D × (AH → Bool))} {f : TM} {d d' : D} {ds : List D} {h' : AH} (e1 : e τ h = .ok d h1) (e2 : items d h1 = some (ds, live)) (e3 : lcLoop live f mc me own τ h1.length ds (h1 ++ [.lst []]) = .ok d' h') : lcQ e items f mc me own τ h = .ok d' h' := by
  rw [lcQ_e, lcM_of e1 e2, e3, noexc_ok]
/-- nothing is laid meanwhile -/
theorem lc_pure (he : e τ h = .ok (.ref q) h1) (hq : h1[q]? = some (.lst (xs.map φ))) (few : xs.length < 1000) (step : ∀ x ∈ xs, ∀ h2, me ((wipeD τ own).set j (some (φ x))) h2 = .ok (g x) h2) :
    lcQ e lstIt (nameG j) none me own τ h = .ok (.ref h1.length) (h1 ++ [.lst (xs.map g)]) := by
  refine lcQ_of he (lstIt_e hq) ?_
  obtain ⟨acc', h', a1, done, a2, rfl, rfl⟩ := lc_inv (mc := none) (me := me) (own := own) (τ := τ) (j := j) (l := h1.length) (live := isLst q (xs.map φ)) (φ := φ) (fun r acc hh => ∃ done, xs = done ++ r ∧ acc = done.map g ∧ hh = h1 ++ [.lst acc]) (fun r acc hh p => by
      obtain ⟨done, _, _, rfl⟩ := p
      exact isLst_mk (get_app hq)) (fun x r acc hh p => by
      obtain ⟨done, ex, rfl, rfl⟩ := p
      refine ⟨true, _, rfl, fun z => (by cases z), fun _ => ⟨g x, _, step x (by rw [ex]; simp) _, get_new, ?_, done ++ [x], by rw [ex]; simp, by simp, set_new⟩⟩
      have : done.length ≤ xs.length := by rw [ex]; simp
      rw [List.length_map]; omega) xs [] (h1 ++ [.lst []]) ⟨[], rfl, rfl, rfl⟩
  rw [List.append_nil] at a2
  subst a2
  exact a1
end
end DD
end

section
set_option Elab.async false
set_option linter.all false
set_option maxRecDepth 100000
set_option maxHeartbeats 2000000
namespace K23
open PySem L2 DD
/-- what stands in the heap -/
inductive Tg where
  | S | Td | T (x : Str) | W (x : Str) | O | R (x : Str) | L (x : Str) | D | SZ | SL (x : Str) | SV | MN | X
  deriving DecidableEq
structure St where
  pt : Int
  w : Str → Int
  q : Str → Int
  ws : Str → List (Int × Int)
  rp : Str → Int
  rw : Str → List (Int × Int)
  sz : Str → List Int
  sv : Str → Int
  mn : Str → Int
  ns : List Str
  ms : List Str
  zs : List Str
  vs : List Str
  ok : Bool
  tk : Bool
  two : Bool
def pr (p : Int × Int) : D := .tup [.int p.1, .int p.2]
def dk (b : Bool) (kvs : List (Key × D)) : O := if b then .fdct kvs else .dct kvs
def rowO (w : Int) (l : Nat) (p : Int) : List (Key × D) := [(.inr "weight", .int w), (.inr "waits", .ref l), (.inr "point", .int p)]
def tenO (w : Int) (l : Nat) (p : Int) : List (Str × D) := [("weight", .int w), ("waits", .ref l), ("point", .int p)]
def kvO (l : List Str) (f : Str → D) : List (Key × D) := l.map fun x => (.inr x, f x)
def Ob (a : Tg → Nat) (s : St) : Tg → O
  | .S => .ins 2 [("tenants", .ref (a .Td)), ("point", .int s.pt)]
  | .Td => dk s.tk (kvO s.ms fun x => .ref (a (.T x)))
  | .T x => .ins 1 (tenO (s.w x) (a (.W x)) (s.q x))
  | .W x => .lst ((s.ws x).map pr)
  | .O => dk s.ok (kvO s.ns fun x => .ref (a (.R x)))
  | .R x => .dct (rowO (s.w x) (a (.L x)) (s.rp x))
  | .L x => .lst ((s.rw x).map pr)
  | .D => .dct []
  | .SZ => .dct (kvO s.zs fun x => .ref (a (.SL x)))
  | .SL x => .lst ((s.sz x).map D.int)
  | .SV => .dct (kvO s.vs fun x => .int (s.sv x))
  | .MN => .dct (kvO s.vs fun x => .int (s.mn x))
  | .X => .lst [.ref (a .D)]
def V (s : St) : Tg → Prop
  | .S => True
  | .Td => True
  | .T x => x ∈ s.ms
  | .W x => x ∈ s.ms
  | .O => s.ns ≠ [] ∨ s.two = false
  | .R x => x ∈ s.ns
  | .L x => x ∈ s.ns
  | .D => True
  | .SZ => s.two = true
  | .SL x => x ∈ s.zs
  | .SV => s.two = true
  | .MN => s.two = true
  | .X => True
/-- where the list of the dice and its one are -/
class Gh where
  x : Nat
  d : Nat
structure Cr [Gh] (a : Tg → Nat) (s : St) (h : AH) : Prop where
  inj : ∀ t u, V s t → V s u → a t = a u → t = u
  at_ : ∀ t, V s t → t ≠ .D → h[a t]? = some (Ob a s t)
  dice : Di h (a .D)
  gx : a .X = Gh.x ∧ a .D = Gh.d
section
variable {a a' : Tg → Nat} {s s' : St} {h h' : AH} {t u : Tg} {x y : Str} {o : O} {i : Nat} {τ : SL} [Gh]
theorem Cr.lt (C : Cr a s h) (v : V s t) : a t < h.length := by
  by_cases e : t = .D
  · subst e; obtain ⟨_, _, _, q⟩ := C.dice; exact lt_of_get q
  · exact lt_of_get (C.at_ t v e)
theorem Cr.fr (C : Cr a s h) (f : Fr none h h') : Cr a s h' := ⟨C.inj, fun t v n => f.getN (C.at_ t v n), by
  obtain ⟨p, q, r, e⟩ := C.dice
  exact ⟨p, q, r, f.getN e⟩, C.gx⟩
theorem Cr.app (C : Cr a s h) {gb : AH} : Cr a s (h ++ gb) := C.fr Fr.app
theorem Cr.rolled (C : Cr a s h) (d : Dd (a .D) h h') : Cr a s h' := ⟨C.inj, fun t v n => d.1.get (C.at_ t v n) (by intro z; injection z with z; exact n (C.inj _ _ v (show V s .D from trivial) z)), d.2, C.gx⟩
/-- one thing is written -/
theorem Cr.wr (C : Cr a s h) (v : V s t) (n : t ≠ .D) (hV : ∀ u, V s' u → V s u) (ho : Ob a s' t = o) (hs : ∀ u, V s' u → u ≠ t → u ≠ .D → Ob a s' u = Ob a s u) : Cr a s' (h.set (a t) o) := by
  refine ⟨fun t u p q e => C.inj t u (hV _ p) (hV _ q) e, fun u vu nu => ?_, ?_, C.gx⟩
  · by_cases e : u = t
    · subst e; rw [get_set (C.lt v), ho]
    · rw [get_set_ne (fun z => e (C.inj _ _ v (hV _ vu) z).symm), hs u vu e nu]
      exact C.at_ u (hV _ vu) nu
  · obtain ⟨p, q, r, e⟩ := C.dice
    exact ⟨p, q, r, by rw [get_set_ne (fun z => n (C.inj _ _ v (show V s .D from trivial) z))]; exact e⟩
/-- new things are laid -/
theorem Cr.grow (C : Cr a s h) (keep : ∀ t, V s t → a' t = a t) (new : ∀ t, V s' t → V s t ∨ h.length ≤ a' t) (newI : ∀ t u, V s' t → V s' u → h.length ≤ a' t → h.length ≤ a' u → a' t = a' u → t = u)
    (at' : ∀ t, V s' t → t ≠ .D → h'[a' t]? = some (Ob a' s' t)) (dice' : Di h' (a' .D)) : Cr a' s' h' := by
  refine ⟨fun t u p q e => ?_, at', dice', by rw [keep .X trivial, keep .D trivial]; exact C.gx⟩
  rcases new t p with vt | lt
  · have l1 := C.lt vt
    rcases new u q with vu | lu
    · rw [keep t vt, keep u vu] at e
      exact C.inj t u vt vu e
    · rw [keep t vt] at e; omega
  · rcases new u q with vu | lu
    · have l1 := C.lt vu
      rw [keep u vu] at e; omega
    · exact newI t u p q lt lu e
theorem valK_kv {l : List Str} {f : Str → D} (hx : x ∈ l) : valK (kvO l f) (.inr x) = some (f x) := by
  unfold valK kvO
  induction l with
  | nil => cases hx
  | cons y r ih =>
    rw [List.map_cons]
    by_cases e : y = x
    · subst e
      rw [List.find?_cons_of_pos (by simp)]
      rfl
    · rw [List.find?_cons_of_neg (by simpa using e)]
      exact ih (List.mem_of_ne_of_mem (fun z => e z.symm) hx)
theorem valK_kvn {l : List Str} {f : Str → D} (hx : x ∉ l) : valK (kvO l f) (.inr x) = none := by
  unfold valK kvO
  induction l with
  | nil => rfl
  | cons y r ih =>
    simp only [List.mem_cons, not_or] at hx
    rw [List.map_cons, List.find?_cons_of_neg (by simpa using fun z => hx.1 z.symm)]
    exact ih hx.2
theorem put_new {l : List Str} {f g : Str → D} {d : D} (hx : x ∉ l) (hf : ∀ y ∈ l, g y = f y) (hd : g x = d) : putKD (kvO l f) (.inr x) d = kvO (l ++ [x]) g := by
  unfold putKD
  have e : ((kvO l f).any fun kv => decide (kv.1 = .inr x)) = false := by
    unfold kvO
    rw [List.any_eq_false]
    intro kv hkv
    obtain ⟨y, hy, rfl⟩ := List.mem_map.mp hkv
    simp only [decide_eq_true_eq, Sum.inr.injEq]
    intro z
    exact hx (z ▸ hy)
  rw [e, if_neg Bool.false_ne_true]
  unfold kvO
  rw [List.map_append, List.map_cons, List.map_nil, hd]
  congr 1
  exact List.map_congr_left fun y hy => by rw [hf y hy]
theorem put_old {l : List Str} {f g : Str → D} {d : D} (hx : x ∈ l) (hf : ∀ y ∈ l, y ≠ x → g y = f y) (hd : g x = d) : putKD (kvO l f) (.inr x) d = kvO l g := by
  unfold putKD
  have e : ((kvO l f).any fun kv => decide (kv.1 = .inr x)) = true := by
    unfold kvO
    rw [List.any_eq_true]
    exact ⟨_, List.mem_map.mpr ⟨x, hx, rfl⟩, by simp⟩
  rw [e, if_pos rfl]
  unfold kvO
  rw [List.map_map]
  refine List.map_congr_left fun y hy => ?_
  simp only [Function.comp_apply, Sum.inr.injEq]
  by_cases q : y = x
  · subst q; rw [if_pos rfl, hd]
  · rw [if_neg q, hf y hy q]
theorem dk_get (b : Bool) {kvs : List (Key × D)} {l : Nat} {d : D} (e : h[l]? = some (dk b kvs)) (v : valK kvs (.inr x) = some d) : dgetM (.ref l) (.str x) h = .ok d h := by
  unfold dk at e
  cases b <;> simp only [Bool.false_eq_true, ↓reduceIte] at e <;> simp only [dgetM, e, kgM, keyD, v]
theorem get_T (C : Cr a s h) (hx : x ∈ s.ms) : dgetM (.ref (a .Td)) (.str x) h = .ok (.ref (a (.T x))) h := dk_get s.tk (C.at_ .Td trivial (by simp)) (valK_kv hx)
theorem get_R (C : Cr a s h) (hx : x ∈ s.ns) : dgetM (.ref (a .O)) (.str x) h = .ok (.ref (a (.R x))) h := dk_get s.ok (C.at_ .O (.inl (List.ne_nil_of_mem hx)) (by simp)) (valK_kv hx)
theorem get_SZ (C : Cr a s h) (hz : s.two = true) (hx : x ∈ s.zs) : dgetM (.ref (a .SZ)) (.str x) h = .ok (.ref (a (.SL x))) h := dk_get false (C.at_ .SZ hz (by simp)) (valK_kv hx)
theorem get_SV (C : Cr a s h) (hz : s.two = true) (hx : x ∈ s.vs) : dgetM (.ref (a .SV)) (.str x) h = .ok (.int (s.sv x)) h := dk_get false (C.at_ .SV hz (by simp)) (valK_kv hx)
theorem get_MN (C : Cr a s h) (hz : s.two = true) (hx : x ∈ s.vs) : dgetM (.ref (a .MN)) (.str x) h = .ok (.int (s.mn x)) h := dk_get false (C.at_ .MN hz (by simp)) (valK_kv hx)
theorem vw {w p : Int} {l : Nat} : valK (rowO w l p) (.inr "weight") = some (.int w) := rfl
theorem va {w p : Int} {l : Nat} : valK (rowO w l p) (.inr "waits") = some (.ref l) := rfl
theorem vp {w p : Int} {l : Nat} : valK (rowO w l p) (.inr "point") = some (.int p) := rfl
theorem get_Rw (C : Cr a s h) (hx : x ∈ s.ns) : dgetM (.ref (a (.R x))) (.str "weight") h = .ok (.int (s.w x)) h := dk_get false (C.at_ (.R x) hx (by simp)) vw
theorem get_Ra (C : Cr a s h) (hx : x ∈ s.ns) : dgetM (.ref (a (.R x))) (.str "waits") h = .ok (.ref (a (.L x))) h := dk_get false (C.at_ (.R x) hx (by simp)) va
theorem get_Rp (C : Cr a s h) (hx : x ∈ s.ns) : dgetM (.ref (a (.R x))) (.str "point") h = .ok (.int (s.rp x)) h := dk_get false (C.at_ (.R x) hx (by simp)) vp
theorem fS1 (C : Cr a s h) : fldM "tenants" cs_tenants (.ref (a .S)) h = .ok (.ref (a .Td)) h := by
  rw [fld_e, C.at_ .S trivial (by simp)]; rfl
theorem fS2 (C : Cr a s h) : fldM "point" cs_point (.ref (a .S)) h = .ok (.int s.pt) h := by
  rw [fld_e, C.at_ .S trivial (by simp)]; rfl
theorem fT1 (C : Cr a s h) (hx : x ∈ s.ms) : fldM "weight" cs_weight (.ref (a (.T x))) h = .ok (.int (s.w x)) h := by
  rw [fld_e, C.at_ (.T x) hx (by simp)]; rfl
theorem fT2 (C : Cr a s h) (hx : x ∈ s.ms) : fldM "waits" cs_waits (.ref (a (.T x))) h = .ok (.ref (a (.W x))) h := by
  rw [fld_e, C.at_ (.T x) hx (by simp)]; rfl
theorem fT3 (C : Cr a s h) (hx : x ∈ s.ms) : fldM "point" cs_point (.ref (a (.T x))) h = .ok (.int (s.q x)) h := by
  rw [fld_e, C.at_ (.T x) hx (by simp)]; rfl
end
end K23
end

section
set_option Elab.async false
set_option linter.all false
namespace DD
open PySem L2
end DD
end

section
set_option Elab.async false
set_option linter.all false
set_option maxRecDepth 100000
set_option maxHeartbeats 2000000
namespace DD
open PySem L2
section
variable {β : Type} {e me : EM} {mc : Option EM} {own : List Nat} {τ : SL} {L j q : Nat} {h h1 : AH} {φ : β → D} {xs : List β} {p : β → Bool} {g : β → D}
theorem lcT_loop (few : xs.length ≤ 100000)
    (step : ∀ x ∈ xs, ∀ h2, Fr none h1 h2 → ∃ h3, mcM mc ((wipeD τ own).set j (some (φ x))) h2 = .ok (.bl (p x)) h3 ∧ Fr none h2 h3 ∧ (p x = true → ∃ h4, me ((wipeD τ own).set j (some (φ x))) h3 = .ok (g x) h4 ∧ Fr none h3 h4)) :
    ∀ (rest done : List β) (h2 : AH), xs = done ++ rest → Fr none h1 h2 → h1.length < h2.length → h2[h1.length]? = some (.lst ((done.filter p).map g)) → ∃ h', lcLoop (fun _ => true) (nameG j) mc me own τ h1.length (rest.map φ) h2 = .ok (.ref h1.length) h' ∧ h'[h1.length]? = some (.lst ((xs.filter p).map g)) ∧ Fr none h1 h' := by
  intro rest
  induction rest with
  | nil =>
    intro done h2 hx f hl hL
    rw [List.append_nil] at hx
    subst hx
    exact ⟨h2, by rw [List.map_nil, lcL_nil rfl], hL, f⟩
  | cons x rest ih =>
    intro done h2 hx f hl hL
    obtain ⟨h3, a1, a2, a3⟩ := step x (by rw [hx]; simp) h2 f
    rw [List.map_cons, lcL_go rfl, a1, bind_ok]
    have hx' : xs = (done ++ [x]) ++ rest := by rw [hx]; simp
    cases hp : p x with
    | false =>
      simp only []
      refine ih (done ++ [x]) h3 hx' (f.trans a2) (Nat.lt_of_lt_of_le hl a2.1) ?_
      rw [a2.getN hL, List.filter_append, List.filter_cons_of_neg (by simp [hp]), List.filter_nil, List.append_nil]
    | true =>
      obtain ⟨h4, b1, b2⟩ := a3 hp
      have g4 := b2.getN (a2.getN hL)
      simp only []
      rw [b1, bind_ok, g4]
      simp only []
      have lf : ((done.filter p).map g).length < sizeLine := by
        have h5 : (done.filter p).length ≤ done.length := List.length_filter_le _ _
        have h6 : done.length ≤ xs.length := by rw [hx]; simp
        rw [List.length_map, sizeLine_eq]
        omega
      rw [if_pos lf]
      have l4 : h1.length < h4.length := Nat.lt_of_lt_of_le hl (Nat.le_trans a2.1 b2.1)
      refine ih (done ++ [x]) _ hx' (((f.trans a2).trans b2).setN (Nat.le_refl _)) (by simpa using l4) ?_
      rw [get_set l4, List.filter_append, List.filter_cons_of_pos (by simp [hp]), List.filter_nil, List.map_append]
      rfl
/-- [g(x) for x in keys if p(x)], nothing written -/
theorem lcT_list {items : D → AH → Option (List D × (AH → Bool))} {d : D} (he : e τ h = .ok d h1) (hi : items d h1 = some (xs.map φ, fun _ => true)) (few : xs.length ≤ 100000)
    (step : ∀ x ∈ xs, ∀ h2, Fr none h1 h2 → ∃ h3, mcM mc ((wipeD τ own).set j (some (φ x))) h2 = .ok (.bl (p x)) h3 ∧ Fr none h2 h3 ∧ (p x = true → ∃ h4, me ((wipeD τ own).set j (some (φ x))) h3 = .ok (g x) h4 ∧ Fr none h3 h4)) :
    ∃ h', lcQ e items (nameG j) mc me own τ h = .ok (.ref h1.length) h' ∧ h'[h1.length]? = some (.lst ((xs.filter p).map g)) ∧ Fr none h1 h' := by
  obtain ⟨h', a1, a2, a3⟩ := lcT_loop (τ := τ) (own := own) (me := me) (mc := mc) (j := j) few step xs [] (h1 ++ [.lst []]) rfl Fr.app (by simp) get_new
  exact ⟨h', by rw [lcQ_e, lcM_of he hi, a1, noexc_ok], a2, a3⟩
end
end DD
namespace K23
open PySem L2 DD
theorem fk_kv {l : Nat} {h : AH} {xs : List Str} {f : Str → D} (e : h[l]? = some (.fdct (kvO xs f))) : fkIt (.ref l) h = some (xs.map D.str, fun _ => true) := by
  simp only [fkIt, e, kvO, List.map_map]
  rfl
theorem pl_pr (l : List (Int × Int)) : plDs (l.map pr) = true := by
  induction l with
  | nil => rfl
  | cons p l ih => simp only [List.map_cons, plDs, ih, pr, plD, Bool.and_self]
theorem dep_pr (l : List (Int × Int)) : depDs (l.map pr) ≤ 1 := by
  induction l with
  | nil => simp [depDs]
  | cons p l ih =>
    simp only [List.map_cons, depDs, pr, depD]
    omega
theorem eqDs_nil (l : List (Int × Int)) : eqDs (l.map pr) [] = decide (l = []) := by
  cases l <;> simp [eqDs]
theorem eq_nil {i j : Nat} {l : List (Int × Int)} {h : AH} (e1 : h[i]? = some (.lst (l.map pr))) (e2 : h[j]? = some (.lst [])) : eqM (.ref i) (.ref j) h = .ok (.bl (decide (l = []))) h := by
  have p1 : (plDs (l.map pr) && plDs ([] : List D) && decide (min (depDs (l.map pr)) (depDs ([] : List D)) < 64)) = true := by
    rw [pl_pr]
    simp [plDs, depDs]
  simp only [eqM, eqB, e1, e2, p1, eqDs_nil]
  rfl
theorem ne_nil {i j : Nat} {l : List (Int × Int)} {h : AH} (e1 : h[i]? = some (.lst (l.map pr))) (e2 : h[j]? = some (.lst [])) : neM (.ref i) (.ref j) h = .ok (.bl (!decide (l = []))) h := by
  have p1 : (plDs (l.map pr) && plDs ([] : List D) && decide (min (depDs (l.map pr)) (depDs ([] : List D)) < 64)) = true := by
    rw [pl_pr]
    simp [plDs, depDs]
  simp only [neM, eqB, e1, e2, p1, eqDs_nil]
  rfl
theorem max_e {i j : Int} {h : AH} : maxF [.int i, .int j] h = .ok (.int (max i j)) h := by
  show EO.ok (.int (if j > i then j else i)) h = _
  congr 2
  split <;> omega
theorem one_le : (1 : Nat) ≤ sizeLine := by rw [sizeLine_eq]; decide
theorem len2 {p q : D} : [p, q].length ≤ sizeLine := by rw [sizeLine_eq]; show (2 : Nat) ≤ _; decide
theorem len3 {p q r : D} : [p, q, r].length ≤ sizeLine := by rw [sizeLine_eq]; show (3 : Nat) ≤ _; decide
theorem len4 {p q r t : D} : [p, q, r, t].length ≤ sizeLine := by rw [sizeLine_eq]; show (4 : Nat) ≤ _; decide
section
variable {a a' : Tg → Nat} {s s' : St} {h h' : AH} {t u : Tg} {x y : Str} {o : O} {i : Nat} {τ : SL} [Gh]
/-- an empty list is laid -/
theorem nil_l {τ : SL} {h : AH} : lstM nilM τ h = .ok (.ref h.length) (h ++ [.lst []]) := by
  rw [lstM_e, nilM_e, bindE_ok, if_pos (by simp)]
def putS (s : St) (x : Str) (sz b : Int) : St := { s with q := up s.q x (if s.ws x = [] then max (s.q x) s.pt else s.q x), ws := up s.ws x (s.ws x ++ [(sz, b)]) }
theorem put_run {sz b : Int} (C : Cr a s h) (hx : x ∈ s.ms) (h1 : 1 ≤ sz) (few : (s.ws x).length < 1000) :
    ∃ h', F_Shares_put [.ref (a .S), .str x, .int sz, .int b] h = .ok .non h' ∧ Cr a (putS s x sz b) h' := by
  unfold F_Shares_put m_Shares_put
  have e0 : startD N_Shares_put.length [D.ref (a .S), .str x, .int sz, .int b] = [some (.ref (a .S)), some (.str x), some (.int sz), some (.int b), none] := rfl
  rw [e0]
  have g1 : dninM (.str x) (.ref (a .Td)) h = .ok (.bl false) h := by
    have := C.at_ .Td trivial (by simp)
    have v : valK (kvO s.ms fun x => .ref (a (.T x))) (.inr x) = some (.ref (a (.T x))) := valK_kv hx
    simp only [Ob, dk] at this
    cases hk : s.tk <;> rw [hk] at this <;> simp only [Bool.false_eq_true, ↓reduceIte] at this <;> simp only [dninM, this, keyD, v] <;> rfl
  have d1 : decide (sz < 1) = false := decide_eq_false (by omega)
  have g2 := get_T C hx
  have C1 : Cr a s (h ++ [O.lst []]) := C.app
  have g3 := fT2 C hx
  have w1 := C1.at_ (.W x) hx (by simp)
  have e1 : eqM (.ref (a (.W x))) (.ref h.length) (h ++ [O.lst []]) = .ok (.bl (decide (s.ws x = []))) (h ++ [O.lst []]) := eq_nil w1 get_new
  -- the append
  have app : ∀ (s1 : St) (h1 : AH), Cr a s1 h1 → x ∈ s1.ms → s1.ws x = s.ws x → ∀ τ : SL, varM 4 τ h1 = .ok (.ref (a (.T x))) h1 → varM 2 τ h1 = .ok (.int sz) h1 → varM 3 τ h1 = .ok (.int b) h1 →
      ∃ hf, exprM (bmM (unM (varM 4) (fldM "waits" cs_waits)) (consM (tupM (consM (varM 2) (consM (varM 3) nilM))) nilM) appendF) τ h1 = .nx τ hf ∧ Cr a { s1 with ws := up s1.ws x (s1.ws x ++ [(sz, b)]) } hf := fun s1 h1 C1 hx1 hw τ v4 v2 v3 => by
    have w := C1.at_ (.W x) hx1 (by simp)
    have lf : ((s1.ws x).map pr).length < sizeLine := by rw [List.length_map, sizeLine_eq, hw]; omega
    have w : h1[a (.W x)]? = some (.lst ((s1.ws x).map pr)) := w
    refine ⟨h1.set (a (.W x)) (.lst ((s1.ws x ++ [(sz, b)]).map pr)), ?_, C1.wr (t := .W x) hx1 (by simp) (fun u v => by cases u <;> exact v) ?_ (fun u _ nu _ => ?_)⟩
    · rw [exprM_e, bmM_e, unM_e, v4, bind_ok, fT2 C1 hx1, bind_ok]
      simp only [w]
      rw [consM_e, tupM_e, consM_e, v2, bindL_ok, consM_e, v3, bindL_ok, nilM_e, lbind_ok, lbind_ok, bindE_ok, if_pos len2, bindL_ok, nilM_e, lbind_ok, bindE_ok, append_e, w]
      simp only []
      rw [if_pos lf, toS_ok, List.map_append]
      rfl
    · simp only [Ob, up_eq]
    · cases u <;> simp only [Ob] <;> try rfl
      rename_i y
      rw [up_ne (fun z => nu (by rw [z]))]
  by_cases hn : s.ws x = []
  · rw [decide_eq_true hn] at e1
    have C2 : Cr a { s with q := up s.q x (max (s.q x) s.pt) } ((h ++ [O.lst []]).set (a (.T x)) (.ins 1 (tenO (s.w x) (a (.W x)) (max (s.q x) s.pt)))) := by
      refine C1.wr (t := .T x) hx (by simp) (fun u v => by cases u <;> exact v) ?_ (fun u _ nu _ => ?_)
      · simp only [Ob, up_eq]
      · cases u <;> simp only [Ob] <;> try rfl
        rename_i y
        rw [up_ne (fun z => nu (by rw [z]))]
    have g5 := fT3 C1 hx
    have g6 := fS2 C1
    have st : fldSetM "point" cs_point (varM 4) (callM (consM (unM (varM 4) (fldM "point" cs_point)) (consM (unM (varM 0) (fldM "point" cs_point)) nilM)) maxF) [some (.ref (a .S)), some (.str x), some (.int sz), some (.int b), some (.ref (a (.T x)))] (h ++ [O.lst []])
        = .nx [some (.ref (a .S)), some (.str x), some (.int sz), some (.int b), some (.ref (a (.T x)))] ((h ++ [O.lst []]).set (a (.T x)) (.ins 1 (tenO (s.w x) (a (.W x)) (max (s.q x) s.pt)))) := by
      rw [fwA (c := 1) (k := a (.T x)) (fs := tenO (s.w x) (a (.W x)) (s.q x)) (x := .int (max (s.q x) s.pt)) (C1.at_ (.T x) hx (by simp)) (by decide) (show (3 : Nat) < 1000 by decide) ?_ varM_4]
      · rfl
      · rw [callM_e, consM_e, unM_e, varM_4, bind_ok, g5, bindL_ok, consM_e, unM_e, varM_0, bind_ok, g6, bindL_ok, nilM_e, lbind_ok, lbind_ok, bindE_ok, max_e]
    obtain ⟨hf, ap, crn⟩ := app _ _ C2 hx rfl [some (.ref (a .S)), some (.str x), some (.int sz), some (.int b), some (.ref (a (.T x)))] varM_4 varM_2 varM_3
    refine ⟨hf, by simp only [fS1 C, g1, d1, g2, g3, e1, st, ap, DD.bind_ok, DD.bind_exc, DD.toS_ok, DD.toS_exc, DD.bindL_ok, DD.bindL_exc, DD.lbind_ok, DD.lbind_exc, DD.bindE_ok, DD.bindE_exc, DD.sbind_nx, DD.sbind_rt, DD.sbind_exc, DD.sbind_bk, DD.sbind_ct, DD.ret_nx, DD.ret_rt, DD.ret_exc, DD.varM_0, DD.varM_1, DD.varM_2, DD.varM_3, DD.varM_4, DD.varM_5, DD.cM_e, DD.binM_e, DD.unM_e, DD.seqM_e, DD.setM_e, DD.retM_e, DD.raiseM_e, DD.passM_e, DD.brkM_e, DD.ifSM_e, DD.ifM_e, DD.andM_e, DD.orM_e, DD.notM_e, DD.nilM_e, DD.consM_e, DD.callM_e, DD.tupM_e, DD.lstM_e, DD.smM_e, DD.asgM_e, DD.subG_e, DD.nameG_e, DD.slM_e, DD.om_none, DD.om_some, DD.toldM_e, DD.add_ii, DD.add_tt, DD.sub_ii, DD.mul_ii, DD.lt_ii, DD.le_ii, DD.gt_ii, DD.ge_ii, DD.fdiv_ii, DD.mod_ii, DD.eq_ii, DD.ne_ii, DD.eq_ss, DD.ne_ss, DD.len_t, DD.len_s, DD.append_e, DD.extend_t, DD.extend_r, DD.tup_r, DD.it_t, DD.sl_t, DD.callF, List.length_append, List.length_cons, List.length_nil, List.append_nil, Nat.reduceAdd, List.set_cons_zero, List.set_cons_succ, ↓reduceIte, Bool.not_true, Bool.not_false, Nat.zero_le], ?_⟩
    unfold putS
    rw [if_pos hn]
    exact crn
  · rw [decide_eq_false hn] at e1
    obtain ⟨hf, ap, crn⟩ := app _ _ C1 hx rfl [some (.ref (a .S)), some (.str x), some (.int sz), some (.int b), some (.ref (a (.T x)))] varM_4 varM_2 varM_3
    refine ⟨hf, by simp only [fS1 C, g1, d1, g2, g3, e1, ap, DD.bind_ok, DD.bind_exc, DD.toS_ok, DD.toS_exc, DD.bindL_ok, DD.bindL_exc, DD.lbind_ok, DD.lbind_exc, DD.bindE_ok, DD.bindE_exc, DD.sbind_nx, DD.sbind_rt, DD.sbind_exc, DD.sbind_bk, DD.sbind_ct, DD.ret_nx, DD.ret_rt, DD.ret_exc, DD.varM_0, DD.varM_1, DD.varM_2, DD.varM_3, DD.varM_4, DD.varM_5, DD.cM_e, DD.binM_e, DD.unM_e, DD.seqM_e, DD.setM_e, DD.retM_e, DD.raiseM_e, DD.passM_e, DD.brkM_e, DD.ifSM_e, DD.ifM_e, DD.andM_e, DD.orM_e, DD.notM_e, DD.nilM_e, DD.consM_e, DD.callM_e, DD.tupM_e, DD.lstM_e, DD.smM_e, DD.asgM_e, DD.subG_e, DD.nameG_e, DD.slM_e, DD.om_none, DD.om_some, DD.toldM_e, DD.add_ii, DD.add_tt, DD.sub_ii, DD.mul_ii, DD.lt_ii, DD.le_ii, DD.gt_ii, DD.ge_ii, DD.fdiv_ii, DD.mod_ii, DD.eq_ii, DD.ne_ii, DD.eq_ss, DD.ne_ss, DD.len_t, DD.len_s, DD.append_e, DD.extend_t, DD.extend_r, DD.tup_r, DD.it_t, DD.sl_t, DD.callF, List.length_append, List.length_cons, List.length_nil, List.append_nil, Nat.reduceAdd, List.set_cons_zero, List.set_cons_succ, ↓reduceIte, Bool.not_true, Bool.not_false, Nat.zero_le], ?_⟩
    unfold putS
    rw [if_neg hn]
    have eq : up s.q x (s.q x) = s.q := by
      funext y
      unfold up
      split
      · rename_i e; rw [e]
      · rfl
    rw [eq]
    exact crn
end
end K23
end

section
set_option Elab.async false
set_option linter.all false
set_option maxRecDepth 100000
set_option maxHeartbeats 2000000
namespace K23
open PySem L2 DD
section
variable {a a' : Tg → Nat} {s s' : St} {h h' : AH} {t u : Tg} {x y : Str} {o : O} {i : Nat} {τ : SL} [Gh]
theorem tenant_run {w : Int} {h : AH} : makeF 1 2 [] F_Tenant_init [.int w] h = .ok (.ref h.length) (h ++ [O.ins 1 (tenO w (h.length + 1) 0), O.lst []]) := by
  have i1 : fldSetM "weight" cs_weight (varM 0) (varM 1) [some (.ref h.length), some (.int w)] (h ++ [O.ins 1 []]) = .nx [some (.ref h.length), some (.int w)] (h ++ [O.ins 1 [("weight", .int w)]]) := by
    rw [fwA (c := 1) (k := h.length) (fs := []) (x := .int w) get_new (by decide) (by decide) varM_1 varM_0, set_new]
    rfl
  have i2 : fldSetM "waits" cs_waits (varM 0) (lstM nilM) [some (.ref h.length), some (.int w)] (h ++ [O.ins 1 [("weight", .int w)]]) = .nx [some (.ref h.length), some (.int w)] (h ++ [O.ins 1 [("weight", .int w), ("waits", .ref (h.length + 1))], O.lst []]) := by
    have g : ((h ++ [O.ins 1 [("weight", .int w)]]) ++ [O.lst []])[h.length]? = some (O.ins 1 [("weight", .int w)]) := get_app get_new
    rw [fwA (c := 1) (k := h.length) (fs := [("weight", .int w)]) (x := .ref (h ++ [O.ins 1 [("weight", .int w)]]).length) g (by decide) (show (1 : Nat) < 1000 by decide) nil_l varM_0, List.append_assoc]
    show SO.nx _ (List.set (h ++ O.ins 1 [("weight", .int w)] :: [O.lst []]) h.length _) = _
    rw [set_new]
    simp only [List.length_append, List.length_cons, List.length_nil]
    rfl
  have i3 : fldSetM "point" cs_point (varM 0) (cM (.int 0)) [some (.ref h.length), some (.int w)] (h ++ [O.ins 1 [("weight", .int w), ("waits", .ref (h.length + 1))], O.lst []]) = .nx [some (.ref h.length), some (.int w)] (h ++ [O.ins 1 (tenO w (h.length + 1) 0), O.lst []]) := by
    rw [fwA (c := 1) (k := h.length) (fs := [("weight", .int w), ("waits", .ref (h.length + 1))]) (x := .int 0) get_new (by decide) (show (2 : Nat) < 1000 by decide) cM_e varM_0, set_new]
    rfl
  have e0 : startD N_Tenant_init.length [D.ref h.length, .int w] = [some (.ref h.length), some (.int w)] := rfl
  have rn0 : F_Tenant_init [.ref h.length, .int w] (h ++ [O.ins 1 []]) = .ok .non (h ++ [O.ins 1 (tenO w (h.length + 1) 0), O.lst []]) := by
    unfold F_Tenant_init m_Tenant_init
    rw [e0, seqM_e, i1, sbind_nx, seqM_e, i2, sbind_nx, i3, ret_nx]
  show ((F_Tenant_init ([.ref h.length, .int w] ++ []) (h ++ [O.ins 1 []])).bind _) = _
  rw [List.append_nil, rn0, bind_ok]
def addS (s : St) (x : Str) : St := { s with ms := s.ms ++ [x], q := up s.q x 0, ws := up s.ws x [] }
def addA (a : Tg → Nat) (x : Str) (n : Nat) : Tg → Nat := fun t => if t = .T x then n else if t = .W x then n + 1 else a t
theorem addA_T : addA a x i (.T x) = i := if_pos rfl
theorem addA_W : addA a x i (.W x) = i + 1 := by unfold addA; rw [if_neg (by simp), if_pos rfl]
theorem addA_ne {x : Str} {t : Tg} (h1 : t ≠ .T x) (h2 : t ≠ .W x) : addA a x i t = a t := by unfold addA; rw [if_neg h1, if_neg h2]
theorem Ob_add {n : Nat} (e1 : t ≠ .T x) (e2 : t ≠ .W x) (e3 : t ≠ .Td) (v : V s t) (hx : x ∉ s.ms) : Ob (addA a x n) (addS s x) t = Ob a s t := by
  cases t with
  | S => simp only [Ob, addS]; rw [addA_ne (by simp) (by simp)]
  | Td => exact absurd rfl e3
  | T y =>
    have q : y ≠ x := fun z => e1 (by rw [z])
    simp only [Ob, addS]
    rw [addA_ne (by simp) (by intro z; injection z with z; exact q z), up_ne q]
  | W y =>
    have q : y ≠ x := fun z => e2 (by rw [z])
    simp only [Ob, addS]
    rw [up_ne q]
  | O =>
    have e : (fun y => D.ref (addA a x n (.R y))) = fun y => .ref (a (.R y)) := funext fun y => by rw [addA_ne (by simp) (by simp)]
    simp only [Ob, addS, e]
  | R y => simp only [Ob, addS]; rw [addA_ne (by simp) (by simp)]
  | L y => rfl
  | D => rfl
  | SZ =>
    have e : (fun y => D.ref (addA a x n (.SL y))) = fun y => .ref (a (.SL y)) := funext fun y => by rw [addA_ne (by simp) (by simp)]
    simp only [Ob, addS, e]
  | SL y => rfl
  | SV => rfl
  | MN => rfl
  | X => simp only [Ob]; rw [addA_ne (by simp) (by simp)]
theorem add_run (C : Cr a s h) (hx : x ∉ s.ms) (hk : s.tk = false) (hw : 1 ≤ s.w x ∧ s.w x ≤ 10) (few : s.ms.length < 1000) :
    ∃ h', F_Shares_add [.ref (a .S), .str x, .int (s.w x)] h = .ok .non h' ∧ Cr (addA a x h.length) (addS s x) h' ∧ h.length ≤ h'.length := by
  have e0 : startD N_Shares_add.length [D.ref (a .S), .str x, .int (s.w x)] = [some (.ref (a .S)), some (.str x), some (.int (s.w x))] := rfl
  have td := C.at_ .Td trivial (by simp)
  simp only [Ob, dk, hk, Bool.false_eq_true, ↓reduceIte] at td
  have g1 : dinM (.str x) (.ref (a .Td)) h = .ok (.bl false) h := by
    simp only [dinM, td, keyD, valK_kvn hx]
    rfl
  have d1 : decide ((1 : Int) ≤ s.w x) = true := decide_eq_true hw.1
  have d2 : decide (s.w x ≤ 10) = true := decide_eq_true hw.2
  have C1 : Cr a s (h ++ [O.ins 1 (tenO (s.w x) (h.length + 1) 0), O.lst []]) := C.app
  have td1 : (h ++ [O.ins 1 (tenO (s.w x) (h.length + 1) 0), O.lst []])[a .Td]? = some (.dct (kvO s.ms fun x => .ref (a (.T x)))) := get_app td
  have lf : (kvO s.ms fun x => D.ref (a (.T x))).length < sizeLine := by unfold kvO; rw [List.length_map, sizeLine_eq]; omega
  have st : setDF (.ref (a .Td)) (.str x) (.ref h.length) (h ++ [O.ins 1 (tenO (s.w x) (h.length + 1) 0), O.lst []]) = some ((h ++ [O.ins 1 (tenO (s.w x) (h.length + 1) 0), O.lst []]).set (a .Td) (.dct (kvO (s.ms ++ [x]) fun y => .ref (addA a x h.length (.T y))))) := by
    simp only [setDF, td1, keyD, lf, ↓reduceIte]
    rw [put_new (g := fun y => .ref (addA a x h.length (.T y))) hx (fun y hy => by rw [addA_ne (by intro z; injection z with z; exact hx (z ▸ hy)) (by simp)]) (by rw [addA_T])]
  have lt : a .Td < h.length := C.lt (show V s .Td from trivial)
  refine ⟨(h ++ [O.ins 1 (tenO (s.w x) (h.length + 1) 0), O.lst []]).set (a .Td) (.dct (kvO (s.ms ++ [x]) fun y => .ref (addA a x h.length (.T y)))), ?_, ?_, by simp⟩
  · unfold F_Shares_add m_Shares_add
    rw [e0]
    simp only [fS1 C, g1, chainM_e, d1, d2, tenant_run, fS1 C1, st, DD.bind_ok, DD.bind_exc, DD.toS_ok, DD.toS_exc, DD.bindL_ok, DD.bindL_exc, DD.lbind_ok, DD.lbind_exc, DD.bindE_ok, DD.bindE_exc, DD.sbind_nx, DD.sbind_rt, DD.sbind_exc, DD.sbind_bk, DD.sbind_ct, DD.ret_nx, DD.ret_rt, DD.ret_exc, DD.varM_0, DD.varM_1, DD.varM_2, DD.varM_3, DD.varM_4, DD.varM_5, DD.cM_e, DD.binM_e, DD.unM_e, DD.seqM_e, DD.setM_e, DD.retM_e, DD.raiseM_e, DD.passM_e, DD.brkM_e, DD.ifSM_e, DD.ifM_e, DD.andM_e, DD.orM_e, DD.notM_e, DD.nilM_e, DD.consM_e, DD.callM_e, DD.tupM_e, DD.lstM_e, DD.smM_e, DD.asgM_e, DD.subG_e, DD.nameG_e, DD.slM_e, DD.om_none, DD.om_some, DD.toldM_e, DD.add_ii, DD.add_tt, DD.sub_ii, DD.mul_ii, DD.lt_ii, DD.le_ii, DD.gt_ii, DD.ge_ii, DD.fdiv_ii, DD.mod_ii, DD.eq_ii, DD.ne_ii, DD.eq_ss, DD.ne_ss, DD.len_t, DD.len_s, DD.append_e, DD.extend_t, DD.extend_r, DD.tup_r, DD.it_t, DD.sl_t, DD.callF, List.length_append, List.length_cons, List.length_nil, List.append_nil, Nat.reduceAdd, List.set_cons_zero, List.set_cons_succ, ↓reduceIte, Bool.not_true, Bool.not_false, Nat.zero_le]
  · have old : ∀ t, V s t → addA a x h.length t = a t := fun t v => addA_ne (fun z => by subst z; exact hx v) (fun z => by subst z; exact hx v)
    refine C.grow old (fun t v => ?_) (fun t u vt vu lt lu e => ?_) (fun t v n => ?_) ?_
    · by_cases e1 : t = .T x
      · subst e1; right; rw [addA_T]; exact Nat.le_refl _
      · by_cases e2 : t = .W x
        · subst e2; right; rw [addA_W]; omega
        · left
          cases t <;> simp only [V, addS, List.mem_append, List.mem_singleton] at v ⊢ <;> try exact v
          · rcases v with v | v
            · exact v
            · exact absurd (by rw [v]) e1
          · rcases v with v | v
            · exact v
            · exact absurd (by rw [v]) e2
    · have cls : ∀ t, V (addS s x) t → h.length ≤ addA a x h.length t → t = .T x ∨ t = .W x := fun t v l => by
        by_cases e1 : t = .T x
        · exact .inl e1
        · by_cases e2 : t = .W x
          · exact .inr e2
          · exfalso
            have vs : V s t := by
              cases t <;> simp only [V, addS, List.mem_append, List.mem_singleton] at v ⊢ <;> try exact v
              · rcases v with v | v
                · exact v
                · exact absurd (by rw [v]) e1
              · rcases v with v | v
                · exact v
                · exact absurd (by rw [v]) e2
            rw [old t vs] at l
            have := C.lt vs
            omega
      rcases cls t vt lt with rfl | rfl <;> rcases cls u vu lu with rfl | rfl
      · rfl
      · rw [addA_T, addA_W] at e; omega
      · rw [addA_T, addA_W] at e; omega
      · rfl
    · by_cases e1 : t = .T x
      · subst e1
        rw [addA_T, get_set_ne (by omega), get_new]
        simp only [Ob, addS, addA_W, up_eq]
      · by_cases e2 : t = .W x
        · subst e2
          rw [addA_W, get_set_ne (by omega), List.getElem?_append_right (by omega)]
          simp [Ob, addS, up_eq]
        · by_cases e3 : t = .Td
          · subst e3
            rw [addA_ne (by simp) (by simp), get_set (by simp; omega)]
            simp only [Ob, addS, dk, hk, Bool.false_eq_true, ↓reduceIte]
          · have vs : V s t := by
              cases t <;> simp only [V, addS, List.mem_append, List.mem_singleton] at v ⊢ <;> try exact v
              · rcases v with v | v
                · exact v
                · exact absurd (by rw [v]) e1
              · rcases v with v | v
                · exact v
                · exact absurd (by rw [v]) e2
            have ne : a .Td ≠ a t := fun z => e3 (C.inj _ _ (show V s .Td from trivial) vs z).symm
            rw [old t vs, get_set_ne ne, get_app (C.at_ t vs n)]
            exact congrArg some (Ob_add e1 e2 e3 vs hx).symm
    · rw [addA_ne (by simp) (by simp)]
      obtain ⟨p, q, r, e⟩ := C.dice
      exact ⟨p, q, r, by rw [get_set_ne (fun z => absurd (C.inj _ _ (show V s .Td from trivial) (show V s .D from trivial) z) (by simp))]; exact get_app e⟩
end
end K23
end

section
set_option Elab.async false
set_option linter.all false
set_option maxRecDepth 100000
set_option maxHeartbeats 2000000
namespace K23
open PySem L2 DD
theorem arg_le (bt : Nat → Nat → Bool) : ∀ k, argBest bt k ≤ k
  | 0 => Nat.le_refl _
  | k + 1 => by
    have := arg_le bt k
    simp only [argBest]
    split
    · exact Nat.le_refl _
    · omega
theorem seq0 {β : Type} {x : β} (l : List β) : seqIndex? 0 (x :: l).length = some 0 := by
  simp [seqIndex?]
def best : List (Int × Str) → Nat
  | [] => 0
  | k :: ks => argBest (fun i j => isLt ((k :: ks).getD i k) ((k :: ks).getD j k)) ks.length
theorem best_lt {l : List (Int × Str)} (h : l ≠ []) : best l < l.length := by
  cases l with
  | nil => exact absurd rfl h
  | cons k ks =>
    have := arg_le (fun i j => isLt ((k :: ks).getD i k) ((k :: ks).getD j k)) ks.length
    show argBest _ _ < ks.length + 1
    omega
def ready (ms : List Str) (ws : Str → List (Int × Int)) : List Str := ms.filter fun x => !decide (ws x = [])
def keysR (l : List Str) (q : Str → Int) : List (Int × Str) := l.map fun x => (q x, x)
def pick (ms : List Str) (ws : Str → List (Int × Int)) (q : Str → Int) : Str := (ready ms ws).getD (best (keysR (ready ms ws) q)) ""
theorem pick_at {ms : List Str} {ws : Str → List (Int × Int)} {q : Str → Int} (h : ready ms ws ≠ []) : (ready ms ws)[best (keysR (ready ms ws) q)]? = some (pick ms ws q) := by
  have l : best (keysR (ready ms ws) q) < (ready ms ws).length := by
    have := best_lt (l := keysR (ready ms ws) q) (by unfold keysR; simpa using h)
    simpa [keysR] using this
  unfold pick
  rw [List.getElem?_eq_getElem l, List.getD_eq_getElem?_getD, List.getElem?_eq_getElem l]
  rfl
theorem pick_mem {ms : List Str} {ws : Str → List (Int × Int)} {q : Str → Int} (h : ready ms ws ≠ []) : pick ms ws q ∈ ms ∧ ws (pick ms ws q) ≠ [] := by
  have m := List.mem_of_getElem? (pick_at (q := q) h)
  unfold ready at m
  rw [List.mem_filter] at m
  exact ⟨m.1, by simpa using m.2⟩
theorem allK_map {f : Str → Option (Int × Str)} {k : Str → Int × Str} : ∀ {l : List Str}, (∀ x ∈ l, f x = some (k x)) → allK f l = some (l.map k)
  | [], _ => rfl
  | x :: l, h => by
    simp only [allK, h x (by simp), allK_map (l := l) (fun y hy => h y (by simp [hy])), List.map_cons]
theorem pl_str (l : List Str) : plDs (l.map D.str) = true := by
  induction l with
  | nil => rfl
  | cons p l ih => simp only [List.map_cons, plDs, ih, plD, Bool.and_self]
theorem eqDs_nilS (l : List Str) : eqDs (l.map D.str) [] = decide (l = []) := by
  cases l <;> simp [eqDs]
theorem eq_nilS {i j : Nat} {l : List Str} {h : AH} (e1 : h[i]? = some (.lst (l.map D.str))) (e2 : h[j]? = some (.lst [])) : eqM (.ref i) (.ref j) h = .ok (.bl (decide (l = []))) h := by
  have p1 : (plDs (l.map D.str) && plDs ([] : List D) && decide (min (depDs (l.map D.str)) (depDs ([] : List D)) < 64)) = true := by
    rw [pl_str]
    simp [plDs, depDs]
  simp only [eqM, eqB, e1, e2, p1, eqDs_nilS]
  rfl
section
variable {a a' : Tg → Nat} {s s' : St} {h h' h2 : AH} {t u : Tg} {x y : Str} {o : O} {i : Nat} {τ τ' : SL} {pk : SL → AH → Option Nat} {m : SM} [Gh]
abbrev kvT (a : Tg → Nat) (s : St) : List (Key × D) := kvO s.ms fun x => .ref (a (.T x))
abbrev kvR (a : Tg → Nat) (s : St) : List (Key × D) := kvO s.ns fun x => .ref (a (.R x))
theorem lock_in (C : Cr a s h) : Cr a { s with tk := true } (h.set (a .Td) (.fdct (kvT a s))) := by
  refine C.wr (t := .Td) trivial (by simp) (fun u v => by cases u <;> exact v) rfl (fun u _ nu _ => ?_)
  cases u <;> first | rfl | exact absurd rfl nu
theorem lock_out (C : Cr a { s with tk := true } h) (hk : s.tk = false) : Cr a s (h.set (a .Td) (.dct (kvT a s))) := by
  refine C.wr (t := .Td) trivial (by simp) (fun u v => by cases u <;> exact v) (by simp only [Ob, dk, hk, Bool.false_eq_true, ↓reduceIte]) (fun u _ nu _ => ?_)
  cases u <;> first | rfl | exact absurd rfl nu
theorem lock_td (C : Cr a s h) (hk : s.tk = false) (hp : pk τ h = some (a .Td)) (e : m τ (h.set (a .Td) (.fdct (kvT a s))) = .nx τ' h2) (f : Fr none (h.set (a .Td) (.fdct (kvT a s))) h2) :
    lockS pk m τ h = .nx τ' (h2.set (a .Td) (.dct (kvT a s))) ∧ Cr a s (h2.set (a .Td) (.dct (kvT a s))) := by
  have td := C.at_ .Td trivial (by simp)
  simp only [Ob, dk, hk, Bool.false_eq_true, ↓reduceIte] at td
  have C2 : Cr a { s with tk := true } h2 := (lock_in C).fr f
  have td2 : h2[a .Td]? = some (.fdct (kvT a s)) := C2.at_ .Td trivial (by simp)
  refine ⟨?_, lock_out C2 hk⟩
  simp only [lockS, hp, td, e, unlS, td2]
def nextS (s : St) (x : Str) (sz : Int) (rest : List (Int × Int)) : St := { s with pt := s.q x, q := up s.q x (s.q x + sz * 5040 / s.w x), ws := up s.ws x rest }
/-- the names of those for whom work waits -/
theorem names_run (C : Cr a s h) (hk : s.tk = false) (few : s.ms.length ≤ 1000) : ∃ L h', lockS (refOf (unM (varM 0) (fldM "tenants" cs_tenants))) (setM 1 (lcQ (unM (varM 0) (fldM "tenants" cs_tenants)) fkIt (nameG 2) (some (binM (unM (binM (unM (varM 0) (fldM "tenants" cs_tenants)) (varM 2) dgetM) (fldM "waits" cs_waits)) (lstM nilM) neM)) (varM 2) [2])) [some (.ref (a .S)), none, none, none, none, none] h
      = .nx [some (.ref (a .S)), some (.ref L), none, none, none, none] h' ∧ Cr a s h' ∧ h'[L]? = some (.lst ((ready s.ms s.ws).map D.str)) ∧ Fr (some (a .Td)) h h' := by
  have C1 := lock_in C
  have he : unM (varM 0) (fldM "tenants" cs_tenants) [some (.ref (a .S)), none, none, none, none, none] (h.set (a .Td) (.fdct (kvT a s))) = .ok (.ref (a .Td)) (h.set (a .Td) (.fdct (kvT a s))) := by
    rw [unM_e, varM_0, bind_ok, fS1 C1]
  obtain ⟨h2, b1, b2, b3⟩ := lcT_list (j := 2) (own := [2]) (p := fun x => !decide (s.ws x = [])) (g := D.str) (mc := some (binM (unM (binM (unM (varM 0) (fldM "tenants" cs_tenants)) (varM 2) dgetM) (fldM "waits" cs_waits)) (lstM nilM) neM)) (me := varM 2) he (fk_kv (C1.at_ .Td trivial (by simp))) (Nat.le_trans few (by decide)) (fun x hx h2 f => by
    have C2 := C1.fr f
    have w2 : (h2 ++ [O.lst []])[a (.W x)]? = some (.lst ((s.ws x).map pr)) := get_app (C2.at_ (.W x) hx (by simp))
    have g1 : dgetM (.ref (a .Td)) (.str x) h2 = .ok (.ref (a (.T x))) h2 := get_T C2 hx
    have g2 : fldM "waits" cs_waits (.ref (a (.T x))) h2 = .ok (.ref (a (.W x))) h2 := fT2 C2 hx
    refine ⟨h2 ++ [.lst []], ?_, Fr.app, fun _ => ⟨_, ?_, Fr.refl⟩⟩
    · show (binM _ _ _) [some (.ref (a .S)), none, some (.str x), none, none, none] h2 = _
      rw [binM_e, unM_e, binM_e, unM_e, varM_0, bind_ok, fS1 C2, bind_ok, varM_2, bind_ok, g1, bind_ok, g2, bind_ok, nil_l, bind_ok, ne_nil w2 get_new]
    · show varM 2 [some (.ref (a .S)), none, some (.str x), none, none, none] _ = _
      rw [varM_2])
  have hp : refOf (unM (varM 0) (fldM "tenants" cs_tenants)) [some (.ref (a .S)), none, none, none, none, none] h = some (a .Td) := by
    have z : unM (varM 0) (fldM "tenants" cs_tenants) [some (.ref (a .S)), none, none, none, none, none] h = .ok (.ref (a .Td)) h := by rw [unM_e, varM_0, bind_ok, fS1 C]
    simp only [refOf, z]
  have e : setM 1 (lcQ (unM (varM 0) (fldM "tenants" cs_tenants)) fkIt (nameG 2) (some (binM (unM (binM (unM (varM 0) (fldM "tenants" cs_tenants)) (varM 2) dgetM) (fldM "waits" cs_waits)) (lstM nilM) neM)) (varM 2) [2]) [some (.ref (a .S)), none, none, none, none, none] (h.set (a .Td) (.fdct (kvT a s))) = .nx [some (.ref (a .S)), some (.ref (h.set (a .Td) (.fdct (kvT a s))).length), none, none, none, none] h2 := by
    rw [setM_e, b1, toS_ok]
    rfl
  obtain ⟨c1, c2⟩ := lock_td C hk hp e b3
  have lt : a .Td < h.length := C.lt (show V s .Td from trivial)
  refine ⟨_, _, c1, c2, ?_, ((Fr.set (k := a .Td)).trans b3.wk).setU⟩
  rw [get_set_ne (by rw [List.length_set]; omega)]
  exact b2
theorem next_none (C : Cr a s h) (hk : s.tk = false) (few : s.ms.length ≤ 1000) (hr : ready s.ms s.ws = []) : ∃ h', F_Shares_next_work [.ref (a .S)] h = .ok .non h' ∧ Cr a s h' ∧ Fr (some (a .Td)) h h' := by
  obtain ⟨L, h1, b1, C1, b2, fr⟩ := names_run C hk few
  have e0 : startD N_Shares_next_work.length [D.ref (a .S)] = [some (.ref (a .S)), none, none, none, none, none] := rfl
  refine ⟨h1 ++ [.lst []], ?_, C1.app, fr.trans Fr.app⟩
  unfold F_Shares_next_work m_Shares_next_work
  rw [hr] at b2
  have q : eqM (.ref L) (.ref h1.length) (h1 ++ [O.lst []]) = .ok (.bl true) (h1 ++ [O.lst []]) := by
    rw [eq_nilS (l := []) (get_app b2) get_new]; rfl
  rw [e0, seqM_e, b1, sbind_nx, seqM_e, ifSM_e, binM_e, varM_1, bind_ok, nil_l, bind_ok, q, toS_ok]
  simp only []
  rw [retM_e, cM_e, toS_ok, sbind_rt, ret_rt]
theorem minK_run (C : Cr a s h) {L : Nat} (e : h[L]? = some (.lst ((ready s.ms s.ws).map D.str))) (hr : ready s.ms s.ws ≠ []) {τ : SL} (h0 : τ[0]? = some (some (.ref (a .S)))) (h1 : varM 1 τ h = .ok (.ref L) h) :
    minKM (varM 1) [0] (tupM (consM (unM (binM (unM (varM 1) (fldM "tenants" cs_tenants)) (varM 0) dgetM) (fldM "point" cs_point)) (consM (varM 0) nilM))) τ h = .ok (.str (pick s.ms s.ws s.q)) h := by
  have sl : ∀ x, lamSl x [0] τ = [some (.str x), some (.ref (a .S))] := fun x => by
    unfold lamSl
    simp only [List.map_cons, List.map_nil, h0]
    rfl
  have keys : allK (fun x => keyIS h ((tupM (consM (unM (binM (unM (varM 1) (fldM "tenants" cs_tenants)) (varM 0) dgetM) (fldM "point" cs_point)) (consM (varM 0) nilM))) (lamSl x [0] τ) h)) (ready s.ms s.ws) = some (keysR (ready s.ms s.ws) s.q) := by
    refine allK_map fun x hx => ?_
    have hx' : x ∈ s.ms := (List.mem_filter.mp hx).1
    rw [sl, tupM_e, consM_e, unM_e, binM_e, unM_e, varM_1, bind_ok, fS1 C, bind_ok, varM_0, bind_ok, get_T C hx', bind_ok, fT3 C hx', bindL_ok, consM_e, varM_0, bindL_ok, nilM_e, lbind_ok, lbind_ok, bindE_ok, if_pos len2]
    exact keyIS_ok
  show ((varM 1 τ h).bind _) = _
  rw [h1, bind_ok]
  simp only [minTail, e, strsE_map, keys]
  cases hk : keysR (ready s.ms s.ws) s.q with
  | nil =>
    exfalso
    apply hr
    unfold keysR at hk
    simpa using hk
  | cons k ks =>
    simp only []
    unfold pick
    rw [hk]
    rfl
theorem next_some (C : Cr a s h) (hk : s.tk = false) (few : s.ms.length ≤ 1000) (hr : ready s.ms s.ws ≠ []) (hw : ∀ x ∈ s.ms, 1 ≤ s.w x ∧ s.w x ≤ 10) {sz b : Int} {rest : List (Int × Int)} (hq : s.ws (pick s.ms s.ws s.q) = (sz, b) :: rest) :
    ∃ h', F_Shares_next_work [.ref (a .S)] h = .ok (.tup [.str (pick s.ms s.ws s.q), .int sz, .int b]) h' ∧ Cr a (nextS s (pick s.ms s.ws s.q) sz rest) h' ∧ Fs [a .Td, a (.W (pick s.ms s.ws s.q)), a .S, a (.T (pick s.ms s.ws s.q))] h h' := by
  obtain ⟨L, h1, b1, C1, b2, fr⟩ := names_run C hk few
  have e0 : startD N_Shares_next_work.length [D.ref (a .S)] = [some (.ref (a .S)), none, none, none, none, none] := rfl
  have mk := minK_run (C1.app (gb := [O.lst []])) (get_app b2) hr (τ := [some (.ref (a .S)), some (.ref L), none, none, none, none]) rfl varM_1
  obtain ⟨hx, hne⟩ := pick_mem (q := s.q) hr
  generalize pick s.ms s.ws s.q = x at *
  have q : eqM (.ref L) (.ref h1.length) (h1 ++ [O.lst []]) = .ok (.bl false) (h1 ++ [O.lst []]) := by
    rw [eq_nilS (get_app b2) get_new, decide_eq_false hr]
  have C2 : Cr a s (h1 ++ [O.lst []]) := C1.app
  -- the work is taken off
  have w2 : (h1 ++ [O.lst []])[a (.W x)]? = some (.lst ((s.ws x).map pr)) := C2.at_ (.W x) hx (by simp)
  rw [hq] at w2
  have C3 : Cr a { s with ws := up s.ws x rest } ((h1 ++ [O.lst []]).set (a (.W x)) (.lst (rest.map pr))) := by
    refine C2.wr (t := .W x) hx (by simp) (fun u v => by cases u <;> exact v) ?_ (fun u _ nu _ => ?_)
    · simp only [Ob, up_eq]
    · cases u <;> simp only [Ob] <;> try rfl
      rename_i y
      rw [up_ne (fun z => nu (by rw [z]))]
  have pop : bmM (unM (varM 3) (fldM "waits" cs_waits)) (consM (cM (.int 0)) nilM) popAtF [some (.ref (a .S)), some (.ref L), some (.str x), some (.ref (a (.T x))), none, none] (h1 ++ [O.lst []]) = .ok (pr (sz, b)) ((h1 ++ [O.lst []]).set (a (.W x)) (.lst (rest.map pr))) := by
    have f2 := fT2 C2 hx
    rw [bmM_e, unM_e, varM_3, bind_ok, f2, bind_ok]
    simp only [w2]
    rw [consM_e, cM_e, bindL_ok, nilM_e, lbind_ok, bindE_ok]
    simp only [popAtF, w2, List.map_cons]
    rw [if_pos (by decide), show seqIndex? 0 (pr (sz, b) :: rest.map pr).length = some 0 from seq0 _]
    rfl
  have C4 : Cr a { s with ws := up s.ws x rest, pt := s.q x } (((h1 ++ [O.lst []]).set (a (.W x)) (.lst (rest.map pr))).set (a .S) (.ins 2 [("tenants", .ref (a .Td)), ("point", .int (s.q x))])) := by
    refine C3.wr (t := .S) trivial (by simp) (fun u v => by cases u <;> exact v) rfl (fun u _ nu _ => ?_)
    cases u <;> first | rfl | exact absurd rfl nu
  have C5 : Cr a (nextS s x sz rest) ((((h1 ++ [O.lst []]).set (a (.W x)) (.lst (rest.map pr))).set (a .S) (.ins 2 [("tenants", .ref (a .Td)), ("point", .int (s.q x))])).set (a (.T x)) (.ins 1 (tenO (s.w x) (a (.W x)) (s.q x + sz * 5040 / s.w x)))) := by
    refine C4.wr (t := .T x) hx (by simp) (fun u v => by cases u <;> exact v) ?_ (fun u _ nu _ => ?_)
    · simp only [Ob, nextS, up_eq]
    · cases u <;> simp only [Ob, nextS] <;> try rfl
      rename_i y
      rw [up_ne (fun z => nu (by rw [z]))]
  have F5 : Fs [a .Td, a (.W x), a .S, a (.T x)] h ((((h1 ++ [O.lst []]).set (a (.W x)) (.lst (rest.map pr))).set (a .S) (.ins 2 [("tenants", .ref (a .Td)), ("point", .int (s.q x))])).set (a (.T x)) (.ins 1 (tenO (s.w x) (a (.W x)) (s.q x + sz * 5040 / s.w x)))) :=
    ((((Fs.of1 fr (by simp)).trans Fs.app).trans (Fs.set (by simp))).trans (Fs.set (by simp))).trans (Fs.set (by simp))
  generalize hH3 : (h1 ++ [O.lst []]).set (a (.W x)) (.lst (rest.map pr)) = h3 at *
  have st1 : fldSetM "point" cs_point (varM 0) (unM (varM 3) (fldM "point" cs_point)) [some (.ref (a .S)), some (.ref L), some (.str x), some (.ref (a (.T x))), some (.int sz), some (.int b)] h3 = .nx [some (.ref (a .S)), some (.ref L), some (.str x), some (.ref (a (.T x))), some (.int sz), some (.int b)] (h3.set (a .S) (.ins 2 [("tenants", .ref (a .Td)), ("point", .int (s.q x))])) := by
    rw [fwA (c := 2) (k := a .S) (fs := [("tenants", .ref (a .Td)), ("point", .int s.pt)]) (x := .int (s.q x)) (C3.at_ .S trivial (by simp)) (by decide) (show (2 : Nat) < 1000 by decide) ?_ varM_0]
    · rfl
    · rw [unM_e, varM_3, bind_ok]
      have f3 := fT3 C3 hx
      exact f3
  generalize hH4 : h3.set (a .S) (.ins 2 [("tenants", .ref (a .Td)), ("point", .int (s.q x))]) = h4 at *
  have cm : CMb' sz 5040 = true := cmb_r (by decide)
  have cd : CDb (sz * 5040) (s.w x) = true := by
    have := hw x hx
    unfold CDb
    simp only [Bool.and_eq_true, decide_eq_true_eq]
    omega
  have st2 : fldSetM "point" cs_point (varM 3) (binM (unM (varM 3) (fldM "point" cs_point)) (binM (binM (varM 4) (cM (.int 5040)) mulM) (unM (varM 3) (fldM "weight" cs_weight)) fdivM) addM) [some (.ref (a .S)), some (.ref L), some (.str x), some (.ref (a (.T x))), some (.int sz), some (.int b)] h4 = .nx [some (.ref (a .S)), some (.ref L), some (.str x), some (.ref (a (.T x))), some (.int sz), some (.int b)] (h4.set (a (.T x)) (.ins 1 (tenO (s.w x) (a (.W x)) (s.q x + sz * 5040 / s.w x)))) := by
    have f3 : fldM "point" cs_point (.ref (a (.T x))) h4 = .ok (.int (s.q x)) h4 := by
      have f3 := fT3 C4 hx
      exact f3
    have f1 : fldM "weight" cs_weight (.ref (a (.T x))) h4 = .ok (.int (s.w x)) h4 := by
      have f1 := fT1 C4 hx
      exact f1
    rw [fwA (c := 1) (k := a (.T x)) (fs := tenO (s.w x) (a (.W x)) (s.q x)) (x := .int (s.q x + sz * 5040 / s.w x)) (C4.at_ (.T x) hx (by simp)) (by decide) (show (3 : Nat) < 1000 by decide) ?_ varM_3]
    · rfl
    · rw [binM_e, unM_e, varM_3, bind_ok, f3, bind_ok, binM_e, binM_e, varM_4, bind_ok, cM_e, bind_ok, mul_ii, if_pos cm, bind_ok, unM_e, varM_3, bind_ok, f1, bind_ok, fdiv_ii, if_pos cd, bind_ok, add_ii]
  refine ⟨_, ?_, C5, F5⟩
  unfold F_Shares_next_work m_Shares_next_work
  rw [e0, seqM_e, b1, sbind_nx, seqM_e, ifSM_e, binM_e, varM_1, bind_ok, nil_l, bind_ok, q, toS_ok]
  simp only []
  rw [passM_e, sbind_nx, seqM_e, setM_e, mk, toS_ok, sbind_nx]
  simp only [List.set_cons_zero, List.set_cons_succ]
  rw [seqM_e, setM_e, binM_e, unM_e, varM_0, bind_ok, fS1 C2, bind_ok, varM_2, bind_ok, get_T C2 hx, toS_ok, sbind_nx]
  simp only [List.set_cons_zero, List.set_cons_succ]
  rw [seqM_e, asgM_e, pop, toS_ok]
  show retOf (SO.bind (.nx [some (.ref (a .S)), some (.ref L), some (.str x), some (.ref (a (.T x))), some (.int sz), some (.int b)] h3) _) = _
  rw [sbind_nx, seqM_e, st1, sbind_nx, seqM_e, st2, sbind_nx, retM_e, tupM_e, consM_e, varM_2, bindL_ok, consM_e, varM_4, bindL_ok, consM_e, varM_5, bindL_ok, nilM_e, lbind_ok, lbind_ok, lbind_ok, bindE_ok, if_pos len3, toS_ok, ret_rt]
end
end K23
end

section
set_option Elab.async false
set_option linter.all false
set_option maxRecDepth 100000
set_option maxHeartbeats 2000000
namespace K23
open PySem L2 DD
def upA (a : Tg → Nat) (t : Tg) (n : Nat) : Tg → Nat := fun u => if u = t then n else a u
section
variable {a a' : Tg → Nat} {s s' : St} {h h' : AH} {t u : Tg} {x y : Str} {o : O} {i n m : Nat} {τ : SL} [Gh]
theorem upA_eq : upA a t n t = n := if_pos rfl
theorem upA_ne (e : u ≠ t) : upA a t n u = a u := if_neg e
theorem put_w {w p v : Int} {l : Nat} : putKD (rowO w l p) (.inr "point") (.int v) = rowO w l v := rfl
theorem put_a {w p : Int} {l k : Nat} : putKD (rowO w l p) (.inr "waits") (.ref k) = rowO w k p := rfl
theorem row_len {w p : Int} {l : Nat} : (rowO w l p).length < sizeLine := by rw [sizeLine_eq]; show (3 : Nat) < _; decide
theorem set_point (C : Cr a s h) (hx : x ∈ s.ns) (p : Int) : setDF (.ref (a (.R x))) (.str "point") (.int p) h = some (h.set (a (.R x)) (.dct (rowO (s.w x) (a (.L x)) p))) ∧ Cr a { s with rp := up s.rp x p } (h.set (a (.R x)) (.dct (rowO (s.w x) (a (.L x)) p))) := by
  have e : h[a (.R x)]? = some (.dct (rowO (s.w x) (a (.L x)) (s.rp x))) := C.at_ (.R x) hx (by simp)
  refine ⟨?_, C.wr (t := .R x) hx (by simp) (fun u v => by cases u <;> exact v) ?_ (fun u _ nu _ => ?_)⟩
  · simp only [setDF, e, keyD, row_len, ↓reduceIte, put_w]
  · simp only [Ob, up_eq]
  · cases u <;> simp only [Ob] <;> try rfl
    rename_i y
    rw [up_ne (fun z => nu (by rw [z]))]
theorem Ob_wait {l : List (Int × Int)} (e1 : t ≠ .L x) (e2 : t ≠ .R x) : Ob (upA a (.L x) m) { s with rw := up s.rw x l } t = Ob a s t := by
  cases t with
  | S => simp only [Ob]; rw [upA_ne (by simp)]
  | Td =>
    have e : (fun y => D.ref (upA a (.L x) m (.T y))) = fun y => .ref (a (.T y)) := funext fun y => by rw [upA_ne (by simp)]
    simp only [Ob, e]
  | T y => simp only [Ob]; rw [upA_ne (by simp)]
  | W y => rfl
  | O =>
    have e : (fun y => D.ref (upA a (.L x) m (.R y))) = fun y => .ref (a (.R y)) := funext fun y => by rw [upA_ne (by simp)]
    simp only [Ob, e]
  | R y =>
    have q : y ≠ x := fun z => e2 (by rw [z])
    simp only [Ob]
    rw [upA_ne (by intro z; injection z with z; exact q z)]
  | L y =>
    have q : y ≠ x := fun z => e1 (by rw [z])
    simp only [Ob]
    rw [up_ne q]
  | D => rfl
  | SZ =>
    have e : (fun y => D.ref (upA a (.L x) m (.SL y))) = fun y => .ref (a (.SL y)) := funext fun y => by rw [upA_ne (by simp)]
    simp only [Ob, e]
  | SL y => rfl
  | SV => rfl
  | MN => rfl
  | X => simp only [Ob]; rw [upA_ne (by simp)]
theorem set_waits (C : Cr a s h) (hx : x ∈ s.ns) {l : List (Int × Int)} (f : Fr none h h') (hm : h.length ≤ m) (em : h'[m]? = some (.lst (l.map pr))) :
    setDF (.ref (a (.R x))) (.str "waits") (.ref m) h' = some (h'.set (a (.R x)) (.dct (rowO (s.w x) m (s.rp x)))) ∧ Cr (upA a (.L x) m) { s with rw := up s.rw x l } (h'.set (a (.R x)) (.dct (rowO (s.w x) m (s.rp x)))) := by
  have C' := C.fr f
  have e : h'[a (.R x)]? = some (.dct (rowO (s.w x) (a (.L x)) (s.rp x))) := C'.at_ (.R x) hx (by simp)
  have ltm : m < h'.length := lt_of_get em
  have nr : a (.R x) ≠ m := by
    have := C.lt (show V s (.R x) from hx)
    omega
  refine ⟨by simp only [setDF, e, keyD, row_len, ↓reduceIte, put_a], fun t u p q e => ?_, fun t v nt => ?_, ?_, by rw [upA_ne (by simp), upA_ne (by simp)]; exact C.gx⟩
  · have vt : V s t := by cases t <;> exact p
    have vu : V s u := by cases u <;> exact q
    have l1 := C.lt vt
    have l2 := C.lt vu
    by_cases e1 : t = .L x <;> by_cases e2 : u = .L x
    · rw [e1, e2]
    · subst e1; rw [upA_eq, upA_ne e2] at e; omega
    · subst e2; rw [upA_eq, upA_ne e1] at e; omega
    · rw [upA_ne e1, upA_ne e2] at e; exact C.inj _ _ vt vu e
  · have vt : V s t := by cases t <;> exact v
    by_cases e1 : t = .L x
    · subst e1
      rw [upA_eq, get_set_ne nr, em]
      simp only [Ob, up_eq]
    · rw [upA_ne e1]
      by_cases e2 : t = .R x
      · subst e2
        rw [get_set (lt_of_get e)]
        simp only [Ob, upA_eq]
      · rw [get_set_ne (fun z => e2 (C.inj _ _ (show V s (.R x) from hx) vt z).symm), C'.at_ t vt nt]
        exact congrArg some (Ob_wait e1 e2).symm
  · rw [upA_ne (by simp)]
    obtain ⟨p, q, r, e⟩ := C'.dice
    exact ⟨p, q, r, by rw [get_set_ne (fun z => absurd (C.inj _ _ (show V s (.R x) from hx) (show V s .D from trivial) z) (by simp))]; exact e⟩
/-- a new row of own -/
def ownS (s : St) (x : Str) (w : Int) : St := { s with ns := s.ns ++ [x], w := up s.w x w, rp := up s.rp x 0, rw := up s.rw x [] }
def ownA (a : Tg → Nat) (x : Str) (n m : Nat) : Tg → Nat := upA (upA a (.R x) n) (.L x) m
theorem ownA_R : ownA a x n m (.R x) = n := by unfold ownA; rw [upA_ne (by simp), upA_eq]
theorem ownA_L : ownA a x n m (.L x) = m := by unfold ownA; rw [upA_eq]
theorem ownA_ne (h1 : t ≠ .R x) (h2 : t ≠ .L x) : ownA a x n m t = a t := by unfold ownA; rw [upA_ne h2, upA_ne h1]
theorem Ob_own {w : Int} (e1 : t ≠ .R x) (e2 : t ≠ .L x) (e3 : t ≠ .O) (v : V s t) (hx : x ∉ s.ms) : Ob (ownA a x n m) (ownS s x w) t = Ob a s t := by
  cases t with
  | S => simp only [Ob, ownS]; rw [ownA_ne (by simp) (by simp)]
  | Td =>
    have e : (fun y => D.ref (ownA a x n m (.T y))) = fun y => .ref (a (.T y)) := funext fun y => by rw [ownA_ne (by simp) (by simp)]
    simp only [Ob, ownS, e]
  | T y =>
    have q : y ≠ x := fun z => hx (z ▸ v)
    simp only [Ob, ownS]
    rw [ownA_ne (by simp) (by simp), up_ne q]
  | W y => rfl
  | O => exact absurd rfl e3
  | R y =>
    have q : y ≠ x := fun z => e1 (by rw [z])
    simp only [Ob, ownS]
    rw [ownA_ne (by simp) (by intro z; injection z with z; exact q z), up_ne q, up_ne q]
  | L y =>
    have q : y ≠ x := fun z => e2 (by rw [z])
    simp only [Ob, ownS]
    rw [up_ne q]
  | D => rfl
  | SZ =>
    have e : (fun y => D.ref (ownA a x n m (.SL y))) = fun y => .ref (a (.SL y)) := funext fun y => by rw [ownA_ne (by simp) (by simp)]
    simp only [Ob, ownS, e]
  | SL y => rfl
  | SV => rfl
  | MN => rfl
  | X => simp only [Ob]; rw [ownA_ne (by simp) (by simp)]
theorem own_add {w : Int} (C : Cr a s h) (vo : V s .O) (hx : x ∉ s.ns) (hxm : x ∉ s.ms) (hok : s.ok = false) (few : s.ns.length < 1000) (hn : h.length ≤ n) (hm : h.length ≤ m) (hnm : n ≠ m) (f : Fr (some (a .D)) h h') (dice : Di h' (a .D)) (e1 : h'[n]? = some (.dct (rowO w m 0))) (e2 : h'[m]? = some (.lst [])) :
    setDF (.ref (a .O)) (.str x) (.ref n) h' = some (h'.set (a .O) (.dct (kvO (s.ns ++ [x]) fun y => .ref (ownA a x n m (.R y))))) ∧ Cr (ownA a x n m) (ownS s x w) (h'.set (a .O) (.dct (kvO (s.ns ++ [x]) fun y => .ref (ownA a x n m (.R y))))) := by
  have lo : a .O < h.length := C.lt vo
  have nod : a .O ≠ a .D := fun z => absurd (C.inj _ _ vo (show V s .D from trivial) z) (by simp)
  have eo : h'[a .O]? = some (.dct (kvO s.ns fun y => .ref (a (.R y)))) := by
    have := C.at_ .O vo (by simp)
    simp only [Ob, dk, hok, Bool.false_eq_true, ↓reduceIte] at this
    exact f.get this (by intro z; injection z with z; exact nod z)
  have lf : (kvO s.ns fun y => D.ref (a (.R y))).length < sizeLine := by unfold kvO; rw [List.length_map, sizeLine_eq]; omega
  refine ⟨?_, ?_⟩
  · simp only [setDF, eo, keyD, lf, ↓reduceIte]
    rw [put_new (g := fun y => .ref (ownA a x n m (.R y))) hx (fun y hy => by rw [ownA_ne (by intro z; injection z with z; exact hx (z ▸ hy)) (by simp)]) (by rw [ownA_R])]
  · have old : ∀ t, V s t → ownA a x n m t = a t := fun t v => ownA_ne (fun z => by subst z; exact hx v) (fun z => by subst z; exact hx v)
    have back : ∀ t, V (ownS s x w) t → t ≠ .R x → t ≠ .L x → V s t := fun t v e1 e2 => by
      cases t <;> first | exact vo | (simp only [V, ownS, List.mem_append, List.mem_singleton] at v ⊢ <;> try exact v)
      · rcases v with v | v
        · exact v
        · exact absurd (by rw [v]) e1
      · rcases v with v | v
        · exact v
        · exact absurd (by rw [v]) e2
    refine C.grow old (fun t v => ?_) (fun t u vt vu lt lu e => ?_) (fun t v nt => ?_) ?_
    · by_cases q1 : t = .R x
      · subst q1; right; rw [ownA_R]; exact hn
      · by_cases q2 : t = .L x
        · subst q2; right; rw [ownA_L]; exact hm
        · exact .inl (back t v q1 q2)
    · have cls : ∀ t, V (ownS s x w) t → h.length ≤ ownA a x n m t → t = .R x ∨ t = .L x := fun t v l => by
        by_cases q1 : t = .R x
        · exact .inl q1
        · by_cases q2 : t = .L x
          · exact .inr q2
          · exfalso
            have vs := back t v q1 q2
            rw [old t vs] at l
            have := C.lt vs
            omega
      rcases cls t vt lt with rfl | rfl <;> rcases cls u vu lu with rfl | rfl
      · rfl
      · rw [ownA_R, ownA_L] at e; exact absurd e hnm
      · rw [ownA_R, ownA_L] at e; exact absurd e.symm hnm
      · rfl
    · by_cases q1 : t = .R x
      · subst q1
        rw [ownA_R, get_set_ne (by omega), e1]
        simp only [Ob, ownS, ownA_L, up_eq]
      · by_cases q2 : t = .L x
        · subst q2
          rw [ownA_L, get_set_ne (by omega), e2]
          simp only [Ob, ownS, up_eq, List.map_nil]
        · have vs := back t v q1 q2
          by_cases q3 : t = .O
          · subst q3
            rw [ownA_ne (by simp) (by simp), get_set (lt_of_get eo)]
            simp only [Ob, ownS, dk, hok, Bool.false_eq_true, ↓reduceIte]
          · rw [old t vs, get_set_ne (fun z => q3 (C.inj _ _ vo vs z).symm), f.get (C.at_ t vs nt) (by intro z; injection z with z; exact nt (C.inj _ _ vs (show V s .D from trivial) z))]
            exact congrArg some (Ob_own q1 q2 q3 vs hxm).symm
    · rw [ownA_ne (by simp) (by simp)]
      obtain ⟨p, q, r, e⟩ := dice
      exact ⟨p, q, r, by rw [get_set_ne nod]; exact e⟩
end
end K23
end

section
set_option Elab.async false
set_option linter.all false
set_option maxRecDepth 100000
set_option maxHeartbeats 2000000
namespace K23
open PySem L2 DD
def nmL : List Str := ("dbca" : Str).cps.toList.map fun c => ⟨#[c]⟩
theorem nm_len : nmL.length = 4 := by decide +kernel
theorem nm_nd : nmL.Nodup := by decide +kernel
theorem nm_it {k : Nat} (hk : k < 4) {h : AH} : itM (.str "dbca") (.int (k : Int)) h = .ok (.str (nmL.getD k "")) h := by
  have z : ("dbca" : Str).length ≤ sizeLine := by rw [sizeLine_eq]; decide +kernel
  rw [it_s, if_pos z]
  have l4 : ("dbca" : Str).cps.toList.length = 4 := by decide +kernel
  rw [atI_k (by rw [l4]; exact hk)]
  have e : ("dbca" : Str).cps.toList[k]? = some (("dbca" : Str).cps.toList[k]'(by rw [l4]; exact hk)) := List.getElem?_eq_getElem (by rw [l4]; exact hk)
  rw [e]
  simp only []
  have q : nmL[k]? = some ⟨#[("dbca" : Str).cps.toList[k]'(by rw [l4]; exact hk)]⟩ := by
    unfold nmL
    rw [List.getElem?_map, e]
    rfl
  rw [List.getD_eq_getElem?_getD, q]
  rfl
theorem nm_new {k : Nat} (hk : k < 4) : nmL.getD k "" ∉ nmL.take k ∧ nmL.take (k + 1) = nmL.take k ++ [nmL.getD k ""] := by
  have l : k < nmL.length := by rw [nm_len]; exact hk
  have g : nmL.getD k "" = nmL[k] := by rw [List.getD_eq_getElem?_getD, List.getElem?_eq_getElem l]; rfl
  rw [g]
  refine ⟨fun z => ?_, by rw [List.take_add_one, List.getElem?_eq_getElem l]; rfl⟩
  have nd := nm_nd
  rw [← List.take_append_drop k nmL, List.drop_eq_getElem_cons l] at nd
  exact (List.nodup_append.mp nd).2.2 _ z _ List.mem_cons_self rfl
structure Sv (a : Tg → Nat) (p : Int) (τ : SL) : Prop where
  len : τ.length = 25
  d : Sl τ 1 (.ref (a .D))
  sh : Sl τ 8 (.ref (a .S))
  ow : Sl τ 9 (.ref (a .O))
  pt : Sl τ 10 (.int p)
  ct : ∃ c : Int, Sl τ 11 (.int c)
theorem Sv.set {a : Tg → Nat} {p : Int} {τ : SL} {j : Nat} {o : Option D} (v : Sv a p τ) (hj : j ≠ 1 ∧ j ≠ 8 ∧ j ≠ 9 ∧ j ≠ 10 ∧ j ≠ 11) : Sv a p (τ.set j o) :=
  ⟨len_set v.len, v.d.set hj.1, v.sh.set hj.2.1, v.ow.set hj.2.2.1, v.pt.set hj.2.2.2.1, by obtain ⟨c, e⟩ := v.ct; exact ⟨c, e.set hj.2.2.2.2⟩⟩
theorem Sv.mono {a a' : Tg → Nat} {p : Int} {τ : SL} (v : Sv a p τ) (h : a' .D = a .D ∧ a' .S = a .S ∧ a' .O = a .O) : Sv a' p τ := ⟨v.len, by rw [h.1]; exact v.d, by rw [h.2.1]; exact v.sh, by rw [h.2.2]; exact v.ow, v.pt, v.ct⟩
structure Wf (s : St) : Prop where
  eqn : s.ns = s.ms
  rp : s.rp = s.q
  rw : s.rw = s.ws
  wt : ∀ x ∈ s.ns, 1 ≤ s.w x ∧ s.w x ≤ 10
  few : s.ns.length ≤ 4
  ok : s.ok = false
  tk : s.tk = false
  two : s.two = false
section
variable {a a' : Tg → Nat} {s s' : St} {h h' : AH} {t u : Tg} {x y : Str} {o : O} {i n m : Nat} {τ : SL} {p : Int} [Gh]
theorem rollC (C : Cr a s h) (s1 : Sl τ 1 (.ref (a .D))) {e : EM} {many : Nat} (he : e τ h = .ok (.int (many : Int)) h) (hm : 0 < many) (hb : many ≤ 100000000) :
    ∃ (r : Nat) (h' : AH), callM (consM (varM 1) (consM e nilM)) (callF 2 [] (R__law_roll 5)) τ h = .ok (.int (r : Int)) h' ∧ r < many ∧ Cr a s h' ∧ Dd (a .D) h h' := by
  obtain ⟨r, h', b1, b2, b3⟩ := roll5 many h (a .D) C.dice hm (.inl hb) (by omega)
  refine ⟨r, h', ?_, b2, C.rolled b3, b3⟩
  rw [callM_e, consM_e, varM_at s1, bindL_ok, consM_e, he, bindL_ok, nilM_e, lbind_ok, lbind_ok, bindE_ok]
  exact b1
theorem meth_S (C : Cr a s h) {mt : Str} {nn : Nat} {F : List D → AH → EO} {e : EM} {lm : LM} (he : e τ h = .ok (.ref (a .S)) h) (hl : ([("tenants", .ref (a .Td)), ("point", .int s.pt)] : List (Str × D)).lookup mt = none := by rfl) :
    methF mt 2 nn [] F e lm τ h = (lm τ h).bindE fun ds h2 => callF nn [] F (.ref (a .S) :: ds) h2 := by
  have z : h[a .S]? = some (.ins 2 [("tenants", .ref (a .Td)), ("point", .int s.pt)]) := C.at_ .S trivial (by simp)
  rw [methF_e, he, bind_ok]
  simp only [z]
  rw [if_pos ⟨trivial, hl⟩]
theorem f0_run {k : Nat} (C : Cr a s h) (w : Wf s) (hk : k < 4) (hn : s.ns = nmL.take k) (v : Sv a p τ) (s4 : Sl τ 4 (.int (k : Int))) :
    ∃ a' h' s' τ', law_f0b τ h = .nx τ' h' ∧ Cr a' s' h' ∧ Wf s' ∧ s'.ns = nmL.take (k + 1) ∧ Sv a' p τ' ∧ s'.pt = s.pt ∧ (∀ y, (s'.ws y).length ≤ (s.ws y).length) := by
  obtain ⟨hx, ht⟩ := nm_new hk
  generalize hxx : nmL.getD k "" = x at hx ht
  have e6 : binM (cM (.str "dbca")) (varM 4) itM τ h = .ok (.str x) h := by rw [binM_e, cM_e, bind_ok, varM_at s4, bind_ok, nm_it hk, hxx]
  rw [← hn] at hx
  have v6 := v.set (j := 6) (o := some (.str x)) (by decide)
  have s6 : Sl (τ.set 6 (some (.str x))) 6 (.str x) := Sl.new (by rw [v.len]; decide)
  generalize hτ : τ.set 6 (some (.str x)) = τ1 at v6 s6
  -- the row
  have C1 : Cr a s (h ++ [O.dct []]) := C.app
  obtain ⟨r, h2, b1, b2, C2, b3⟩ := rollC (e := cM (.int 10)) (many := 10) C1 v6.d cM_e (by decide) (by decide)
  have g2 : h2[h.length]? = some (.dct []) := b3.1.get get_new (by intro z; injection z with z; have := C.lt (show V s .D from trivial); omega)
  have l2 : h.length < h2.length := lt_of_get g2
  have row : dispM [((cM (.str "weight")), (binM (cM (.int 1)) (callM (consM (varM 1) (consM (cM (.int 10)) nilM)) (callF 2 [] (R__law_roll 5))) addM)), ((cM (.str "waits")), (lstM nilM)), ((cM (.str "point")), (cM (.int 0)))] τ1 h
      = .ok (.ref h.length) ((h2 ++ [O.lst []]).set h.length (.dct (rowO (1 + (r : Int)) h2.length 0))) := by
    unfold dispM
    simp only [prsM]
    rw [cM_e, bind_ok, binM_e, cM_e, bind_ok, b1, bind_ok, add_ii, bind_ok, cM_e, bind_ok, nil_l, bind_ok, cM_e, bind_ok, cM_e, bind_ok]
    have g3 : (h2 ++ [O.lst []])[h.length]? = some (.dct []) := get_app g2
    rw [g3]
    rfl
  have f3 : Fr (some (a .D)) h ((h2 ++ [O.lst []]).set h.length (.dct (rowO (1 + (r : Int)) h2.length 0))) := by
    have q1 : Fr (some (a .D)) h h2 := Fr.trans (Fr.app (gb := [O.dct []])) b3.1
    exact (q1.trans (Fr.app (gb := [O.lst []]))).setN (Nat.le_refl _)
  have d3 : Di ((h2 ++ [O.lst []]).set h.length (.dct (rowO (1 + (r : Int)) h2.length 0))) (a .D) := by
    obtain ⟨q1, q2, q3, e⟩ := b3.2
    have := C.lt (show V s .D from trivial)
    exact ⟨q1, q2, q3, by rw [get_set_ne (by omega)]; exact get_app e⟩
  have lt3 : h.length < (h2 ++ [O.lst []]).length := by simp; omega
  obtain ⟨c1, c2⟩ := own_add (w := 1 + (r : Int)) (n := h.length) (m := h2.length) C (.inr w.two) hx (by rw [← w.eqn]; exact hx) w.ok (by have := w.few; omega) (Nat.le_refl _) (by omega) (by omega) f3 d3 (get_set lt3) (by rw [get_set_ne (by omega)]; exact get_new)
  generalize hH : ((h2 ++ [O.lst []]).set h.length (.dct (rowO (1 + (r : Int)) h2.length 0))) = h3 at row c1 c2
  generalize hH4 : h3.set (a .O) (.dct (kvO (s.ns ++ [x]) fun y => .ref (ownA a x h.length h2.length (.R y)))) = h4 at c1 c2
  have wx : (ownS s x (1 + (r : Int))).w x = 1 + (r : Int) := up_eq
  have v7 : Sv (ownA a x h.length h2.length) p τ1 := v6.mono ⟨ownA_ne (by simp) (by simp), ownA_ne (by simp) (by simp), ownA_ne (by simp) (by simp)⟩
  obtain ⟨h5, d1, d2, _⟩ := add_run (x := x) c2 (show x ∉ (ownS s x (1 + (r : Int))).ms by show x ∉ s.ms; rw [← w.eqn]; exact hx) w.tk (by rw [wx]; omega) (show s.ms.length < 1000 by rw [← w.eqn]; have := w.few; omega)
  rw [wx] at d1
  have hxs : x ∈ (ownS s x (1 + (r : Int))).ns := by show x ∈ s.ns ++ [x]; simp
  refine ⟨_, h5, _, τ1, ?_, d2, ⟨?_, ?_, ?_, ?_, ?_, w.ok, w.tk, w.two⟩, ?_, v7.mono ⟨addA_ne (by simp) (by simp), addA_ne (by simp) (by simp), addA_ne (by simp) (by simp)⟩, rfl, ?_⟩
  · unfold law_f0b
    rw [seqM_e, setM_e, e6, toS_ok, sbind_nx, hτ, seqM_e, asgM_e, row, toS_ok, subG_e, varM_at v6.ow, toS_ok, varM_at s6, toS_ok, c1]
    simp only []
    rw [sbind_nx, exprM_e, meth_S c2 (varM_at v7.sh), consM_e, varM_at s6, bindL_ok, consM_e, binM_e, binM_e, varM_at v7.ow, bind_ok, varM_at s6, bind_ok, get_R c2 hxs, bind_ok, cM_e, bind_ok, get_Rw c2 hxs, wx, bindL_ok, nilM_e, lbind_ok, lbind_ok, bindE_ok]
    show EO.toS (F_Shares_add ([.ref _, .str x, .int (1 + (r : Int))] ++ []) h4) _ _ = _
    rw [List.append_nil, d1, toS_ok]
  · show s.ns ++ [x] = s.ms ++ [x]; rw [w.eqn]
  · show up s.rp x 0 = up s.q x 0; rw [w.rp]
  · show up s.rw x [] = up s.ws x []; rw [w.rw]
  · intro y hy
    show 1 ≤ up s.w x (1 + (r : Int)) y ∧ up s.w x (1 + (r : Int)) y ≤ 10
    have hy : y ∈ s.ns ++ [x] := hy
    by_cases q : y = x
    · rw [q, up_eq]; omega
    · rw [up_ne q]
      rcases List.mem_append.mp hy with z | z
      · exact w.wt y z
      · exact absurd (List.mem_singleton.mp z) q
  · show (s.ns ++ [x]).length ≤ 4
    rw [hn, ← ht, List.length_take]; omega
  · show s.ns ++ [x] = _
    rw [hn, ht]
  · intro y
    show (up s.ws x [] y).length ≤ _
    by_cases q : y = x
    · rw [q, up_eq]; simp
    · rw [up_ne q]; exact Nat.le_refl _
end
end K23
end

section
set_option Elab.async false
set_option linter.all false
set_option maxRecDepth 100000
set_option maxHeartbeats 2000000
namespace K23
open PySem L2 DD
def prP (p : Int × Int) : PyData := .tuple [.int p.1, .int p.2]
def rowP (x : Str) (q : Int) (l : List (Int × Int)) : PyData := .tuple [.str x, .int q, .list (l.map prP)]
theorem allP_map {β : Type} {f : D → Option PyData} {g : β → D} {k : β → PyData} : ∀ {l : List β}, (∀ x ∈ l, f (g x) = some (k x)) → allP f (l.map g) = some (l.map k)
  | [], _ => rfl
  | x :: l, h => by
    simp only [List.map_cons, allP, h x (by simp), allP_map (l := l) (fun y hy => h y (by simp [hy]))]
theorem deep_pr {h : AH} {n : Nat} (p : Int × Int) : deepP h (n + 2) (pr p) = some (prP p) := rfl
theorem plainAll_map {β : Type} {k : β → PyData} : ∀ {l : List β}, (∀ x ∈ l, (k x).plain = true) → PyData.plainAll (l.map k) = true
  | [], _ => rfl
  | x :: l, h => by
    simp only [List.map_cons, PyData.plainAll, h x (by simp), plainAll_map (l := l) (fun y hy => h y (by simp [hy])), Bool.and_self]
theorem plain_row (x : Str) (q : Int) (l : List (Int × Int)) : (rowP x q l).plain = true := by
  have : PyData.plainAll (l.map prP) = true := plainAll_map fun p _ => rfl
  simp only [rowP, PyData.plain, PyData.plainAll, this, Bool.and_self]
theorem deep_row {h : AH} {x : Str} {q : Int} {w : Nat} {l : List (Int × Int)} (e : h[w]? = some (.lst (l.map pr))) : deepP h 59 (.tup [.str x, .int q, .ref w]) = some (rowP x q l) := by
  have a : deepP h 58 (.ref w) = some (.list (l.map prP)) := by
    show (match h[w]? with
      | some (.lst xs) => (allP (deepP h 57) xs).map PyData.list
      | _ => none) = _
    rw [e]
    simp only []
    rw [allP_map (k := prP) fun p _ => deep_pr p]
    rfl
  have b : deepP h 58 (.str x) = some (.str x) := rfl
  have c : deepP h 58 (.int q) = some (.int q) := rfl
  show (allP (deepP h 58) [.str x, .int q, .ref w]).map PyData.tuple = _
  simp only [allP, a, b, c]
  rfl
theorem eqDs_nilP (l : List (Int × Str)) : eqDs (l.map pairT) [] = decide (l = []) := by
  cases l <;> simp [eqDs]
theorem pl_pair (l : List (Int × Str)) : plDs (l.map pairT) = true := by
  induction l with
  | nil => rfl
  | cons p l ih => simp only [List.map_cons, plDs, ih, pairT, plD, Bool.and_self]
theorem eq_nilP {i j : Nat} {l : List (Int × Str)} {h : AH} (e1 : h[i]? = some (.lst (l.map pairT))) (e2 : h[j]? = some (.lst [])) : eqM (.ref i) (.ref j) h = .ok (.bl (decide (l = []))) h := by
  have p1 : (plDs (l.map pairT) && plDs ([] : List D) && decide (min (depDs (l.map pairT)) (depDs ([] : List D)) < 64)) = true := by
    rw [pl_pair]
    simp [plDs, depDs]
  simp only [eqM, eqB, e1, e2, p1, eqDs_nilP]
  rfl
section
variable {a a' : Tg → Nat} {s s' : St} {h h' h2 : AH} {t u : Tg} {x y : Str} {o : O} {i n m : Nat} {τ τ' : SL} {p : Int} {pk : SL → AH → Option Nat} {sm : SM} {em : EM} {d : D} [Gh]
theorem lockO_in (C : Cr a s h) (vo : V s .O) : Cr a { s with ok := true } (h.set (a .O) (.fdct (kvR a s))) := by
  refine C.wr (t := .O) vo (by simp) (fun u v => by cases u <;> exact v) rfl (fun u _ nu _ => ?_)
  cases u <;> first | rfl | exact absurd rfl nu
theorem lockO_out (C : Cr a { s with ok := true } h) (vo : V s .O) (hk : s.ok = false) : Cr a s (h.set (a .O) (.dct (kvR a s))) := by
  refine C.wr (t := .O) vo (by simp) (fun u v => by cases u <;> exact v) (by simp only [Ob, dk, hk, Bool.false_eq_true, ↓reduceIte]) (fun u _ nu _ => ?_)
  cases u <;> first | rfl | exact absurd rfl nu
theorem at_O (C : Cr a s h) (vo : V s .O) (hk : s.ok = false) : h[a .O]? = some (.dct (kvR a s)) := by
  have := C.at_ .O vo (by simp)
  simpa only [Ob, dk, hk, Bool.false_eq_true, ↓reduceIte] using this
theorem lock_oS (C : Cr a s h) (vo : V s .O) (vo' : V s' .O) (hk : s.ok = false) (hp : pk τ h = some (a .O)) (e : sm τ (h.set (a .O) (.fdct (kvR a s))) = .nx τ' h2) (C2 : Cr a { s' with ok := true } h2) (hs : s'.ns = s.ns) (hk' : s'.ok = false) :
    lockS pk sm τ h = .nx τ' (h2.set (a .O) (.dct (kvR a s'))) ∧ Cr a s' (h2.set (a .O) (.dct (kvR a s'))) := by
  have td2 : h2[a .O]? = some (.fdct (kvR a s')) := C2.at_ .O vo' (by simp)
  refine ⟨?_, lockO_out C2 vo' hk'⟩
  simp only [lockS, hp, at_O C vo hk, e, unlS, td2]
theorem lock_oM (C : Cr a s h) (vo : V s .O) (hk : s.ok = false) (hp : pk τ h = some (a .O)) (e : em τ (h.set (a .O) (.fdct (kvR a s))) = .ok d h2) (C2 : Cr a { s with ok := true } h2) :
    lockM pk em τ h = .ok d (h2.set (a .O) (.dct (kvR a s))) ∧ Cr a s (h2.set (a .O) (.dct (kvR a s))) := by
  have td2 : h2[a .O]? = some (.fdct (kvR a s)) := C2.at_ .O vo (by simp)
  refine ⟨?_, lockO_out C2 vo hk⟩
  simp only [lockM, hp, at_O C vo hk, e, td2]
/-- a list over own's names: what is not written is there behind it -/
theorem own_list {mc : Option EM} {me : EM} {pp : Str → Bool} {gg : Str → D} (C : Cr a s h) (vo : V s .O) (hk : s.ok = false) (few : s.ns.length ≤ 4) (s9 : Sl τ 9 (.ref (a .O)))
    (step : ∀ x ∈ s.ns, ∀ h2, Cr a { s with ok := true } h2 → h.length ≤ h2.length → ∃ h3, mcM mc ((wipeD τ [18]).set 18 (some (.str x))) h2 = .ok (.bl (pp x)) h3 ∧ Fr none h2 h3 ∧ (pp x = true → ∃ h4, me ((wipeD τ [18]).set 18 (some (.str x))) h3 = .ok (gg x) h4 ∧ Fr none h3 h4)) :
    ∃ h1 h2, lcQ (varM 9) fkIt (nameG 18) mc me [18] τ (h.set (a .O) (.fdct (kvR a s))) = .ok (.ref h.length) h2 ∧ h2[h.length]? = some (.lst ((s.ns.filter pp).map gg)) ∧ Cr a { s with ok := true } h2 ∧ h1 = h2.set (a .O) (.dct (kvR a s)) ∧ Cr a s h1 ∧ Fr none h h1 ∧ h1[h.length]? = some (.lst ((s.ns.filter pp).map gg)) := by
  have C1 := lockO_in C vo
  have l1 : (h.set (a .O) (.fdct (kvR a s))).length = h.length := by simp
  obtain ⟨h2, b1, b2, b3⟩ := lcT_list (β := Str) (τ := τ) (j := 18) (own := [18]) (mc := mc) (me := me) (φ := D.str) (xs := s.ns) (p := pp) (g := gg) (e := varM 9) (d := .ref (a .O)) (varM_at s9) (fk_kv (C1.at_ .O vo (by simp))) (Nat.le_trans few (by decide)) (fun x hx h2 f => step x hx h2 (C1.fr f) (by have := f.1; omega))
  rw [l1] at b1 b2
  have C2 := C1.fr b3
  have lt : a .O < h.length := C.lt vo
  refine ⟨_, h2, b1, b2, C2, rfl, lockO_out C2 vo hk, ⟨?_, fun i hi _ => ?_⟩, by rw [get_set_ne (by omega)]; exact b2⟩
  · have := b3.1
    rw [List.length_set]; omega
  · by_cases q : a .O = i
    · subst q
      have h2l := C2.lt (show V { s with ok := true } .O from vo)
      rw [get_set h2l, at_O C vo hk]
    · rw [get_set_ne q, b3.2 i (by rw [l1]; exact hi) (by simp), get_set_ne q]
theorem ref9 (s9 : Sl τ 9 (.ref (a .O))) : refOf (varM 9) τ h = some (a .O) := by simp only [refOf, varM_at s9]
/-- the check behind each step -/
theorem check_run (C : Cr a s h) (w : Wf s) (v : Sv a p τ) (hp : s.pt = p) : ∃ h', (ifSM (orM (binM (unM (varM 8) (fldM "point" cs_point)) (varM 10) neM) (binM (lockM (refOf (varM 9)) (lcQ (varM 9) fkIt (nameG 18) none (tupM (consM (varM 18) (consM (unM (binM (unM (varM 8) (fldM "tenants" cs_tenants)) (varM 18) dgetM) (fldM "point" cs_point)) (consM (unM (binM (unM (varM 8) (fldM "tenants" cs_tenants)) (varM 18) dgetM) (fldM "waits" cs_waits)) nilM)))) [18])) (lockM (refOf (varM 9)) (lcQ (varM 9) fkIt (nameG 18) none (tupM (consM (varM 18) (consM (binM (binM (varM 9) (varM 18) dgetM) (cM (.str "point")) dgetM) (consM (binM (binM (varM 9) (varM 18) dgetM) (cM (.str "waits")) dgetM) nilM)))) [18])) nePM))
  (retM (cM (.bl false)))
  passM) τ h = .nx τ h' ∧ Cr a s h' := by
  have ln : ∀ x : Str, (wipeD τ [18]).set 18 (some (.str x)) = (τ.set 18 none).set 18 (some (.str x)) := fun x => rfl
  have sx : ∀ x : Str, Sl ((τ.set 18 none).set 18 (some (.str x))) 18 (.str x) := fun x => Sl.new (by rw [len_set v.len]; decide)
  have s8 : ∀ x : Str, Sl ((τ.set 18 none).set 18 (some (.str x))) 8 (.ref (a .S)) := fun x => (v.sh.set (by decide)).set (by decide)
  have s9 : ∀ x : Str, Sl ((τ.set 18 none).set 18 (some (.str x))) 9 (.ref (a .O)) := fun x => (v.ow.set (by decide)).set (by decide)
  obtain ⟨h1, k1, a1, a2, a3, a4, a5, a6, a7⟩ := own_list (τ := τ) (mc := none) (pp := fun _ => true) (gg := fun x => .tup [.str x, .int (s.q x), .ref (a (.W x))]) (me := (tupM (consM (varM 18) (consM (unM (binM (unM (varM 8) (fldM "tenants" cs_tenants)) (varM 18) dgetM) (fldM "point" cs_point)) (consM (unM (binM (unM (varM 8) (fldM "tenants" cs_tenants)) (varM 18) dgetM) (fldM "waits" cs_waits)) nilM))))) C (.inr w.two) w.ok w.few v.ow (fun x hx h2 C2 _ => by
    have hm : x ∈ s.ms := by rw [← w.eqn]; exact hx
    have t1 := get_T C2 hm
    have t2 : fldM "point" cs_point (.ref (a (.T x))) h2 = .ok (.int (s.q x)) h2 := by have := fT3 C2 hm; exact this
    have t3 : fldM "waits" cs_waits (.ref (a (.T x))) h2 = .ok (.ref (a (.W x))) h2 := by have := fT2 C2 hm; exact this
    refine ⟨h2, rfl, Fr.refl, fun _ => ⟨h2, ?_, Fr.refl⟩⟩
    rw [ln, tupM_e, consM_e, varM_at (sx x), bindL_ok, consM_e, unM_e, binM_e, unM_e, varM_at (s8 x), bind_ok, fS1 C2, bind_ok, varM_at (sx x), bind_ok, t1, bind_ok, t2, bindL_ok, consM_e, unM_e, binM_e, unM_e, varM_at (s8 x), bind_ok, fS1 C2, bind_ok, varM_at (sx x), bind_ok, t1, bind_ok, t3, bindL_ok, nilM_e, lbind_ok, lbind_ok, lbind_ok, bindE_ok, if_pos len3])
  obtain ⟨m1, m2⟩ := lock_oM C (.inr w.two) w.ok (ref9 v.ow) a1 a3
  rw [← a4] at m1 m2
  obtain ⟨h3, k3, b1, b2, b3, b4, b5, b6, b7⟩ := own_list (τ := τ) (mc := none) (pp := fun _ => true) (gg := fun x => .tup [.str x, .int (s.rp x), .ref (a (.L x))]) (me := (tupM (consM (varM 18) (consM (binM (binM (varM 9) (varM 18) dgetM) (cM (.str "point")) dgetM) (consM (binM (binM (varM 9) (varM 18) dgetM) (cM (.str "waits")) dgetM) nilM))))) m2 (.inr w.two) w.ok w.few v.ow (fun x hx h2 C2 _ => by
    have t1 : dgetM (.ref (a .O)) (.str x) h2 = .ok (.ref (a (.R x))) h2 := get_R C2 hx
    have t2 : dgetM (.ref (a (.R x))) (.str "point") h2 = .ok (.int (s.rp x)) h2 := by have := get_Rp C2 hx; exact this
    have t3 : dgetM (.ref (a (.R x))) (.str "waits") h2 = .ok (.ref (a (.L x))) h2 := by have := get_Ra C2 hx; exact this
    refine ⟨h2, rfl, Fr.refl, fun _ => ⟨h2, ?_, Fr.refl⟩⟩
    rw [ln, tupM_e, consM_e, varM_at (sx x), bindL_ok, consM_e, binM_e, binM_e, varM_at (s9 x), bind_ok, varM_at (sx x), bind_ok, t1, bind_ok, cM_e, bind_ok, t2, bindL_ok, consM_e, binM_e, binM_e, varM_at (s9 x), bind_ok, varM_at (sx x), bind_ok, t1, bind_ok, cM_e, bind_ok, t3, bindL_ok, nilM_e, lbind_ok, lbind_ok, lbind_ok, bindE_ok, if_pos len3])
  obtain ⟨n1, n2⟩ := lock_oM m2 (.inr w.two) w.ok (ref9 v.ow) b1 b3
  rw [← b4] at n1 n2
  have g1 := b6.getN a7
  rw [List.filter_eq_self.mpr (fun _ _ => rfl)] at g1 b7
  have P1 : deepP h3 60 (.ref h.length) = some (.list (s.ns.map fun x => rowP x (s.q x) (s.ws x))) := by
    show (match h3[h.length]? with
      | some (.lst xs) => (allP (deepP h3 59) xs).map PyData.list
      | _ => none) = _
    rw [g1]
    simp only []
    rw [allP_map (k := fun x => rowP x (s.q x) (s.ws x)) fun x hx => deep_row (n2.at_ (.W x) (show x ∈ s.ms by rw [← w.eqn]; exact hx) (by simp))]
    rfl
  have P2 : deepP h3 60 (.ref h1.length) = some (.list (s.ns.map fun x => rowP x (s.q x) (s.ws x))) := by
    show (match h3[h1.length]? with
      | some (.lst xs) => (allP (deepP h3 59) xs).map PyData.list
      | _ => none) = _
    rw [b7]
    simp only []
    rw [allP_map (k := fun x => rowP x (s.q x) (s.ws x)) fun x hx => by
      have z := n2.at_ (.L x) hx (by simp)
      have z : h3[a (.L x)]? = some (.lst ((s.rw x).map pr)) := z
      rw [w.rw] at z
      rw [w.rp]
      exact deep_row z]
    rfl
  have eqs : PyData.eqv (.list (s.ns.map fun x => rowP x (s.q x) (s.ws x))) (.list (s.ns.map fun x => rowP x (s.q x) (s.ws x))) = true := PySem.SeqAt.eqv_refl_plain _ (plainAll_map fun x _ => plain_row x _ _)
  refine ⟨h3, ?_, n2⟩
  rw [ifSM_e, orM_e, binM_e, unM_e, varM_at v.sh, bind_ok, fS2 C, bind_ok, varM_at v.pt, bind_ok, hp, ne_ii]
  have e0 : (!(p == p)) = false := by simp
  rw [e0, bind_ok]
  simp only []
  rw [binM_e, m1, bind_ok, n1, bind_ok]
  simp only [nePM, P1, P2, eqs]
  rfl
end
end K23
end

section
set_option Elab.async false
set_option linter.all false
set_option maxRecDepth 100000
set_option maxHeartbeats 2000000
namespace K23
open PySem L2 DD
noncomputable def stA : SM := (setM 6 (binM (callM (consM (varM 9) nilM) listDF) (callM (consM (varM 1) (consM (callM (consM (varM 9) nilM) lenF) nilM)) (callF 2 [] (R__law_roll 5))) itM))
noncomputable def stP : SM := (seqM (setM 17 (binM (cM (.int 1)) (callM (consM (varM 1) (consM (cM (.int 30)) nilM)) (callF 2 [] (R__law_roll 5))) addM))
  (seqM (setM 11 (binM (varM 11) (cM (.int 1)) addM))
  (seqM (exprM (methF "put" 2 4 [] F_Shares_put (varM 8) (consM (varM 6) (consM (varM 17) (consM (varM 11) nilM)))))
  (seqM (asgM (ifM (binM (binM (varM 12) (cM (.str "waits")) dgetM) (lstM nilM) eqM) (callM (consM (binM (varM 12) (cM (.str "point")) dgetM) (consM (varM 10) nilM)) maxF) (binM (varM 12) (cM (.str "point")) dgetM)) (subG (varM 12) (cM (.str "point")) setDF))
  (asgM (binM (binM (varM 12) (cM (.str "waits")) dgetM) (lstM (consM (tupM (consM (varM 17) (consM (varM 11) nilM))) nilM)) addM) (subG (varM 12) (cM (.str "waits")) setDF))))))
noncomputable def stQ : SM := (seqM (lockS (refOf (varM 9)) (setM 19 (lcQ (varM 9) fkIt (nameG 18) (some (binM (binM (binM (varM 9) (varM 18) dgetM) (cM (.str "waits")) dgetM) (lstM nilM) neM)) (tupM (consM (binM (binM (varM 9) (varM 18) dgetM) (cM (.str "point")) dgetM) (consM (varM 18) nilM))) [18])))
  (seqM (setM 20 (methF "next_work" 2 1 [] F_Shares_next_work (varM 8) nilM))
  (seqM (ifSM (binM (varM 19) (lstM nilM) eqM)
  (seqM (ifSM (binM (varM 20) (cM .non) isnotM)
  (retM (cM (.bl false)))
  passM)
  contM)
  passM)
  (seqM (asgM (callM (consM (varM 19) nilM) minPF) (tupG ([10, 18].map nameG)))
  (seqM (setM 12 (binM (varM 9) (varM 18) dgetM))
  (seqM (asgM (binM (binM (varM 12) (cM (.str "waits")) dgetM) (cM (.int 0)) itM) (tupG ([17, 21].map nameG)))
  (seqM (asgM (tupM (consM (slM (binM (varM 12) (cM (.str "waits")) dgetM) (.some (cM (.int 1))) .none) (consM (binM (varM 10) (binM (binM (varM 17) (cM (.int 5040)) mulM) (binM (varM 12) (cM (.str "weight")) dgetM) fdivM) addM) nilM))) (tupX [(subG (varM 12) (cM (.str "waits")) setDF), (subG (varM 12) (cM (.str "point")) setDF)]))
  (ifSM (binM (varM 20) (tupM (consM (varM 18) (consM (varM 17) (consM (varM 21) nilM)))) neM)
  (retM (cM (.bl false)))
  passM))))))))
noncomputable def stC : SM := (ifSM (orM (binM (unM (varM 8) (fldM "point" cs_point)) (varM 10) neM) (binM (lockM (refOf (varM 9)) (lcQ (varM 9) fkIt (nameG 18) none (tupM (consM (varM 18) (consM (unM (binM (unM (varM 8) (fldM "tenants" cs_tenants)) (varM 18) dgetM) (fldM "point" cs_point)) (consM (unM (binM (unM (varM 8) (fldM "tenants" cs_tenants)) (varM 18) dgetM) (fldM "waits" cs_waits)) nilM)))) [18])) (lockM (refOf (varM 9)) (lcQ (varM 9) fkIt (nameG 18) none (tupM (consM (varM 18) (consM (binM (binM (varM 9) (varM 18) dgetM) (cM (.str "point")) dgetM) (consM (binM (binM (varM 9) (varM 18) dgetM) (cM (.str "waits")) dgetM) nilM)))) [18])) nePM))
  (retM (cM (.bl false)))
  passM)
theorem f1_eq : law_f1b = seqM stA (seqM (setM 12 (binM (varM 9) (varM 6) dgetM)) (seqM (ifSM (binM (callM (consM (varM 1) (consM (cM (.int 2)) nilM)) (callF 2 [] (R__law_roll 5))) (cM (.int 0)) eqM) stP stQ) stC)) := rfl
section
variable {a a' : Tg → Nat} {s s' : St} {h h' h2 : AH} {t u : Tg} {x y : Str} {o : O} {i n m : Nat} {τ τ' : SL} {p : Int} [Gh]
theorem pick_run (C : Cr a s h) (w : Wf s) (v : Sv a p τ) (ne : s.ns ≠ []) : ∃ x h', stA τ h = .nx (τ.set 6 (some (.str x))) h' ∧ x ∈ s.ns ∧ Cr a s h' := by
  have e : h[a .O]? = some (.dct (kvR a s)) := at_O C (.inr w.two) w.ok
  have ks : ((kvR a s).map (·.1)).map kD = s.ns.map D.str := by
    unfold kvR kvO
    rw [List.map_map, List.map_map]
    rfl
  have lf : (s.ns.map D.str).length ≤ sizeLine := by rw [List.length_map, sizeLine_eq]; have := w.few; omega
  have l1 : listDF [.ref (a .O)] h = .ok (.ref h.length) (h ++ [.lst (s.ns.map D.str)]) := by
    simp only [listDF, e, newL, ks, lf, ↓reduceIte]
  have C1 : Cr a s (h ++ [O.lst (s.ns.map D.str)]) := C.app
  have e1 : (h ++ [O.lst (s.ns.map D.str)])[a .O]? = some (.dct (kvR a s)) := at_O C1 (.inr w.two) w.ok
  have ll : lenF [.ref (a .O)] (h ++ [O.lst (s.ns.map D.str)]) = .ok (.int (s.ns.length : Int)) (h ++ [O.lst (s.ns.map D.str)]) := by
    simp only [lenF, e1, kvO, List.length_map]
  obtain ⟨r, h2, b1, b2, C2, b3⟩ := rollC (e := callM (consM (varM 9) nilM) lenF) (many := s.ns.length) C1 v.d (by rw [callM_e, consM_e, varM_at v.ow, bindL_ok, nilM_e, lbind_ok, bindE_ok, ll]) (List.length_pos_iff.mpr ne) (by have := w.few; omega)
  have g2 : h2[h.length]? = some (.lst (s.ns.map D.str)) := b3.1.get get_new (by intro z; injection z with z; have := C.lt (show V s .D from trivial); omega)
  refine ⟨s.ns[r], h2, ?_, List.getElem_mem b2, C2⟩
  unfold stA
  rw [setM_e, binM_e, callM_e, consM_e, varM_at v.ow, bindL_ok, nilM_e, lbind_ok, bindE_ok, l1, bind_ok, b1, bind_ok, it_r, g2]
  simp only []
  rw [atI_k (by rw [List.length_map]; exact b2), List.getElem?_map, List.getElem?_eq_getElem b2]
  rfl
theorem putW (C : Cr a s h) (w : Wf s) (v : Sv a p τ) (hp : s.pt = p) (s6 : Sl τ 6 (.str x)) (s12 : Sl τ 12 (.ref (a (.R x)))) (hx : x ∈ s.ns) (few : (s.ws x).length < 500) :
    ∃ a' h' s' τ', stP τ h = .nx τ' h' ∧ Cr a' s' h' ∧ Wf s' ∧ s'.ns = s.ns ∧ Sv a' p τ' ∧ s'.pt = p ∧ (∀ y, (s'.ws y).length ≤ (s.ws y).length + 1) := by
  have hm : x ∈ s.ms := by rw [← w.eqn]; exact hx
  obtain ⟨c, sc⟩ := v.ct
  obtain ⟨r, h1, b1, b2, C1, b3⟩ := rollC (e := cM (.int 30)) (many := 30) C v.d cM_e (by decide) (by decide)
  have v1 := v.set (j := 17) (o := some (.int (1 + (r : Int)))) (by decide)
  have q17 : Sl (τ.set 17 (some (.int (1 + (r : Int))))) 17 (.int (1 + (r : Int))) := Sl.new (by rw [v.len]; decide)
  have q6 : Sl (τ.set 17 (some (.int (1 + (r : Int))))) 6 (.str x) := s6.set (by decide)
  have q12 : Sl (τ.set 17 (some (.int (1 + (r : Int))))) 12 (.ref (a (.R x))) := s12.set (by decide)
  have q11 : Sl (τ.set 17 (some (.int (1 + (r : Int))))) 11 (.int c) := sc.set (by decide)
  have e17 : setM 17 (binM (cM (.int 1)) (callM (consM (varM 1) (consM (cM (.int 30)) nilM)) (callF 2 [] (R__law_roll 5))) addM) τ h = .nx (τ.set 17 (some (.int (1 + (r : Int))))) h1 := by
    rw [setM_e, binM_e, cM_e, bind_ok, b1, bind_ok, add_ii, toS_ok]
  generalize τ.set 17 (some (.int (1 + (r : Int)))) = τ1 at *
  have v2 : Sv a p (τ1.set 11 (some (.int (c + 1)))) := ⟨len_set v1.len, v1.d.set (by decide), v1.sh.set (by decide), v1.ow.set (by decide), v1.pt.set (by decide), ⟨c + 1, Sl.new (by rw [v1.len]; decide)⟩⟩
  have r11 : Sl (τ1.set 11 (some (.int (c + 1)))) 11 (.int (c + 1)) := Sl.new (by rw [v1.len]; decide)
  have r17 : Sl (τ1.set 11 (some (.int (c + 1)))) 17 (.int (1 + (r : Int))) := q17.set (by decide)
  have r6 : Sl (τ1.set 11 (some (.int (c + 1)))) 6 (.str x) := q6.set (by decide)
  have r12 : Sl (τ1.set 11 (some (.int (c + 1)))) 12 (.ref (a (.R x))) := q12.set (by decide)
  have e11 : setM 11 (binM (varM 11) (cM (.int 1)) addM) τ1 h1 = .nx (τ1.set 11 (some (.int (c + 1)))) h1 := by
    rw [setM_e, binM_e, varM_at q11, bind_ok, cM_e, bind_ok, add_ii, toS_ok]
  generalize τ1.set 11 (some (.int (c + 1))) = τ2 at *
  -- the program's side
  obtain ⟨h2, d1, C2⟩ := put_run (sz := 1 + (r : Int)) (b := c + 1) C1 hm (by omega) (by omega)
  have ep : exprM (methF "put" 2 4 [] F_Shares_put (varM 8) (consM (varM 6) (consM (varM 17) (consM (varM 11) nilM)))) τ2 h1 = .nx τ2 h2 := by
    rw [exprM_e, meth_S C1 (varM_at v2.sh), consM_e, varM_at r6, bindL_ok, consM_e, varM_at r17, bindL_ok, consM_e, varM_at r11, bindL_ok, nilM_e, lbind_ok, lbind_ok, lbind_ok, bindE_ok]
    show EO.toS (F_Shares_put ([.ref _, .str x, .int (1 + (r : Int)), .int (c + 1)] ++ []) h1) _ _ = _
    rw [List.append_nil, d1, toS_ok]
  -- own's side
  have hx2 : x ∈ (putS s x (1 + (r : Int)) (c + 1)).ns := hx
  have ga := get_Ra C2 hx2
  have gp := get_Rp C2 hx2
  have C3 : Cr a (putS s x (1 + (r : Int)) (c + 1)) (h2 ++ [O.lst []]) := C2.app
  have gp3 := get_Rp C3 hx2
  have wl : (h2 ++ [O.lst []])[a (.L x)]? = some (.lst ((s.rw x).map pr)) := C3.at_ (.L x) hx2 (by simp)
  obtain ⟨pv, hpv, ev⟩ : ∃ pv, pv = (if s.ws x = [] then max (s.q x) s.pt else s.q x) ∧ ifM (binM (binM (varM 12) (cM (.str "waits")) dgetM) (lstM nilM) eqM) (callM (consM (binM (varM 12) (cM (.str "point")) dgetM) (consM (varM 10) nilM)) maxF) (binM (varM 12) (cM (.str "point")) dgetM) τ2 h2 = .ok (.int pv) (h2 ++ [O.lst []]) := by
    have t : binM (binM (varM 12) (cM (.str "waits")) dgetM) (lstM nilM) eqM τ2 h2 = .ok (.bl (decide (s.ws x = []))) (h2 ++ [O.lst []]) := by
      rw [binM_e, binM_e, varM_at r12, bind_ok, cM_e, bind_ok, ga, bind_ok, nil_l, bind_ok, eq_nil wl get_new, w.rw]
    have gq : (putS s x (1 + (r : Int)) (c + 1)).rp x = s.q x := by show s.rp x = _; rw [w.rp]
    by_cases q : s.ws x = []
    · refine ⟨_, rfl, ?_⟩
      rw [if_pos q, ifM_e, t, decide_eq_true q, bind_ok]
      simp only []
      rw [callM_e, consM_e, binM_e, varM_at r12, bind_ok, cM_e, bind_ok, gp3, bindL_ok, consM_e, varM_at v2.pt, bindL_ok, nilM_e, lbind_ok, lbind_ok, bindE_ok, max_e, gq, hp]
    · refine ⟨_, rfl, ?_⟩
      rw [if_neg q, ifM_e, t, decide_eq_false q, bind_ok]
      simp only []
      rw [binM_e, varM_at r12, bind_ok, cM_e, bind_ok, gp3, gq]
  obtain ⟨f1, C4⟩ := set_point C3 hx2 pv
  generalize hH : (h2 ++ [O.lst []]).set (a (.R x)) (.dct (rowO ((putS s x (1 + (r : Int)) (c + 1)).w x) (a (.L x)) pv)) = h4 at f1 C4
  have hx4 : x ∈ ({ putS s x (1 + (r : Int)) (c + 1) with rp := up (putS s x (1 + (r : Int)) (c + 1)).rp x pv } : St).ns := hx
  have ga4 := get_Ra C4 hx4
  have w4 : h4[a (.L x)]? = some (.lst ((s.rw x).map pr)) := C4.at_ (.L x) hx4 (by simp)
  have sum : addM (.ref (a (.L x))) (.ref h4.length) (h4 ++ [O.lst [pr (1 + (r : Int), c + 1)]]) = .ok (.ref (h4.length + 1)) ((h4 ++ [O.lst [pr (1 + (r : Int), c + 1)]]) ++ [.lst ((s.rw x ++ [(1 + (r : Int), c + 1)]).map pr)]) := by
    have := add_rr (get_app (gb := [O.lst [pr (1 + (r : Int), c + 1)]]) w4) (j := h4.length) (ys := [pr (1 + (r : Int), c + 1)]) get_new (by rw [List.length_map, w.rw]; simp; omega)
    rw [this, List.map_append]
    simp
  obtain ⟨k1, C5⟩ := set_waits (h' := (h4 ++ [O.lst [pr (1 + (r : Int), c + 1)]]) ++ [.lst ((s.rw x ++ [(1 + (r : Int), c + 1)]).map pr)]) (m := h4.length + 1) (l := s.rw x ++ [(1 + (r : Int), c + 1)]) C4 hx4 (Fr.app.trans Fr.app) (by omega) (by
      have : h4.length + 1 = (h4 ++ [O.lst [pr (1 + (r : Int), c + 1)]]).length := by simp
      rw [this]
      exact get_new)
  refine ⟨_, _, _, τ2, ?_, C5, ⟨w.eqn, ?_, ?_, w.wt, w.few, w.ok, w.tk, w.two⟩, rfl, v2.mono ⟨upA_ne (by simp), upA_ne (by simp), upA_ne (by simp)⟩, hp, ?_⟩
  · unfold stP
    rw [seqM_e, e17, sbind_nx, seqM_e, e11, sbind_nx, seqM_e, ep, sbind_nx, seqM_e, asgM_e, ev, toS_ok, subG_e, varM_at r12, toS_ok, cM_e, toS_ok, f1]
    simp only []
    rw [sbind_nx, asgM_e, binM_e, binM_e, varM_at r12, bind_ok, cM_e, bind_ok, ga4, bind_ok, lstM_e, consM_e, tupM_e, consM_e, varM_at r17, bindL_ok, consM_e, varM_at r11, bindL_ok, nilM_e, lbind_ok, lbind_ok, bindE_ok, if_pos len2, bindL_ok, nilM_e, lbind_ok, bindE_ok, if_pos (show ([D.tup [.int (1 + (r : Int)), .int (c + 1)]]).length ≤ sizeLine from one_le), bind_ok]
    show (EO.toS (addM (.ref (a (.L x))) (.ref h4.length) (h4 ++ [O.lst [pr (1 + (r : Int), c + 1)]])) _ _) = _
    rw [sum, toS_ok, subG_e, varM_at r12, toS_ok, cM_e, toS_ok, k1]
  · show up s.rp x pv = up s.q x _
    rw [w.rp, hpv]
  · show up s.rw x (s.rw x ++ [(1 + (r : Int), c + 1)]) = up s.ws x _
    rw [w.rw]
  · intro y
    show (up s.ws x (s.ws x ++ [(1 + (r : Int), c + 1)]) y).length ≤ _
    by_cases q : y = x
    · rw [q, up_eq]; simp
    · rw [up_ne q]; omega
end
end K23
end

section
set_option Elab.async false
set_option linter.all false
set_option maxRecDepth 100000
set_option maxHeartbeats 2000000
namespace DD
open PySem L2
theorem tupX2 {f g : TM} {u v : D} {τ : SL} {h : AH} : tupX [f, g] (.tup [u, v]) τ h = (f u τ h).bind fun τ1 h1 => (g v τ1 h1).bind fun τ2 h2 => .nx τ2 h2 := rfl
end DD
namespace K23
open PySem L2 DD
theorem atI0 {β : Type} {x : β} {l : List β} : atI (x :: l) 0 = some x := by
  have := atI_k (xs := x :: l) (k := 0) (by simp)
  exact this
theorem keys_at {ms : List Str} {ws : Str → List (Int × Int)} {q : Str → Int} (h : ready ms ws ≠ []) : (keysR (ready ms ws) q)[best (keysR (ready ms ws) q)]? = some (q (pick ms ws q), pick ms ws q) := by
  have := pick_at (q := q) h
  generalize best (keysR (ready ms ws) q) = i at *
  unfold keysR
  rw [List.getElem?_map, this]
  rfl
section
variable {a a' : Tg → Nat} {s s' : St} {h h' h2 : AH} {t u : Tg} {x y : Str} {o : O} {i n m : Nat} {τ τ' : SL} {p : Int} [Gh]
/-- a step of the loop goes on -/
def On (r : SO) (τ : SL) (h : AH) : Prop := r = .nx τ h ∨ r = .ct τ h
theorem ready_run (C : Cr a s h) (w : Wf s) (v : Sv a p τ) : ∃ h1, lockS (refOf (varM 9)) (setM 19 (lcQ (varM 9) fkIt (nameG 18) (some (binM (binM (binM (varM 9) (varM 18) dgetM) (cM (.str "waits")) dgetM) (lstM nilM) neM)) (tupM (consM (binM (binM (varM 9) (varM 18) dgetM) (cM (.str "point")) dgetM) (consM (varM 18) nilM))) [18])) τ h = .nx (τ.set 19 (some (.ref h.length))) h1
    ∧ Cr a s h1 ∧ h1[h.length]? = some (.lst ((keysR (ready s.ms s.ws) s.q).map pairT)) := by
  have ln : ∀ x : Str, (wipeD τ [18]).set 18 (some (.str x)) = (τ.set 18 none).set 18 (some (.str x)) := fun x => rfl
  have sx : ∀ x : Str, Sl ((τ.set 18 none).set 18 (some (.str x))) 18 (.str x) := fun x => Sl.new (by rw [len_set v.len]; decide)
  have s9 : ∀ x : Str, Sl ((τ.set 18 none).set 18 (some (.str x))) 9 (.ref (a .O)) := fun x => (v.ow.set (by decide)).set (by decide)
  obtain ⟨h1, k1, a1, a2, a3, a4, a5, a6, a7⟩ := own_list (τ := τ) (pp := fun x => !decide (s.ws x = [])) (gg := fun x => pairT (s.q x, x)) (mc := some (binM (binM (binM (varM 9) (varM 18) dgetM) (cM (.str "waits")) dgetM) (lstM nilM) neM)) (me := (tupM (consM (binM (binM (varM 9) (varM 18) dgetM) (cM (.str "point")) dgetM) (consM (varM 18) nilM)))) C (.inr w.two) w.ok w.few v.ow (fun x hx h2 C2 _ => by
    have t1 : dgetM (.ref (a .O)) (.str x) h2 = .ok (.ref (a (.R x))) h2 := get_R C2 hx
    have t3 : dgetM (.ref (a (.R x))) (.str "waits") h2 = .ok (.ref (a (.L x))) h2 := by have := get_Ra C2 hx; exact this
    have C3 : Cr a { s with ok := true } (h2 ++ [O.lst []]) := C2.app
    have t4 : dgetM (.ref (a .O)) (.str x) (h2 ++ [O.lst []]) = .ok (.ref (a (.R x))) (h2 ++ [O.lst []]) := get_R C3 hx
    have t2 : dgetM (.ref (a (.R x))) (.str "point") (h2 ++ [O.lst []]) = .ok (.int (s.q x)) (h2 ++ [O.lst []]) := by
      have z := get_Rp C3 hx
      rw [show ({ s with ok := true } : St).rp x = s.q x by show s.rp x = _; rw [w.rp]] at z
      exact z
    have wl : (h2 ++ [O.lst []])[a (.L x)]? = some (.lst ((s.ws x).map pr)) := by
      have z := C3.at_ (.L x) hx (by simp)
      have z : (h2 ++ [O.lst []])[a (.L x)]? = some (.lst ((s.rw x).map pr)) := z
      rw [w.rw] at z
      exact z
    refine ⟨h2 ++ [.lst []], ?_, Fr.app, fun _ => ⟨_, ?_, Fr.refl⟩⟩
    · show (binM _ _ _) _ _ = _
      rw [ln, binM_e, binM_e, binM_e, varM_at (s9 x), bind_ok, varM_at (sx x), bind_ok, t1, bind_ok, cM_e, bind_ok, t3, bind_ok, nil_l, bind_ok, ne_nil wl get_new]
    · rw [ln, tupM_e, consM_e, binM_e, binM_e, varM_at (s9 x), bind_ok, varM_at (sx x), bind_ok, t4, bind_ok, cM_e, bind_ok, t2, bindL_ok, consM_e, varM_at (sx x), bindL_ok, nilM_e, lbind_ok, lbind_ok, bindE_ok, if_pos len2]
      rfl)
  have e : setM 19 (lcQ (varM 9) fkIt (nameG 18) (some (binM (binM (binM (varM 9) (varM 18) dgetM) (cM (.str "waits")) dgetM) (lstM nilM) neM)) (tupM (consM (binM (binM (varM 9) (varM 18) dgetM) (cM (.str "point")) dgetM) (consM (varM 18) nilM))) [18]) τ (h.set (a .O) (.fdct (kvR a s))) = .nx (τ.set 19 (some (.ref h.length))) k1 := by
    rw [setM_e, a1, toS_ok]
  obtain ⟨m1, m2⟩ := lock_oS (s' := s) C (.inr w.two) (.inr w.two) w.ok (ref9 v.ow) e a3 rfl w.ok
  rw [← a4] at m1 m2
  refine ⟨h1, m1, m2, ?_⟩
  rw [a7]
  unfold keysR ready
  rw [List.map_map, w.eqn]
  rfl
theorem serve_run (C : Cr a s h) (w : Wf s) (v : Sv a p τ) (hp : s.pt = p) : ∃ a' h' s' τ' p', On (stQ τ h) τ' h' ∧ Cr a' s' h' ∧ Wf s' ∧ s'.ns = s.ns ∧ Sv a' p' τ' ∧ s'.pt = p' ∧ (∀ y, (s'.ws y).length ≤ (s.ws y).length) := by
  obtain ⟨h1, b1, C1, b2⟩ := ready_run C w v
  have v1 := v.set (j := 19) (o := some (.ref h.length)) (by decide)
  have q19 : Sl (τ.set 19 (some (.ref h.length))) 19 (.ref h.length) := Sl.new (by rw [v.len]; decide)
  generalize hτ1 : τ.set 19 (some (.ref h.length)) = τ1 at *
  have few : s.ms.length ≤ 1000 := by rw [← w.eqn]; have := w.few; omega
  have out : ∀ t, V s t → h.length ≠ a t := fun t vt z => by have := C.lt vt; omega
  by_cases hr : ready s.ms s.ws = []
  · obtain ⟨h2, d1, C2, fr⟩ := next_none C1 w.tk few hr
    have v2 := v1.set (j := 20) (o := some .non) (by decide)
    have r19 : Sl (τ1.set 20 (some .non)) 19 (.ref h.length) := q19.set (by decide)
    have r20 : Sl (τ1.set 20 (some .non)) 20 .non := Sl.new (by rw [v1.len]; decide)
    have e20 : setM 20 (methF "next_work" 2 1 [] F_Shares_next_work (varM 8) nilM) τ1 h1 = .nx (τ1.set 20 (some .non)) h2 := by
      rw [setM_e, meth_S C1 (varM_at v1.sh), nilM_e, bindE_ok]
      show EO.toS (F_Shares_next_work ([.ref _] ++ []) h1) _ _ = _
      rw [List.append_nil, d1, toS_ok]
    generalize τ1.set 20 (some .non) = τ2 at *
    have g2 : h2[h.length]? = some (.lst ([] : List D)) := by
      rw [hr] at b2
      exact fr.get b2 (by intro z; injection z with z; exact out .Td trivial z)
    refine ⟨a, h2 ++ [.lst []], s, τ2, p, .inr ?_, C2.app, w, rfl, v2, hp, fun y => Nat.le_refl _⟩
    unfold stQ
    rw [seqM_e, b1, sbind_nx, seqM_e, e20, sbind_nx, seqM_e, ifSM_e, binM_e, varM_at r19, bind_ok, nil_l, bind_ok, eq_nilP (l := []) (get_app g2) get_new, toS_ok]
    simp only [decide_true]
    rw [seqM_e, ifSM_e, binM_e, varM_at r20, bind_ok, cM_e, bind_ok]
    rfl
  · obtain ⟨hx, hne⟩ := pick_mem (q := s.q) hr
    have ka := keys_at (q := s.q) hr
    have kn : keysR (ready s.ms s.ws) s.q ≠ [] := by unfold keysR; simpa using hr
    obtain ⟨sz, b, rest, hq⟩ : ∃ sz b rest, s.ws (pick s.ms s.ws s.q) = (sz, b) :: rest := by
      cases e : s.ws (pick s.ms s.ws s.q) with
      | nil => exact absurd e hne
      | cons p r => exact ⟨p.1, p.2, r, rfl⟩
    obtain ⟨h2, d1, C2, fs⟩ := next_some C1 w.tk few hr (fun x hx => w.wt x (by rw [w.eqn]; exact hx)) hq
    generalize pick s.ms s.ws s.q = x at *
    have hxn : x ∈ s.ns := by rw [w.eqn]; exact hx
    have v2 := v1.set (j := 20) (o := some (.tup [.str x, .int sz, .int b])) (by decide)
    have r19 : Sl (τ1.set 20 (some (.tup [.str x, .int sz, .int b]))) 19 (.ref h.length) := q19.set (by decide)
    have r20 : Sl (τ1.set 20 (some (.tup [.str x, .int sz, .int b]))) 20 (.tup [.str x, .int sz, .int b]) := Sl.new (by rw [v1.len]; decide)
    have e20 : setM 20 (methF "next_work" 2 1 [] F_Shares_next_work (varM 8) nilM) τ1 h1 = .nx (τ1.set 20 (some (.tup [.str x, .int sz, .int b]))) h2 := by
      rw [setM_e, meth_S C1 (varM_at v1.sh), nilM_e, bindE_ok]
      show EO.toS (F_Shares_next_work ([.ref _] ++ []) h1) _ _ = _
      rw [List.append_nil, d1, toS_ok]
    generalize τ1.set 20 (some (.tup [.str x, .int sz, .int b])) = τ2 at *
    have g2 : h2[h.length]? = some (.lst ((keysR (ready s.ms s.ws) s.q).map pairT)) := fs.get b2 (by
      intro z
      simp only [List.mem_cons, List.mem_nil_iff, or_false] at z
      rcases z with z | z | z | z
      · exact out .Td trivial z
      · exact out (.W x) hx z
      · exact out .S trivial z
      · exact out (.T x) hx z)
    have g3 : (h2 ++ [O.lst []])[h.length]? = some (.lst ((keysR (ready s.ms s.ws) s.q).map pairT)) := get_app g2
    have C3 : Cr a (nextS s x sz rest) (h2 ++ [O.lst []]) := C2.app
    have mn : minPF [.ref h.length] (h2 ++ [O.lst []]) = .ok (.tup [.int (s.q x), .str x]) (h2 ++ [O.lst []]) := by
      simp only [minPF, g3, pairsE_map]
      generalize hk : keysR (ready s.ms s.ws) s.q = ks at *
      cases ks with
      | nil => exact absurd rfl kn
      | cons k ks =>
        simp only []
        have ka : (k :: ks)[argBest (fun i j => isLt ((k :: ks).getD i k) ((k :: ks).getD j k)) ks.length]? = some (s.q x, x) := ka
        rw [List.getD_eq_getElem?_getD, ka]
        rfl
    -- the slots
    have v3 : Sv a (s.q x) ((τ2.set 10 (some (.int (s.q x)))).set 18 (some (.str x))) := ⟨len_set (len_set v2.len), (v2.d.set (by decide)).set (by decide), (v2.sh.set (by decide)).set (by decide), (v2.ow.set (by decide)).set (by decide), (Sl.new (by rw [v2.len]; decide)).set (by decide), by obtain ⟨c, e⟩ := v2.ct; exact ⟨c, (e.set (by decide)).set (by decide)⟩⟩
    have t18 : Sl ((τ2.set 10 (some (.int (s.q x)))).set 18 (some (.str x))) 18 (.str x) := Sl.new (by rw [len_set v2.len]; decide)
    have t20 : Sl ((τ2.set 10 (some (.int (s.q x)))).set 18 (some (.str x))) 20 (.tup [.str x, .int sz, .int b]) := (r20.set (by decide)).set (by decide)
    have em : asgM (callM (consM (varM 19) nilM) minPF) (tupG ([10, 18].map nameG)) τ2 (h2 ++ [O.lst []]) = .nx ((τ2.set 10 (some (.int (s.q x)))).set 18 (some (.str x))) (h2 ++ [O.lst []]) := by
      rw [asgM_e, callM_e, consM_e, varM_at r19, bindL_ok, nilM_e, lbind_ok, bindE_ok, mn, toS_ok, tupG_e, unp2]
    generalize (τ2.set 10 (some (.int (s.q x)))).set 18 (some (.str x)) = τ3 at *
    have v4 := v3.set (j := 12) (o := some (.ref (a (.R x)))) (by decide)
    have u18 : Sl (τ3.set 12 (some (.ref (a (.R x))))) 18 (.str x) := t18.set (by decide)
    have u20 : Sl (τ3.set 12 (some (.ref (a (.R x))))) 20 (.tup [.str x, .int sz, .int b]) := t20.set (by decide)
    have u12 : Sl (τ3.set 12 (some (.ref (a (.R x))))) 12 (.ref (a (.R x))) := Sl.new (by rw [v3.len]; decide)
    have e12 : setM 12 (binM (varM 9) (varM 18) dgetM) τ3 (h2 ++ [O.lst []]) = .nx (τ3.set 12 (some (.ref (a (.R x))))) (h2 ++ [O.lst []]) := by
      rw [setM_e, binM_e, varM_at v3.ow, bind_ok, varM_at t18, bind_ok, get_R C3 hxn, toS_ok]
    generalize τ3.set 12 (some (.ref (a (.R x)))) = τ4 at *
    have ga : dgetM (.ref (a (.R x))) (.str "waits") (h2 ++ [O.lst []]) = .ok (.ref (a (.L x))) (h2 ++ [O.lst []]) := by have := get_Ra C3 (x := x) hxn; exact this
    have gl : (h2 ++ [O.lst []])[a (.L x)]? = some (.lst (pr (sz, b) :: rest.map pr)) := by
      have z := C3.at_ (.L x) hxn (by simp)
      have z : (h2 ++ [O.lst []])[a (.L x)]? = some (.lst ((s.rw x).map pr)) := z
      rw [w.rw, hq] at z
      exact z
    have v5 := (v4.set (j := 17) (o := some (.int sz)) (by decide)).set (j := 21) (o := some (.int b)) (by decide)
    have w18 : Sl ((τ4.set 17 (some (.int sz))).set 21 (some (.int b))) 18 (.str x) := (u18.set (by decide)).set (by decide)
    have w20 : Sl ((τ4.set 17 (some (.int sz))).set 21 (some (.int b))) 20 (.tup [.str x, .int sz, .int b]) := (u20.set (by decide)).set (by decide)
    have w12 : Sl ((τ4.set 17 (some (.int sz))).set 21 (some (.int b))) 12 (.ref (a (.R x))) := (u12.set (by decide)).set (by decide)
    have w17 : Sl ((τ4.set 17 (some (.int sz))).set 21 (some (.int b))) 17 (.int sz) := (Sl.new (by rw [v4.len]; decide)).set (by decide)
    have w21 : Sl ((τ4.set 17 (some (.int sz))).set 21 (some (.int b))) 21 (.int b) := Sl.new (by rw [len_set v4.len]; decide)
    have e17 : asgM (binM (binM (varM 12) (cM (.str "waits")) dgetM) (cM (.int 0)) itM) (tupG ([17, 21].map nameG)) τ4 (h2 ++ [O.lst []]) = .nx ((τ4.set 17 (some (.int sz))).set 21 (some (.int b))) (h2 ++ [O.lst []]) := by
      rw [asgM_e, binM_e, binM_e, varM_at u12, bind_ok, cM_e, bind_ok, ga, bind_ok, cM_e, bind_ok, it_r, gl]
      simp only []
      rw [atI0]
      simp only []
      rw [toS_ok]
      unfold pr
      rw [tupG_e, unp2]
    generalize (τ4.set 17 (some (.int sz))).set 21 (some (.int b)) = τ5 at *
    -- own's row
    have sl : slM (binM (varM 12) (cM (.str "waits")) dgetM) (.some (cM (.int 1))) .none τ5 (h2 ++ [O.lst []]) = .ok (.ref (h2 ++ [O.lst []]).length) ((h2 ++ [O.lst []]) ++ [.lst (rest.map pr)]) := by
      have cu : cutL (pr (sz, b) :: rest.map pr) (some (1 : Int)) none = rest.map pr := by
        have := cut_d (xs := pr (sz, b) :: rest.map pr) (a := 1)
        exact this
      rw [slM_e, binM_e, varM_at w12, bind_ok, cM_e, bind_ok, ga, bind_ok, om_some, cM_e, bind_ok]
      simp only []
      rw [om_none, sl_r, gl]
      simp only []
      rw [cu]
    have C4 : Cr a (nextS s x sz rest) ((h2 ++ [O.lst []]) ++ [.lst (rest.map pr)]) := C3.app
    have gw : dgetM (.ref (a (.R x))) (.str "weight") ((h2 ++ [O.lst []]) ++ [.lst (rest.map pr)]) = .ok (.int (s.w x)) ((h2 ++ [O.lst []]) ++ [.lst (rest.map pr)]) := by have := get_Rw C4 (x := x) hxn; exact this
    have cm : CMb' sz 5040 = true := cmb_r (by decide)
    have cd : CDb (sz * 5040) (s.w x) = true := by
      have := w.wt x hxn
      unfold CDb
      simp only [Bool.and_eq_true, decide_eq_true_eq]
      omega
    have pair : tupM (consM (slM (binM (varM 12) (cM (.str "waits")) dgetM) (.some (cM (.int 1))) .none) (consM (binM (varM 10) (binM (binM (varM 17) (cM (.int 5040)) mulM) (binM (varM 12) (cM (.str "weight")) dgetM) fdivM) addM) nilM)) τ5 (h2 ++ [O.lst []])
        = .ok (.tup [.ref (h2 ++ [O.lst []]).length, .int (s.q x + sz * 5040 / s.w x)]) ((h2 ++ [O.lst []]) ++ [.lst (rest.map pr)]) := by
      rw [tupM_e, consM_e, sl, bindL_ok, consM_e, binM_e, varM_at v5.pt, bind_ok, binM_e, binM_e, varM_at w17, bind_ok, cM_e, bind_ok, mul_ii, if_pos cm, bind_ok, binM_e, varM_at w12, bind_ok, cM_e, bind_ok, gw, bind_ok, fdiv_ii, if_pos cd, bind_ok, add_ii, bindL_ok, nilM_e, lbind_ok, lbind_ok, bindE_ok, if_pos len2]
    obtain ⟨k1, C5⟩ := set_waits (x := x) (l := rest) (m := (h2 ++ [O.lst []]).length) C3 hxn (Fr.app (gb := [O.lst (rest.map pr)])) (Nat.le_refl _) get_new
    have hx5 : x ∈ ({ nextS s x sz rest with rw := up (nextS s x sz rest).rw x rest } : St).ns := hxn
    obtain ⟨k2, C6⟩ := set_point C5 hx5 (s.q x + sz * 5040 / s.w x)
    rw [upA_ne (by simp)] at k2
    refine ⟨_, _, _, τ5, s.q x, .inl ?_, C6, ⟨w.eqn, ?_, ?_, w.wt, w.few, w.ok, w.tk, w.two⟩, rfl, v5.mono ⟨upA_ne (by simp), upA_ne (by simp), upA_ne (by simp)⟩, rfl, ?_⟩
    · unfold stQ
      rw [seqM_e, b1, sbind_nx, seqM_e, e20, sbind_nx, seqM_e, ifSM_e, binM_e, varM_at r19, bind_ok, nil_l, bind_ok, eq_nilP g3 get_new, decide_eq_false kn, toS_ok]
      simp only []
      rw [passM_e, sbind_nx, seqM_e, em, sbind_nx, seqM_e, e12, sbind_nx, seqM_e, e17, sbind_nx, seqM_e, asgM_e, pair, toS_ok, tupX2, subG_e, varM_at w12, toS_ok, cM_e, toS_ok, k1]
      simp only []
      rw [sbind_nx, subG_e, varM_at w12, toS_ok, cM_e, toS_ok, k2]
      simp only []
      rw [sbind_nx, sbind_nx, ifSM_e, binM_e, varM_at w20, bind_ok, tupM_e, consM_e, varM_at w18, bindL_ok, consM_e, varM_at w17, bindL_ok, consM_e, varM_at w21, bindL_ok, nilM_e, lbind_ok, lbind_ok, lbind_ok, bindE_ok, if_pos len3, bind_ok, ne_self (d := .tup [.str x, .int sz, .int b]) rfl (show (1 : Nat) ≤ 64 by decide)]
      rfl
    · show up s.rp x _ = up s.q x _
      rw [w.rp]
    · show up s.rw x rest = up s.ws x rest
      rw [w.rw]
    · intro y
      show (up s.ws x rest y).length ≤ _
      by_cases q : y = x
      · rw [q, up_eq, hq]; simp
      · rw [up_ne q]; exact Nat.le_refl _
end
end K23
end

section
set_option Elab.async false
set_option linter.all false
set_option maxRecDepth 100000
set_option maxHeartbeats 2000000
namespace DD
open PySem L2
/-- a loop whose turns go on, one way or the other -/
theorem for_on {β : Type} {φ : β → D} {b : SM} {live : AH → Bool} {j : Nat} (P : List β → SL → AH → Prop) (hl : ∀ r τ h, P r τ h → live h = true)
    (step : ∀ x r τ h, P (x :: r) τ h → ∃ τ1 h1, (b (τ.set j (some (φ x))) h = .nx τ1 h1 ∨ b (τ.set j (some (φ x))) h = .ct τ1 h1) ∧ P r τ1 h1) :
    ∀ (xs : List β) (τ : SL) (h : AH), P xs τ h → ∃ τ' h', loopM live (nameG j) b (xs.map φ) τ h = .nx τ' h' ∧ P [] τ' h' := by
  intro xs
  induction xs with
  | nil => exact fun τ h p => ⟨τ, h, loopL_nil (hl _ _ _ p), p⟩
  | cons x r ih =>
    intro τ h p
    obtain ⟨τ1, h1, e1, p1⟩ := step x r τ h p
    obtain ⟨τ2, h2, e2, p2⟩ := ih τ1 h1 p1
    refine ⟨τ2, h2, ?_, p2⟩
    rw [List.map_cons, loopL_cons (hl _ _ _ p), nameG_e, sbind_nx]
    rcases e1 with e1 | e1
    · rw [e1, next_nx, e2]
    · rw [e1]
      exact e2
theorem sbind_ct' {τ : SL} {h : AH} {g : SL → AH → SO} : (SO.ct τ h).bind g = .ct τ h := rfl
end DD
namespace K23
open PySem L2 DD
section
variable {a a' : Tg → Nat} {s s' : St} {h h' h2 : AH} {t u : Tg} {x y : Str} {o : O} {i n m : Nat} {τ τ' : SL} {p : Int} [Gh]
theorem step_run (C : Cr a s h) (w : Wf s) (v : Sv a p τ) (hp : s.pt = p) (ne : s.ns ≠ []) (few : ∀ y, (s.ws y).length < 500) :
    ∃ a' h' s' τ' p', On (law_f1b τ h) τ' h' ∧ Cr a' s' h' ∧ Wf s' ∧ s'.ns = s.ns ∧ Sv a' p' τ' ∧ s'.pt = p' ∧ (∀ y, (s'.ws y).length ≤ (s.ws y).length + 1) := by
  obtain ⟨x, h1, b1, hx, C1⟩ := pick_run C w v ne
  have v1 := v.set (j := 6) (o := some (.str x)) (by decide)
  have q6 : Sl (τ.set 6 (some (.str x))) 6 (.str x) := Sl.new (by rw [v.len]; decide)
  generalize τ.set 6 (some (.str x)) = τ1 at *
  have v2 := v1.set (j := 12) (o := some (.ref (a (.R x)))) (by decide)
  have r6 : Sl (τ1.set 12 (some (.ref (a (.R x))))) 6 (.str x) := q6.set (by decide)
  have r12 : Sl (τ1.set 12 (some (.ref (a (.R x))))) 12 (.ref (a (.R x))) := Sl.new (by rw [v1.len]; decide)
  have e12 : setM 12 (binM (varM 9) (varM 6) dgetM) τ1 h1 = .nx (τ1.set 12 (some (.ref (a (.R x))))) h1 := by
    rw [setM_e, binM_e, varM_at v1.ow, bind_ok, varM_at q6, bind_ok, get_R C1 hx, toS_ok]
  generalize τ1.set 12 (some (.ref (a (.R x)))) = τ2 at *
  obtain ⟨r, h2, d1, d2, C2, _⟩ := rollC (e := cM (.int 2)) (many := 2) C1 v2.d cM_e (by decide) (by decide)
  -- the two ways
  have both : ∃ a' h' s' τ' p', On (ifSM (binM (callM (consM (varM 1) (consM (cM (.int 2)) nilM)) (callF 2 [] (R__law_roll 5))) (cM (.int 0)) eqM) stP stQ τ2 h1) τ' h' ∧ Cr a' s' h' ∧ Wf s' ∧ s'.ns = s.ns ∧ Sv a' p' τ' ∧ s'.pt = p' ∧ (∀ y, (s'.ws y).length ≤ (s.ws y).length + 1) := by
    have t : binM (callM (consM (varM 1) (consM (cM (.int 2)) nilM)) (callF 2 [] (R__law_roll 5))) (cM (.int 0)) eqM τ2 h1 = .ok (.bl ((r : Int) == 0)) h2 := by
      rw [binM_e, d1, bind_ok, cM_e, bind_ok, eq_ii]
    cases q : ((r : Int) == 0) with
    | true =>
      obtain ⟨a', h', s', τ', f1, f2, f3, f4, f5, f6, f7⟩ := putW C2 w v2 hp r6 r12 hx (few x)
      refine ⟨a', h', s', τ', p, .inl ?_, f2, f3, f4, f5, f6, f7⟩
      rw [ifSM_e, t, q, toS_ok]
      exact f1
    | false =>
      obtain ⟨a', h', s', τ', p', f1, f2, f3, f4, f5, f6, f7⟩ := serve_run C2 w v2 hp
      refine ⟨a', h', s', τ', p', ?_, f2, f3, f4, f5, f6, fun y => Nat.le_succ_of_le (f7 y)⟩
      rw [ifSM_e, t, q, toS_ok]
      exact f1
  obtain ⟨a', h', s', τ', p', f1, C3, w3, n3, v3, p3, l3⟩ := both
  rw [f1_eq, seqM_e, b1, sbind_nx, seqM_e, e12, sbind_nx, seqM_e]
  rcases f1 with f1 | f1
  · obtain ⟨h4, g1, C4⟩ := check_run C3 w3 v3 p3
    refine ⟨a', h4, s', τ', p', .inl ?_, C4, w3, n3, v3, p3, l3⟩
    rw [f1, sbind_nx]
    exact g1
  · refine ⟨a', h', s', τ', p', .inr ?_, C3, w3, n3, v3, p3, l3⟩
    rw [f1, sbind_ct']
/-- the first two loops -/
theorem loopA (C : Cr a s h) (w : Wf s) (v : Sv a p τ) (hp : s.pt = p) (hn : s.ns = []) (few : ∀ y, (s.ws y).length = 0) {mm : Nat} (hm : mm ≤ 4) (h0 : 0 < mm) :
    ∃ a' h' s' τ', loopM (fun _ => true) (nameG 4) law_f0b (rngL 0 mm) τ h = .nx τ' h' ∧ Cr a' s' h' ∧ Wf s' ∧ s'.ns = nmL.take mm ∧ Sv a' p τ' ∧ s'.pt = p ∧ ∀ y, (s'.ws y).length = 0 := by
  rw [rngL_nat]
  obtain ⟨τ', h', b1, k, hk, hkm, a', s', C', w', n', v', p', l'⟩ := for_on (φ := fun (k : Nat) => D.int (k : Int)) (j := 4) (b := law_f0b) (live := fun _ => true)
    (P := fun r τ h => ∃ k, r = List.range' k (mm - k) ∧ k ≤ mm ∧ ∃ a s, Cr a s h ∧ Wf s ∧ s.ns = nmL.take k ∧ Sv a p τ ∧ s.pt = p ∧ ∀ y, (s.ws y).length = 0) (fun _ _ _ _ => rfl) (fun x r τ h P => by
      obtain ⟨k, hr, _, a, s, C, w, n, v, hp, l⟩ := P
      have hk : k < mm := by
        apply Classical.byContradiction
        intro z
        rw [show mm - k = 0 by omega] at hr
        cases hr
      rw [show mm - k = (mm - (k + 1)) + 1 by omega, List.range'_succ] at hr
      cases hr
      obtain ⟨a', h', s', τ', f1, f2, f3, f4, f5, f6, f7⟩ := f0_run C w (by omega) n (v.set (j := 4) (o := some (.int (x : Int))) (by decide)) (Sl.new (by rw [v.len]; decide))
      exact ⟨τ', h', .inl f1, x + 1, rfl, hk, a', s', f2, f3, f4, f5, f6.trans hp, fun y => Nat.le_zero.mp (by have := f7 y; rw [l y] at this; exact this)⟩) (List.range mm) τ h ⟨0, by rw [Nat.sub_zero, List.range_eq_range'], by omega, a, s, C, w, by rw [hn]; rfl, v, hp, few⟩
  have e : List.range' k (mm - k) = [] := hk.symm
  rw [List.range'_eq_nil_iff] at e
  have : k = mm := by omega
  subst this
  exact ⟨a', h', s', τ', b1, C', w', n', v', p', l'⟩
theorem loopB (C : Cr a s h) (w : Wf s) (v : Sv a p τ) (hp : s.pt = p) (ne : s.ns ≠ []) (few : ∀ y, (s.ws y).length = 0) {mm : Nat} (hm : mm ≤ 101) :
    ∃ a' h' s' τ' p', loopM (fun _ => true) (nameG 5) law_f1b (rngL 0 mm) τ h = .nx τ' h' ∧ Cr a' s' h' ∧ Wf s' ∧ s'.ns = s.ns ∧ Sv a' p' τ' ∧ s'.pt = p' := by
  rw [rngL_nat]
  obtain ⟨τ', h', b1, a', s', p', C', w', n', v', q', _⟩ := for_on (φ := fun (k : Nat) => D.int (k : Int)) (j := 5) (b := law_f1b) (live := fun _ => true)
    (P := fun r τ h => ∃ a s' p, Cr a s' h ∧ Wf s' ∧ s'.ns = s.ns ∧ Sv a p τ ∧ s'.pt = p ∧ ∀ y, (s'.ws y).length + r.length ≤ 101) (fun _ _ _ _ => rfl) (fun x r τ h P => by
      obtain ⟨a, s1, p, C, w, n, v, hp, l⟩ := P
      obtain ⟨a', h', s', τ', p', f1, f2, f3, f4, f5, f6, f7⟩ := step_run C w (v.set (j := 5) (o := some (.int (x : Int))) (by decide)) hp (by rw [n]; exact ne) (fun y => by have := l y; omega)
      exact ⟨τ', h', f1, a', s', p', f2, f3, f4.trans n, f5, f6, fun y => by have := f7 y; have := l y; simp only [List.length_cons] at this; omega⟩) (List.range mm) τ h ⟨a, s, p, C, w, rfl, v, hp, fun y => by rw [few y, List.length_range]; omega⟩
  exact ⟨a', h', s', τ', p', b1, C', w', n', v', q'⟩
end
end K23
end

section
set_option Elab.async false
set_option linter.all false
set_option maxRecDepth 100000
set_option maxHeartbeats 2000000
namespace K23
open PySem L2 DD
abbrev shO (n : Nat) : List (Str × D) := [("tenants", .ref n), ("point", .int 0)]
section
variable {a a' : Tg → Nat} {s s' : St} {h h' h2 : AH} {t u : Tg} {x y : Str} {o : O} {i n m : Nat} {τ τ' : SL} {p : Int} [Gh]
theorem shares_run {h : AH} : makeF 2 1 [] F_Shares_init [] h = .ok (.ref h.length) (h ++ [.ins 2 (shO (h.length + 1)), .dct []]) := by
  have i1 : fldSetM "tenants" cs_tenants (varM 0) dnewM [some (.ref h.length)] (h ++ [O.ins 2 []]) = .nx [some (.ref h.length)] (h ++ [.ins 2 [("tenants", .ref (h.length + 1))], .dct []]) := by
    have g : ((h ++ [O.ins 2 []]) ++ [O.dct []])[h.length]? = some (O.ins 2 []) := get_app get_new
    have ed : dnewM [some (.ref h.length)] (h ++ [O.ins 2 []]) = .ok (.ref (h ++ [O.ins 2 []]).length) ((h ++ [O.ins 2 []]) ++ [.dct []]) := rfl
    rw [fwA (c := 2) (k := h.length) (fs := []) (x := .ref (h ++ [O.ins 2 []]).length) g (by decide) (show (0 : Nat) < 1000 by decide) ed varM_0, List.append_assoc]
    show SO.nx _ (List.set (h ++ O.ins 2 [] :: [O.dct []]) h.length _) = _
    rw [set_new]
    simp only [List.length_append, List.length_cons, List.length_nil]
    rfl
  have i2 : fldSetM "point" cs_point (varM 0) (cM (.int 0)) [some (.ref h.length)] (h ++ [.ins 2 [("tenants", .ref (h.length + 1))], .dct []]) = .nx [some (.ref h.length)] (h ++ [.ins 2 (shO (h.length + 1)), .dct []]) := by
    rw [fwA (c := 2) (k := h.length) (fs := [("tenants", .ref (h.length + 1))]) (x := .int 0) get_new (by decide) (show (1 : Nat) < 1000 by decide) cM_e varM_0, set_new]
    rfl
  have e0 : startD N_Shares_init.length [D.ref h.length] = [some (.ref h.length)] := rfl
  have rn0 : F_Shares_init [.ref h.length] (h ++ [O.ins 2 []]) = .ok .non (h ++ [.ins 2 (shO (h.length + 1)), .dct []]) := by
    unfold F_Shares_init m_Shares_init
    rw [e0, seqM_e, i1, sbind_nx, i2, ret_nx]
  show ((F_Shares_init ([.ref h.length] ++ []) (h ++ [O.ins 2 []])).bind _) = _
  rw [List.append_nil, rn0, bind_ok]
theorem Cr.re (C : Cr a s h) (f : Fr none h h') (cls : ∀ t, V s' t → (V s t ∧ a' t = a t ∧ (t ≠ .D → Ob a' s' t = Ob a s t)) ∨ (h.length ≤ a' t ∧ t ≠ .D ∧ h'[a' t]? = some (Ob a' s' t)))
    (newI : ∀ t u, V s' t → V s' u → h.length ≤ a' t → h.length ≤ a' u → a' t = a' u → t = u) (gx : a' .X = a .X ∧ a' .D = a .D) : Cr a' s' h' := by
  refine ⟨fun t u p q e => ?_, fun t v n => ?_, ?_, by rw [gx.1, gx.2]; exact C.gx⟩
  · rcases cls t p with ⟨v1, e1, _⟩ | ⟨l1, _⟩
    · have := C.lt v1
      rcases cls u q with ⟨v2, e2, _⟩ | ⟨l2, _⟩
      · rw [e1, e2] at e; exact C.inj _ _ v1 v2 e
      · omega
    · rcases cls u q with ⟨v2, e2, _⟩ | ⟨l2, _⟩
      · have := C.lt v2
        omega
      · exact newI t u p q l1 l2 e
  · rcases cls t v with ⟨v1, e1, o1⟩ | ⟨l1, _, o1⟩
    · rw [e1, o1 n]; exact f.getN (C.at_ t v1 n)
    · exact o1
  · rcases cls .D trivial with ⟨v1, e1, _⟩ | ⟨_, n, _⟩
    · obtain ⟨p, q, r, e⟩ := C.dice
      exact ⟨p, q, r, by rw [e1]; exact f.getN e⟩
    · exact absurd rfl n
def newA (a : Tg → Nat) (n : Nat) : Tg → Nat := upA (upA a .S n) .Td (n + 1)
def newS (s : St) : St := { s with ms := [], pt := 0, tk := false }
theorem newA_S : newA a n .S = n := by unfold newA; rw [upA_ne (by simp), upA_eq]
theorem newA_T : newA a n .Td = n + 1 := by unfold newA; rw [upA_eq]
theorem newA_ne (h1 : t ≠ .S) (h2 : t ≠ .Td) : newA a n t = a t := by unfold newA; rw [upA_ne h2, upA_ne h1]
theorem new_cr (C : Cr a s h) : Cr (newA a h.length) (newS s) (h ++ [.ins 2 (shO (h.length + 1)), .dct []]) := by
  refine C.re Fr.app (fun t v => ?_) (fun t u p q l1 l2 e => ?_) ⟨newA_ne (by simp) (by simp), newA_ne (by simp) (by simp)⟩
  · cases t with
    | S =>
      right
      rw [newA_S]
      refine ⟨Nat.le_refl _, by simp, ?_⟩
      rw [get_new]
      simp only [Ob, newS, newA_T]
    | Td =>
      right
      rw [newA_T]
      refine ⟨by omega, by simp, ?_⟩
      rw [List.getElem?_append_right (by omega)]
      simp [Ob, newS, dk, kvO]
    | T y => exact absurd v (by show ¬ y ∈ ([] : List Str); simp)
    | W y => exact absurd v (by show ¬ y ∈ ([] : List Str); simp)
    | O =>
      left
      have e : (fun y => D.ref (newA a h.length (.R y))) = fun y => .ref (a (.R y)) := funext fun y => by rw [newA_ne (by simp) (by simp)]
      exact ⟨v, newA_ne (by simp) (by simp), fun _ => by simp only [Ob, newS, e]⟩
    | R y => exact .inl ⟨v, newA_ne (by simp) (by simp), fun _ => by simp only [Ob, newS]; rw [newA_ne (by simp) (by simp)]⟩
    | L y => exact .inl ⟨v, newA_ne (by simp) (by simp), fun _ => rfl⟩
    | D => exact .inl ⟨trivial, newA_ne (by simp) (by simp), fun z => absurd rfl z⟩
    | SZ =>
      left
      have e : (fun y => D.ref (newA a h.length (.SL y))) = fun y => .ref (a (.SL y)) := funext fun y => by rw [newA_ne (by simp) (by simp)]
      exact ⟨v, newA_ne (by simp) (by simp), fun _ => by simp only [Ob, newS, e]⟩
    | SL y => exact .inl ⟨v, newA_ne (by simp) (by simp), fun _ => rfl⟩
    | SV => exact .inl ⟨v, newA_ne (by simp) (by simp), fun _ => rfl⟩
    | MN => exact .inl ⟨v, newA_ne (by simp) (by simp), fun _ => rfl⟩
    | X => exact .inl ⟨v, newA_ne (by simp) (by simp), fun _ => by simp only [Ob, newS]; rw [newA_ne (by simp) (by simp)]⟩
  · have k : ∀ t, V (newS s) t → h.length ≤ newA a h.length t → t = .S ∨ t = .Td := fun t v l => by
      by_cases q1 : t = .S
      · exact .inl q1
      · by_cases q2 : t = .Td
        · exact .inr q2
        · rw [newA_ne q1 q2] at l
          have vs : V s t := by cases t <;> first | exact v | exact absurd v (by show ¬ _ ∈ ([] : List Str); simp)
          have := C.lt vs
          omega
    rcases k t p l1 with rfl | rfl <;> rcases k u q l2 with rfl | rfl
    · rfl
    · rw [newA_S, newA_T] at e; omega
    · rw [newA_S, newA_T] at e; omega
    · rfl
/-- three dicts for what is served -/
def dicA (a : Tg → Nat) (n : Nat) : Tg → Nat := upA (upA (upA a .SZ n) .SV (n + 1)) .MN (n + 2)
def dicS (s : St) : St := { s with zs := [], vs := [], two := true }
theorem dicA_1 : dicA a n .SZ = n := by unfold dicA; rw [upA_ne (by simp), upA_ne (by simp), upA_eq]
theorem dicA_2 : dicA a n .SV = n + 1 := by unfold dicA; rw [upA_ne (by simp), upA_eq]
theorem dicA_3 : dicA a n .MN = n + 2 := by unfold dicA; rw [upA_eq]
theorem dicA_ne (h1 : t ≠ .SZ) (h2 : t ≠ .SV) (h3 : t ≠ .MN) : dicA a n t = a t := by unfold dicA; rw [upA_ne h3, upA_ne h2, upA_ne h1]
theorem dic_cr (C : Cr a s h) (h2 : s.two = false) : Cr (dicA a h.length) (dicS s) (h ++ [.dct [], .dct [], .dct []]) := by
  refine C.re Fr.app (fun t v => ?_) (fun t u p q l1 l2 e => ?_) ⟨dicA_ne (by simp) (by simp) (by simp), dicA_ne (by simp) (by simp) (by simp)⟩
  · cases t with
    | S => exact .inl ⟨v, dicA_ne (by simp) (by simp) (by simp), fun _ => by simp only [Ob, dicS]; rw [dicA_ne (by simp) (by simp) (by simp)]⟩
    | Td =>
      left
      have e : (fun y => D.ref (dicA a h.length (.T y))) = fun y => .ref (a (.T y)) := funext fun y => by rw [dicA_ne (by simp) (by simp) (by simp)]
      exact ⟨trivial, dicA_ne (by simp) (by simp) (by simp), fun _ => by simp only [Ob, dicS, e]⟩
    | T y => exact .inl ⟨v, dicA_ne (by simp) (by simp) (by simp), fun _ => by simp only [Ob, dicS]; rw [dicA_ne (by simp) (by simp) (by simp)]⟩
    | W y => exact .inl ⟨v, dicA_ne (by simp) (by simp) (by simp), fun _ => rfl⟩
    | O =>
      left
      have e : (fun y => D.ref (dicA a h.length (.R y))) = fun y => .ref (a (.R y)) := funext fun y => by rw [dicA_ne (by simp) (by simp) (by simp)]
      exact ⟨.inr h2, dicA_ne (by simp) (by simp) (by simp), fun _ => by simp only [Ob, dicS, e]⟩
    | R y => exact .inl ⟨v, dicA_ne (by simp) (by simp) (by simp), fun _ => by simp only [Ob, dicS]; rw [dicA_ne (by simp) (by simp) (by simp)]⟩
    | L y => exact .inl ⟨v, dicA_ne (by simp) (by simp) (by simp), fun _ => rfl⟩
    | D => exact .inl ⟨trivial, dicA_ne (by simp) (by simp) (by simp), fun z => absurd rfl z⟩
    | SZ =>
      right
      rw [dicA_1]
      refine ⟨Nat.le_refl _, by simp, ?_⟩
      rw [get_new]
      rfl
    | SV =>
      right
      rw [dicA_2]
      refine ⟨by omega, by simp, ?_⟩
      rw [List.getElem?_append_right (by omega)]
      simp [Ob, dicS, kvO]
    | MN =>
      right
      rw [dicA_3]
      refine ⟨by omega, by simp, ?_⟩
      rw [List.getElem?_append_right (by omega)]
      simp [Ob, dicS, kvO]
    | SL y => exact absurd v (by show ¬ y ∈ ([] : List Str); simp)
    | X => exact .inl ⟨v, dicA_ne (by simp) (by simp) (by simp), fun _ => by simp only [Ob, dicS]; rw [dicA_ne (by simp) (by simp) (by simp)]⟩
  · have k : ∀ t, V (dicS s) t → h.length ≤ dicA a h.length t → t = .SZ ∨ t = .SV ∨ t = .MN := fun t v l => by
      by_cases q1 : t = .SZ
      · exact .inl q1
      · by_cases q2 : t = .SV
        · exact .inr (.inl q2)
        · by_cases q3 : t = .MN
          · exact .inr (.inr q3)
          · rw [dicA_ne q1 q2 q3] at l
            have vs : V s t := by cases t <;> first | exact v | exact .inr h2 | exact absurd v (by show ¬ _ ∈ ([] : List Str); simp) | exact absurd rfl q1 | exact absurd rfl q2 | exact absurd rfl q3
            have := C.lt vs
            omega
    rcases k t p l1 with rfl | rfl | rfl <;> rcases k u q l2 with rfl | rfl | rfl <;> first | rfl | (simp only [dicA_1, dicA_2, dicA_3] at e; omega)
/-- the first things -/
def iniA (n d xl : Nat) : Tg → Nat := fun t => if t = .S then n else if t = .Td then n + 1 else if t = .O then n + 2 else if t = .X then xl else d
def iniS : St := ⟨0, fun _ => 1, fun _ => 0, fun _ => [], fun _ => 0, fun _ => [], fun _ => [], fun _ => 0, fun _ => 0, [], [], [], [], false, false, false⟩
theorem ini_cr {d xl : Nat} (hd : Di h d) (hx : h[xl]? = some (.lst [.ref d])) (nx : d ≠ xl) (gx : xl = Gh.x ∧ d = Gh.d) : Cr (iniA h.length d xl) iniS (h ++ [.ins 2 (shO (h.length + 1)), .dct [], .dct []]) ∧ Wf iniS := by
  have ld : d < h.length := by obtain ⟨_, _, _, e⟩ := hd; exact lt_of_get e
  have lx : xl < h.length := lt_of_get hx
  have a1 : iniA h.length d xl .S = h.length := rfl
  have a2 : iniA h.length d xl .Td = h.length + 1 := rfl
  have a3 : iniA h.length d xl .O = h.length + 2 := rfl
  have a4 : iniA h.length d xl .D = d := rfl
  have a5 : iniA h.length d xl .X = xl := rfl
  have k : ∀ t, V iniS t → t = .S ∨ t = .Td ∨ t = .O ∨ t = .D ∨ t = .X := fun t v => by
    cases t with
    | S => exact .inl rfl
    | Td => exact .inr (.inl rfl)
    | O => exact .inr (.inr (.inl rfl))
    | D => exact .inr (.inr (.inr (.inl rfl)))
    | X => exact .inr (.inr (.inr (.inr rfl)))
    | T y => exact absurd v (by show ¬ y ∈ ([] : List Str); simp)
    | W y => exact absurd v (by show ¬ y ∈ ([] : List Str); simp)
    | R y => exact absurd v (by show ¬ y ∈ ([] : List Str); simp)
    | L y => exact absurd v (by show ¬ y ∈ ([] : List Str); simp)
    | SL y => exact absurd v (by show ¬ y ∈ ([] : List Str); simp)
    | SZ => exact absurd v (by show ¬ (false = true); simp)
    | SV => exact absurd v (by show ¬ (false = true); simp)
    | MN => exact absurd v (by show ¬ (false = true); simp)
  refine ⟨⟨fun t u p q e => ?_, fun t v n => ?_, ?_, gx⟩, ⟨rfl, rfl, rfl, fun x hx => (by cases hx), by decide, rfl, rfl, rfl⟩⟩
  · rcases k t p with rfl | rfl | rfl | rfl | rfl <;> rcases k u q with rfl | rfl | rfl | rfl | rfl <;> first | rfl | (simp only [a1, a2, a3, a4, a5] at e; omega)
  · rcases k t v with rfl | rfl | rfl | rfl | rfl
    · rw [a1, get_new]; rfl
    · rw [a2, List.getElem?_append_right (by omega)]
      simp [Ob, iniS, dk, kvO]
    · rw [a3, List.getElem?_append_right (by omega)]
      simp [Ob, iniS, dk, kvO]
    · exact absurd rfl n
    · rw [a5]
      exact get_app hx
  · rw [a4]
    obtain ⟨p, q, r, e⟩ := hd
    exact ⟨p, q, r, get_app e⟩
end
end K23
end

section
set_option Elab.async false
set_option linter.all false
set_option maxRecDepth 100000
set_option maxHeartbeats 2000000
namespace DD
open PySem L2
theorem unp3 {i j k : Nat} {a b c : D} {τ : SL} {h : AH} : tupG ([i, j, k].map nameG) (.tup [a, b, c]) τ h = .nx (((τ.set i (some a)).set j (some b)).set k (some c)) h := Eq.trans rfl rfl
end DD
namespace K23
open PySem L2 DD
structure Sw (a : Tg → Nat) (τ : SL) : Prop where
  len : τ.length = 25
  d : Sl τ 1 (.ref (a .D))
  ow : Sl τ 9 (.ref (a .O))
  sh : Sl τ 13 (.ref (a .S))
  sz : Sl τ 14 (.ref (a .SZ))
  sv : Sl τ 15 (.ref (a .SV))
  mn : Sl τ 16 (.ref (a .MN))
theorem Sw.set {a : Tg → Nat} {τ : SL} {j : Nat} {o : Option D} (v : Sw a τ) (hj : j ≠ 1 ∧ j ≠ 9 ∧ j ≠ 13 ∧ j ≠ 14 ∧ j ≠ 15 ∧ j ≠ 16) : Sw a (τ.set j o) :=
  ⟨len_set v.len, v.d.set hj.1, v.ow.set hj.2.1, v.sh.set hj.2.2.1, v.sz.set hj.2.2.2.1, v.sv.set hj.2.2.2.2.1, v.mn.set hj.2.2.2.2.2⟩
theorem Sw.mono {a a' : Tg → Nat} {τ : SL} (v : Sw a τ) (h : a' .D = a .D ∧ a' .O = a .O ∧ a' .S = a .S ∧ a' .SZ = a .SZ ∧ a' .SV = a .SV ∧ a' .MN = a .MN) : Sw a' τ :=
  ⟨v.len, by rw [h.1]; exact v.d, by rw [h.2.1]; exact v.ow, by rw [h.2.2.1]; exact v.sh, by rw [h.2.2.2.1]; exact v.sz, by rw [h.2.2.2.2.1]; exact v.sv, by rw [h.2.2.2.2.2]; exact v.mn⟩
section
variable {a a' : Tg → Nat} {s s' : St} {h h' h2 : AH} {t u : Tg} {x y : Str} {o : O} {i n m : Nat} {τ τ' : SL} {p : Int} [Gh]
theorem kvO_len (l : List Str) (f : Str → D) : (kvO l f).length = l.length := by unfold kvO; rw [List.length_map]
/-- two things are written -/
theorem Cr.wr2 (C : Cr a s h) {t1 t2 : Tg} {o1 o2 : O} (v1 : V s t1) (v2 : V s t2) (n1 : t1 ≠ .D) (n2 : t2 ≠ .D) (n12 : t1 ≠ t2) (hV : ∀ u, V s' u → V s u) (e1 : Ob a s' t1 = o1) (e2 : Ob a s' t2 = o2) (hs : ∀ u, V s' u → u ≠ t1 → u ≠ t2 → u ≠ .D → Ob a s' u = Ob a s u) :
    Cr a s' ((h.set (a t1) o1).set (a t2) o2) := by
  have ne : a t2 ≠ a t1 := fun z => n12 (C.inj _ _ v2 v1 z).symm
  refine ⟨fun t u p q e => C.inj t u (hV _ p) (hV _ q) e, fun u vu nu => ?_, ?_, C.gx⟩
  · by_cases q2 : u = t2
    · subst q2; rw [get_set (by rw [List.length_set]; exact C.lt v2), e2]
    · rw [get_set_ne (fun z => q2 (C.inj _ _ v2 (hV _ vu) z).symm)]
      by_cases q1 : u = t1
      · subst q1; rw [get_set (C.lt v1), e1]
      · rw [get_set_ne (fun z => q1 (C.inj _ _ v1 (hV _ vu) z).symm), hs u vu q1 q2 nu]
        exact C.at_ u (hV _ vu) nu
  · obtain ⟨p, q, r, e⟩ := C.dice
    exact ⟨p, q, r, by rw [get_set_ne (fun z => n2 (C.inj _ _ v2 (show V s .D from trivial) z)), get_set_ne (fun z => n1 (C.inj _ _ v1 (show V s .D from trivial) z))]; exact e⟩
/-- forty sizes are drawn -/
theorem sizes_run (C : Cr a s h) (v : Sw a τ) : ∃ (l : List Int) (h' : AH), lcQ (cM (.int 40)) rngIt1 (nameG 4) none (binM (cM (.int 1)) (callM (consM (varM 1) (consM (cM (.int 20)) nilM)) (callF 2 [] (R__law_roll 5))) addM) [4] τ h = .ok (.ref h.length) h' ∧
    l.length = 40 ∧ (∀ z ∈ l, 1 ≤ z ∧ z ≤ 20) ∧ h'[h.length]? = some (.lst (l.map D.int)) ∧ Fr (some (a .D)) h h' ∧ Di h' (a .D) := by
  have ld : a .D < h.length := C.lt (show V s .D from trivial)
  have ln : ∀ k : Nat, (wipeD τ [4]).set 4 (some (.int (k : Int))) = (τ.set 4 none).set 4 (some (.int (k : Int))) := fun k => rfl
  have s1 : ∀ k : Nat, Sl ((τ.set 4 none).set 4 (some (.int (k : Int)))) 1 (.ref (a .D)) := fun k => (v.d.set (by decide)).set (by decide)
  obtain ⟨acc', h', b1, l, rfl, b2, b3, b4, b5, b6⟩ := lc_inv (β := Nat) (φ := fun (k : Nat) => D.int (k : Int)) (mc := none) (me := binM (cM (.int 1)) (callM (consM (varM 1) (consM (cM (.int 20)) nilM)) (callF 2 [] (R__law_roll 5))) addM) (own := [4]) (τ := τ) (j := 4) (l := h.length) (live := fun _ => true)
    (fun r acc hh => ∃ l : List Int, acc = l.map D.int ∧ l.length + r.length = 40 ∧ (∀ z ∈ l, 1 ≤ z ∧ z ≤ 20) ∧ hh[h.length]? = some (.lst (l.map D.int)) ∧ Fr (some (a .D)) h hh ∧ Cr a s hh) (fun _ _ _ _ => rfl)
    (fun k r acc hh P => by
      obtain ⟨l, rfl, e1, e2, e3, e4, C1⟩ := P
      obtain ⟨w, h3, d1, d2, C3, d3⟩ := rollC (e := cM (.int 20)) (many := 20) C1 (s1 k) cM_e (by decide) (by decide)
      have g3 : h3[h.length]? = some (.lst (l.map D.int)) := d3.1.get e3 (by intro z; injection z with z; omega)
      simp only [List.length_cons] at e1
      refine ⟨true, hh, rfl, fun z => (by cases z), fun _ => ⟨.int (1 + (w : Int)), h3, ?_, g3, by rw [List.length_map]; omega, l ++ [1 + (w : Int)], by simp, by simp; omega, fun z hz => ?_, ?_, (e4.trans d3.1).setN (Nat.le_refl _), ?_⟩⟩
      · rw [ln, binM_e, cM_e, bind_ok, d1, bind_ok, add_ii]
      · rcases List.mem_append.mp hz with q | q
        · exact e2 z q
        · rw [List.mem_singleton.mp q]; omega
      · rw [get_set (lt_of_get g3)]; simp
      · refine ⟨C3.inj, fun t vt nt => ?_, ?_, C3.gx⟩
        · have := C.lt vt
          rw [get_set_ne (by omega)]
          exact C3.at_ t vt nt
        · obtain ⟨p, q, r, e⟩ := C3.dice
          exact ⟨p, q, r, by rw [get_set_ne (by omega)]; exact e⟩) (List.range 40) [] (h ++ [.lst []]) ⟨[], rfl, by simp, fun z hz => (by cases hz), by rw [get_new]; rfl, Fr.app, C.app⟩
  refine ⟨l, h', ?_, by simpa using b2, b3, b4, b5, b6.dice⟩
  refine lcQ_of (h1 := h) cM_e (rng1_e (j := 40) (by decide)) ?_
  rw [rngL_nat]
  exact b1
/-- .. and kept under a name -/
theorem Ob_sz {l : List Int} {zs : List Str} (e1 : t ≠ .SL x) (e2 : t ≠ .SZ) : Ob (upA a (.SL x) m) { s with zs := zs, sz := up s.sz x l } t = Ob a s t := by
  cases t with
  | S => simp only [Ob]; rw [upA_ne (by simp)]
  | Td =>
    have e : (fun y => D.ref (upA a (.SL x) m (.T y))) = fun y => .ref (a (.T y)) := funext fun y => by rw [upA_ne (by simp)]
    simp only [Ob, e]
  | T y => simp only [Ob]; rw [upA_ne (by simp)]
  | W y => rfl
  | O =>
    have e : (fun y => D.ref (upA a (.SL x) m (.R y))) = fun y => .ref (a (.R y)) := funext fun y => by rw [upA_ne (by simp)]
    simp only [Ob, e]
  | R y => simp only [Ob]; rw [upA_ne (by simp)]
  | L y => rfl
  | D => rfl
  | SZ => exact absurd rfl e2
  | SL y =>
    have q : y ≠ x := fun z => e1 (by rw [z])
    simp only [Ob]
    rw [up_ne q]
  | SV => rfl
  | MN => rfl
  | X => simp only [Ob]; rw [upA_ne (by simp)]
theorem sz_add {l : List Int} (C : Cr a s h) (h2 : s.two = true) (hx : x ∉ s.zs) (few : s.zs.length < 1000) (hm : h.length ≤ m) (f : Fr (some (a .D)) h h') (dice : Di h' (a .D)) (e : h'[m]? = some (.lst (l.map D.int))) :
    setDF (.ref (a .SZ)) (.str x) (.ref m) h' = some (h'.set (a .SZ) (.dct (kvO (s.zs ++ [x]) fun y => .ref (upA a (.SL x) m (.SL y))))) ∧ Cr (upA a (.SL x) m) { s with zs := s.zs ++ [x], sz := up s.sz x l } (h'.set (a .SZ) (.dct (kvO (s.zs ++ [x]) fun y => .ref (upA a (.SL x) m (.SL y))))) := by
  have lo : a .SZ < h.length := C.lt (show V s .SZ from h2)
  have nod : a .SZ ≠ a .D := fun z => absurd (C.inj _ _ (show V s .SZ from h2) (show V s .D from trivial) z) (by simp)
  have eo : h'[a .SZ]? = some (.dct (kvO s.zs fun y => .ref (a (.SL y)))) := f.get (C.at_ .SZ h2 (by simp)) (by intro z; injection z with z; exact nod z)
  have lf : (kvO s.zs fun y => D.ref (a (.SL y))).length < sizeLine := by rw [kvO_len, sizeLine_eq]; omega
  have back : ∀ t, V { s with zs := s.zs ++ [x], sz := up s.sz x l } t → t ≠ .SL x → V s t := fun t v e1 => by
    cases t <;> try exact v
    have v : _ ∈ s.zs ++ [x] := v
    rcases List.mem_append.mp v with v | v
    · exact v
    · exact absurd (by rw [List.mem_singleton.mp v]) e1
  refine ⟨?_, ?_⟩
  · simp only [setDF, eo, keyD, lf, ↓reduceIte]
    rw [put_new (g := fun y => .ref (upA a (.SL x) m (.SL y))) hx (fun y hy => by rw [upA_ne (by intro z; injection z with z; exact hx (z ▸ hy))]) (by rw [upA_eq])]
  · have old : ∀ t, V s t → upA a (.SL x) m t = a t := fun t v => upA_ne (fun z => by subst z; exact hx v)
    refine C.grow old (fun t v => ?_) (fun t u vt vu lt lu e => ?_) (fun t v nt => ?_) ?_
    · by_cases q : t = .SL x
      · subst q; right; rw [upA_eq]; exact hm
      · exact .inl (back t v q)
    · have cls : ∀ t, V { s with zs := s.zs ++ [x], sz := up s.sz x l } t → h.length ≤ upA a (.SL x) m t → t = .SL x := fun t v l => by
        by_cases q : t = .SL x
        · exact q
        · exfalso
          have vs := back t v q
          rw [old t vs] at l
          have := C.lt vs
          omega
      rw [cls t vt lt, cls u vu lu]
    · by_cases q : t = .SL x
      · subst q
        rw [upA_eq, get_set_ne (by omega), e]
        simp only [Ob, up_eq]
      · have vs := back t v q
        by_cases q3 : t = .SZ
        · subst q3
          rw [upA_ne (by simp), get_set (lt_of_get eo)]
          rfl
        · rw [old t vs, get_set_ne (fun z => q3 (C.inj _ _ (show V s .SZ from h2) vs z).symm), f.get (C.at_ t vs nt) (by intro z; injection z with z; exact nt (C.inj _ _ vs (show V s .D from trivial) z))]
          exact congrArg some (Ob_sz q q3).symm
    · rw [upA_ne (by simp)]
      obtain ⟨p, q, r, e⟩ := dice
      exact ⟨p, q, r, by rw [get_set_ne nod]; exact e⟩
/-- what is served, counted anew or on -/
theorem sv_set {v w : Int} {vs : List Str} {kv1 kv2 : List (Key × D)} (C : Cr a s h) (h2 : s.two = true) (few : s.vs.length < 1000) (e1 : putKD (kvO s.vs fun y => .int (s.sv y)) (.inr x) (.int v) = kvO vs fun y => .int (up s.sv x v y)) (e2 : putKD (kvO s.vs fun y => .int (s.mn y)) (.inr x) (.int w) = kvO vs fun y => .int (up s.mn x w y))
    (v2 : Sw a τ) (s6 : Sl τ 6 (.str x)) : ∃ h', tupX [(subG (varM 15) (varM 6) setDF), (subG (varM 16) (varM 6) setDF)] (.tup [.int v, .int w]) τ h = .nx τ h' ∧ Cr a { s with vs := vs, sv := up s.sv x v, mn := up s.mn x w } h' := by
  have ne : a .SV ≠ a .MN := fun z => absurd (C.inj _ _ (show V s .SV from h2) (show V s .MN from h2) z) (by simp)
  have g1 : h[a .SV]? = some (.dct (kvO s.vs fun y => .int (s.sv y))) := C.at_ .SV h2 (by simp)
  have g2 : (h.set (a .SV) (.dct (kvO vs fun y => .int (up s.sv x v y))))[a .MN]? = some (.dct (kvO s.vs fun y => .int (s.mn y))) := by
    rw [get_set_ne ne]; exact C.at_ .MN h2 (by simp)
  have l1 : (kvO s.vs fun y => D.int (s.sv y)).length < sizeLine := by rw [kvO_len, sizeLine_eq]; omega
  have l2 : (kvO s.vs fun y => D.int (s.mn y)).length < sizeLine := by rw [kvO_len, sizeLine_eq]; omega
  have k1 : setDF (.ref (a .SV)) (.str x) (.int v) h = some (h.set (a .SV) (.dct (kvO vs fun y => .int (up s.sv x v y)))) := by
    simp only [setDF, g1, keyD, l1, ↓reduceIte, e1]
  have k2 : setDF (.ref (a .MN)) (.str x) (.int w) (h.set (a .SV) (.dct (kvO vs fun y => .int (up s.sv x v y)))) = some ((h.set (a .SV) (.dct (kvO vs fun y => .int (up s.sv x v y)))).set (a .MN) (.dct (kvO vs fun y => .int (up s.mn x w y)))) := by
    simp only [setDF, g2, keyD, l2, ↓reduceIte, e2]
  refine ⟨_, ?_, C.wr2 (t1 := .SV) (t2 := .MN) h2 h2 (by simp) (by simp) (by simp) (fun u v => by cases u <;> exact v) rfl rfl (fun u _ n1 n2 _ => ?_)⟩
  · rw [tupX2, subG_e, varM_at v2.sv, toS_ok, varM_at s6, toS_ok, k1]
    simp only []
    rw [sbind_nx, subG_e, varM_at v2.mn, toS_ok, varM_at s6, toS_ok, k2]
    simp only []
    rw [sbind_nx]
    rfl
  · cases u <;> first | rfl | exact absurd rfl n1 | exact absurd rfl n2
end
end K23
end

section
set_option Elab.async false
set_option linter.all false
set_option maxRecDepth 100000
set_option maxHeartbeats 2000000
namespace K23
open PySem L2 DD
def zr (z : Int) : Int × Int := (z, 0)
/-- what holds of the names whose work is laid -/
structure Full (s : St) (x : Str) : Prop where
  l40 : (s.sz x).length = 40
  bd : ∀ z ∈ s.sz x, 1 ≤ z ∧ z ≤ 20
  ws : s.ws x = (s.sz x).map zr
  q : s.q x = 0
  sv : s.sv x = 0
  mn : s.mn x = 0
/-- while the work is laid: the names done -/
structure Wb (s : St) (done : List Str) : Prop where
  ms : s.ms = done
  zs : s.zs = done
  vs : s.vs = done
  pt : s.pt = 0
  two : s.two = true
  tk : s.tk = false
  ok : s.ok = true
  full : ∀ x ∈ done, Full s x
section
variable {a a' : Tg → Nat} {s s' : St} {h h' h2 : AH} {t u : Tg} {x y : Str} {o : O} {i n m : Nat} {τ τ' : SL} {p : Int} {done : List Str} [Gh]
theorem f2_run {z : Int} (C : Cr a s h) (v : Sw a τ) (s6 : Sl τ 6 (.str x)) (s17 : Sl τ 17 (.int z)) (hx : x ∈ s.ms) (h1 : 1 ≤ z) (few : (s.ws x).length < 1000) : ∃ h', law_f2b τ h = .nx τ h' ∧ Cr a (putS s x z 0) h' := by
  obtain ⟨h', d1, C1⟩ := put_run (sz := z) (b := 0) C hx h1 few
  refine ⟨h', ?_, C1⟩
  unfold law_f2b
  rw [exprM_e, meth_S C (varM_at v.sh), consM_e, varM_at s6, bindL_ok, consM_e, varM_at s17, bindL_ok, consM_e, cM_e, bindL_ok, nilM_e, lbind_ok, lbind_ok, lbind_ok, bindE_ok]
  show EO.toS (F_Shares_put ([.ref _, .str x, .int z, .int 0] ++ []) h) _ _ = _
  rw [List.append_nil, d1, toS_ok]
/-- the forty works of a name -/
theorem works_run (C : Cr a s h) (v : Sw a τ) (s6 : Sl τ 6 (.str x)) (hx : x ∈ s.ms) (hz : x ∈ s.zs) (h2 : s.two = true) (hq : s.q x = 0) (hp : s.pt = 0) (hw : s.ws x = []) (l40 : (s.sz x).length = 40) (bd : ∀ z ∈ s.sz x, 1 ≤ z ∧ z ≤ 20) :
    ∃ h' s' τ', DD.forM (binM (varM 14) (varM 6) dgetM) lstIt (nameG 17) law_f2b τ h = .nx τ' h' ∧ Cr a s' h' ∧ Sw a τ' ∧ s' = { s with ws := up s.ws x ((s.sz x).map zr) } := by
  have e : h[a (.SL x)]? = some (.lst ((s.sz x).map D.int)) := C.at_ (.SL x) hz (by simp)
  have same : ∀ {β : Type} (f : Str → β), up f x (f x) = f := fun f => by
    funext y
    unfold up
    split
    · rename_i q; rw [q]
    · rfl
  rw [forM_e, binM_e, varM_at v.sz, bind_ok, varM_at s6, bind_ok, get_SZ C h2 hz, toS_ok, lstIt_e e]
  simp only []
  obtain ⟨τ', h', b1, dn, e1, C', v', _⟩ := for_on (φ := D.int) (j := 17) (b := law_f2b) (live := isLst (a (.SL x)) ((s.sz x).map D.int))
    (P := fun r τ h => ∃ dn, s.sz x = dn ++ r ∧ Cr a { s with ws := up s.ws x (dn.map zr) } h ∧ Sw a τ ∧ Sl τ 6 (.str x)) (fun r τ h P => by
      obtain ⟨dn, _, C, _⟩ := P
      exact isLst_mk (C.at_ (.SL x) hz (by simp))) (fun z r τ h P => by
      obtain ⟨dn, e1, C1, v1, q6⟩ := P
      have zb := bd z (by rw [e1]; simp)
      have ld : dn.length ≤ 40 := by rw [← l40, e1]; simp
      obtain ⟨h', d1, C2⟩ := f2_run C1 (v1.set (j := 17) (o := some (.int z)) (by decide)) (q6.set (by decide)) (Sl.new (by rw [v1.len]; decide)) hx zb.1 (by
        show (up s.ws x (dn.map zr) x).length < 1000
        rw [up_eq, List.length_map]; omega)
      refine ⟨τ.set 17 (some (.int z)), h', .inl d1, dn ++ [z], by rw [e1]; simp, ?_, v1.set (by decide), q6.set (by decide)⟩
      have es : putS { s with ws := up s.ws x (dn.map zr) } x z 0 = { s with ws := up s.ws x ((dn ++ [z]).map zr) } := by
        unfold putS
        have q1 : up s.q x (if up s.ws x (dn.map zr) x = [] then max (s.q x) s.pt else s.q x) = s.q := by
          have : (if up s.ws x (dn.map zr) x = [] then max (s.q x) s.pt else s.q x) = s.q x := by
            split
            · rw [hq, hp]; rfl
            · rfl
          rw [this, same]
        have q2 : up (up s.ws x (dn.map zr)) x (up s.ws x (dn.map zr) x ++ [(z, 0)]) = up s.ws x ((dn ++ [z]).map zr) := by
          funext y
          rw [up_eq, List.map_append]
          unfold up
          split <;> rfl
        show St.mk _ _ (up s.q x _) (up (up s.ws x (dn.map zr)) x _) _ _ _ _ _ _ _ _ _ _ _ _ = _
        rw [q1, q2]
      rw [es] at C2
      exact C2) (s.sz x) τ h ⟨[], rfl, by rw [List.map_nil, ← hw, same]; exact C, v, s6⟩
  rw [List.append_nil] at e1
  rw [← e1] at C'
  exact ⟨h', _, τ', b1, C', v', rfl⟩
theorem up_keep {β : Type} {f : Str → β} {b : β} (h : y ≠ x) : up f x b y = f y := up_ne h
/-- the work of one more name -/
theorem f3_run (C : Cr a s h) (w : Wb s done) (v : Sw a τ) (s6 : Sl τ 6 (.str x)) (hx : x ∈ s.ns) (hd : x ∉ done) (few : done.length ≤ 4) (hw : ∀ y ∈ s.ns, 1 ≤ s.w y ∧ s.w y ≤ 10) :
    ∃ a' h' s' τ', law_f3b τ h = .nx τ' h' ∧ Cr a' s' h' ∧ Wb s' (done ++ [x]) ∧ Sw a' τ' ∧ s'.ns = s.ns ∧ s'.w = s.w ∧ a' .O = a .O := by
  -- a tenant
  obtain ⟨h1, d1, C1, l1⟩ := add_run (x := x) C (by rw [w.ms]; exact hd) w.tk (hw x hx) (by rw [w.ms]; omega)
  have e1 : exprM (methF "add" 2 3 [] F_Shares_add (varM 13) (consM (varM 6) (consM (binM (binM (varM 9) (varM 6) dgetM) (cM (.str "weight")) dgetM) nilM))) τ h = .nx τ h1 := by
    rw [exprM_e, meth_S C (varM_at v.sh), consM_e, varM_at s6, bindL_ok, consM_e, binM_e, binM_e, varM_at v.ow, bind_ok, varM_at s6, bind_ok, get_R C hx, bind_ok, cM_e, bind_ok, get_Rw C hx, bindL_ok, nilM_e, lbind_ok, lbind_ok, bindE_ok]
    show EO.toS (F_Shares_add ([.ref _, .str x, .int (s.w x)] ++ []) h) _ _ = _
    rw [List.append_nil, d1, toS_ok]
  have v1 : Sw (addA a x h.length) τ := v.mono ⟨addA_ne (by simp) (by simp), addA_ne (by simp) (by simp), addA_ne (by simp) (by simp), addA_ne (by simp) (by simp), addA_ne (by simp) (by simp), addA_ne (by simp) (by simp)⟩
  have k1 : addA a x h.length .O = a .O := addA_ne (by simp) (by simp)
  generalize addA a x h.length = a1 at *
  -- its sizes
  obtain ⟨l, h2, b1, b2, b3, b4, b5, b6⟩ := sizes_run C1 v1
  obtain ⟨c1, C2⟩ := sz_add (l := l) C1 w.two (show x ∉ s.zs by rw [w.zs]; exact hd) (show s.zs.length < 1000 by rw [w.zs]; omega) (Nat.le_refl _) b5 b6 b4
  have e2 : asgM (lcQ (cM (.int 40)) rngIt1 (nameG 4) none (binM (cM (.int 1)) (callM (consM (varM 1) (consM (cM (.int 20)) nilM)) (callF 2 [] (R__law_roll 5))) addM) [4]) (subG (varM 14) (varM 6) setDF) τ h1 = .nx τ (h2.set (a1 .SZ) (.dct (kvO (s.zs ++ [x]) fun y => .ref (upA a1 (.SL x) h1.length (.SL y))))) := by
    rw [asgM_e, b1, toS_ok, subG_e, varM_at v1.sz, toS_ok, varM_at s6, toS_ok]
    show (match setDF _ _ _ _ with | some h3 => SO.nx τ h3 | none => .bad) = _
    rw [c1]
    rfl
  generalize hh3 : h2.set (a1 .SZ) (.dct (kvO (s.zs ++ [x]) fun y => .ref (upA a1 (.SL x) h1.length (.SL y)))) = h3 at *
  have C2 : Cr (upA a1 (.SL x) h1.length) { addS s x with zs := s.zs ++ [x], sz := up s.sz x l } h3 := by
    rw [← hh3]; exact C2
  have v2 : Sw (upA a1 (.SL x) h1.length) τ := v1.mono ⟨upA_ne (by simp), upA_ne (by simp), upA_ne (by simp), upA_ne (by simp), upA_ne (by simp), upA_ne (by simp)⟩
  have k2 : upA a1 (.SL x) h1.length .O = a1 .O := upA_ne (by simp)
  generalize upA a1 (.SL x) h1.length = a2 at *
  -- nothing is served yet
  have hv : x ∉ s.vs := by rw [w.vs]; exact hd
  obtain ⟨h4, f1, C3⟩ := sv_set (v := 0) (w := 0) (vs := s.vs ++ [x]) (kv1 := []) (kv2 := []) (x := x) C2 w.two (show s.vs.length < 1000 by rw [w.vs]; omega)
    (put_new hv (fun y hy => by show D.int (up s.sv x 0 y) = _; rw [up_ne (fun z => hv (by rw [← z]; exact hy))]; rfl) (by show D.int (up s.sv x 0 x) = _; rw [up_eq]))
    (put_new hv (fun y hy => by show D.int (up s.mn x 0 y) = _; rw [up_ne (fun z => hv (by rw [← z]; exact hy))]; rfl) (by show D.int (up s.mn x 0 x) = _; rw [up_eq])) v2 s6
  have e3 : asgM (tupM (consM (cM (.int 0)) (consM (cM (.int 0)) nilM))) (tupX [(subG (varM 15) (varM 6) setDF), (subG (varM 16) (varM 6) setDF)]) τ h3 = .nx τ h4 := by
    rw [asgM_e, tupM_e, consM_e, cM_e, bindL_ok, consM_e, cM_e, bindL_ok, nilM_e, lbind_ok, lbind_ok, bindE_ok, if_pos len2, toS_ok, f1]
  -- the works
  obtain ⟨h5, s5, τ5, g1, C4, v4, rfl⟩ := works_run (x := x) C3 v2 s6 (show x ∈ s.ms ++ [x] by simp) (show x ∈ s.zs ++ [x] by simp) w.two (show up s.q x 0 x = 0 from up_eq) w.pt (show up s.ws x [] x = [] from up_eq) (show (up s.sz x l x).length = 40 by rw [up_eq]; exact b2) (show ∀ z ∈ up s.sz x l x, 1 ≤ z ∧ z ≤ 20 by rw [up_eq]; exact b3)
  refine ⟨a2, h5, _, τ5, ?_, C4, ⟨?_, ?_, ?_, w.pt, w.two, w.tk, w.ok, fun y hy => ?_⟩, v4, rfl, rfl, k2.trans k1⟩
  · unfold law_f3b
    rw [seqM_e, e1, sbind_nx, seqM_e, e2, sbind_nx, seqM_e, e3, sbind_nx]
    exact g1
  · show s.ms ++ [x] = _; rw [w.ms]
  · show s.zs ++ [x] = _; rw [w.zs]
  · show s.vs ++ [x] = _; rw [w.vs]
  · by_cases q : y = x
    · subst q
      exact ⟨by show (up s.sz y l y).length = 40; rw [up_eq]; exact b2, by show ∀ z ∈ up s.sz y l y, _; rw [up_eq]; exact b3, by show up (up s.ws y []) y _ y = _; rw [up_eq], by show up s.q y 0 y = 0; exact up_eq, by show up s.sv y 0 y = 0; exact up_eq, by show up s.mn y 0 y = 0; exact up_eq⟩
    · have hy' : y ∈ done := by
        rcases List.mem_append.mp hy with z | z
        · exact z
        · exact absurd (List.mem_singleton.mp z) q
      have F := w.full y hy'
      exact ⟨by show (up s.sz x l y).length = 40; rw [up_ne q]; exact F.l40, by show ∀ z ∈ up s.sz x l y, _; rw [up_ne q]; exact F.bd, by show up (up s.ws x []) x _ y = (up s.sz x l y).map zr; rw [up_ne q, up_ne q, up_ne q]; exact F.ws, by show up s.q x 0 y = 0; rw [up_ne q]; exact F.q, by show up s.sv x 0 y = 0; rw [up_ne q]; exact F.sv, by show up s.mn x 0 y = 0; rw [up_ne q]; exact F.mn⟩
end
end K23
end

section
set_option Elab.async false
set_option linter.all false
set_option maxRecDepth 100000
set_option maxHeartbeats 2000000
namespace K23
open PySem L2 DD
theorem okT {s : St} (h : s.ok = true) : { ({ s with ok := false } : St) with ok := true } = s := by
  cases s
  simp only at h
  subst h
  rfl
section
variable {a a' : Tg → Nat} {s s' : St} {h h' h2 : AH} {t u : Tg} {x y : Str} {o : O} {i n m : Nat} {τ τ' : SL} {p : Int} {done : List Str} {pk : SL → AH → Option Nat} {sm : SM} [Gh]
theorem lock_oA (C : Cr a s h) (vo : V s .O) (vo' : V s' .O) (hk : s.ok = false) (hp : pk τ h = some (a .O)) (e : sm τ (h.set (a .O) (.fdct (kvR a s))) = .nx τ' h2) (C2 : Cr a' { s' with ok := true } h2) (ea : a' .O = a .O) (hk' : s'.ok = false) :
    lockS pk sm τ h = .nx τ' (h2.set (a' .O) (.dct (kvR a' s'))) ∧ Cr a' s' (h2.set (a' .O) (.dct (kvR a' s'))) := by
  have td2 : h2[a' .O]? = some (.fdct (kvR a' s')) := C2.at_ .O vo' (by simp)
  refine ⟨?_, lockO_out C2 vo' hk'⟩
  rw [ea] at td2 ⊢
  simp only [lockS, hp, at_O C vo hk, e, unlS, td2]
theorem build_run (C : Cr a s h) (ne : s.ns ≠ []) (v : Sw a τ) (w : Wb { s with ok := true } []) (hk : s.ok = false) (few : s.ns.length ≤ 4) (nd : s.ns.Nodup) (hw : ∀ y ∈ s.ns, 1 ≤ s.w y ∧ s.w y ≤ 10) :
    ∃ a' h' s' τ', lockS (refOf (varM 9)) (DD.forM (varM 9) fkIt (nameG 6) law_f3b) τ h = .nx τ' h' ∧ Cr a' s' h' ∧ Wb { s' with ok := true } s.ns ∧ s'.ok = false ∧ Sw a' τ' ∧ s'.ns = s.ns ∧ s'.w = s.w := by
  have C1 := lockO_in C (.inl ne)
  obtain ⟨τ', h2, b1, dn, a1, s1, e1, C2, w2, v2, ea, en, ew⟩ := for_on (φ := D.str) (j := 6) (b := law_f3b) (live := fun _ => true)
    (P := fun r τ h => ∃ dn a1 s1, s.ns = dn ++ r ∧ Cr a1 s1 h ∧ Wb s1 dn ∧ Sw a1 τ ∧ a1 .O = a .O ∧ s1.ns = s.ns ∧ s1.w = s.w) (fun _ _ _ _ => rfl) (fun x r τ h P => by
      obtain ⟨dn, a1, s1, e1, C1, w1, v1, ea, en, ew⟩ := P
      have hx : x ∈ s1.ns := by rw [en, e1]; simp
      have hd : x ∉ dn := fun z => by
        rw [e1] at nd
        exact (List.nodup_append.mp nd).2.2 _ z _ List.mem_cons_self rfl
      have l4 : dn.length ≤ 4 := by
        have : s.ns.length = dn.length + (x :: r).length := by rw [e1, List.length_append]
        omega
      obtain ⟨a', h', s', τ', f1, f2, f3, f4, f5, f6, f7⟩ := f3_run C1 w1 (v1.set (j := 6) (o := some (.str x)) (by decide)) (Sl.new (by rw [v1.len]; decide)) hx hd l4 (by rw [en, ew]; exact hw)
      exact ⟨τ', h', .inl f1, dn ++ [x], a', s', by rw [e1]; simp, f2, f3, f4, f7.trans ea, f5.trans en, f6.trans ew⟩) s.ns τ (h.set (a .O) (.fdct (kvR a s))) ⟨[], a, { s with ok := true }, rfl, C1, w, v, rfl, rfl, rfl⟩
  rw [List.append_nil] at e1
  have hp : refOf (varM 9) τ h = some (a .O) := ref9 v.ow
  have e : DD.forM (varM 9) fkIt (nameG 6) law_f3b τ (h.set (a .O) (.fdct (kvR a s))) = .nx τ' h2 := by
    rw [forM_e, varM_at v.ow, toS_ok, fk_kv (C1.at_ .O (.inl ne) (by simp))]
    exact b1
  have w3 : Wb { ({ s1 with ok := false } : St) with ok := true } dn := by rw [okT w2.ok]; exact w2
  obtain ⟨c1, c2⟩ := lock_oA (s' := { s1 with ok := false }) C (.inl ne) (.inl (by show s1.ns ≠ []; rw [en]; exact ne)) hk hp e (by rw [okT w2.ok]; exact C2) ea rfl
  exact ⟨a1, _, { s1 with ok := false }, τ', c1, c2, by rw [e1]; exact w3, rfl, v2, en, ew⟩
end
end K23
end

section
set_option Elab.async false
set_option linter.all false
set_option maxRecDepth 100000
set_option maxHeartbeats 2000000
namespace K23
open PySem L2 DD
theorem arg_least {bt : Nat → Nat → Bool} {f : Nat → Int} (h1 : ∀ i j, bt i j = true → f i ≤ f j) (h2 : ∀ i j, bt i j = false → f j ≤ f i) : ∀ m i, i ≤ m → f (argBest bt m) ≤ f i
  | 0, i, h => by rw [Nat.le_zero.mp h]; exact Int.le_refl _
  | m + 1, i, h => by
    have ih := arg_least h1 h2 m
    simp only [argBest]
    cases e : bt (m + 1) (argBest bt m) with
    | true =>
      simp only [↓reduceIte]
      by_cases q : i = m + 1
      · rw [q]; exact Int.le_refl _
      · exact Int.le_trans (h1 _ _ e) (ih i (by omega))
    | false =>
      simp only [Bool.false_eq_true, ↓reduceIte]
      by_cases q : i = m + 1
      · rw [q]; exact h2 _ _ e
      · exact ih i (by omega)
theorem isLt_t {p q : Int × Str} (h : isLt p q = true) : p.1 ≤ q.1 := by
  unfold isLt pairD at h
  rw [PySem.W.dataLt_pair rfl rfl] at h
  cases e : PyData.eqv (.int p.1) (.int q.1) with
  | true =>
    have : p.1 = q.1 := by simpa [PyData.eqv] using e
    omega
  | false =>
    rw [e] at h
    simp only [Bool.false_eq_true, ↓reduceIte, PySem.W.dataLt_int, decide_eq_true_eq] at h
    omega
theorem isLt_f {p q : Int × Str} (h : isLt p q = false) : q.1 ≤ p.1 := by
  unfold isLt pairD at h
  rw [PySem.W.dataLt_pair rfl rfl] at h
  cases e : PyData.eqv (.int p.1) (.int q.1) with
  | true =>
    have : p.1 = q.1 := by simpa [PyData.eqv] using e
    omega
  | false =>
    rw [e] at h
    simp only [Bool.false_eq_true, ↓reduceIte, PySem.W.dataLt_int, decide_eq_false_iff_not] at h
    omega
theorem best_least {l : List (Int × Str)} {i : Nat} {p q : Int × Str} (hp : l[best l]? = some p) (hq : l[i]? = some q) : p.1 ≤ q.1 := by
  cases l with
  | nil => simp at hq
  | cons k ks =>
    have li : i < (k :: ks).length := (List.getElem?_eq_some_iff.mp hq).1
    have z := arg_least (bt := fun i j => isLt ((k :: ks).getD i k) ((k :: ks).getD j k)) (f := fun i => ((k :: ks).getD i k).1) (fun i j e => isLt_t e) (fun i j e => isLt_f e) ks.length i (by simp at li; omega)
    have e1 : (k :: ks).getD (argBest (fun i j => isLt ((k :: ks).getD i k) ((k :: ks).getD j k)) ks.length) k = p := by
      rw [List.getD_eq_getElem?_getD]
      have : (k :: ks)[argBest (fun i j => isLt ((k :: ks).getD i k) ((k :: ks).getD j k)) ks.length]? = some p := hp
      rw [this]
      rfl
    have e2 : (k :: ks).getD i k = q := by
      rw [List.getD_eq_getElem?_getD, hq]
      rfl
    simp only [e1, e2] at z
    exact z
theorem pick_least {ms : List Str} {ws : Str → List (Int × Int)} {q : Str → Int} {x : Str} (hx : x ∈ ms) (hw : ws x ≠ []) : q (pick ms ws q) ≤ q x := by
  have hr : x ∈ ready ms ws := by
    unfold ready
    rw [List.mem_filter]
    exact ⟨hx, by simpa using hw⟩
  have ne : ready ms ws ≠ [] := fun z => by rw [z] at hr; cases hr
  have e1 : (keysR (ready ms ws) q)[best (keysR (ready ms ws) q)]? = some (q (pick ms ws q), pick ms ws q) := keys_at ne
  obtain ⟨i, hi⟩ := List.getElem?_of_mem hr
  have e2 : (keysR (ready ms ws) q)[i]? = some (q x, x) := by
    unfold keysR
    rw [List.getElem?_map, hi]
    rfl
  exact best_least e1 e2
theorem div_ex {v z w : Int} (h : 1 ≤ w ∧ w ≤ 10) : (v + z) * 5040 / w = v * 5040 / w + z * 5040 / w := by
  have : w = 1 ∨ w = 2 ∨ w = 3 ∨ w = 4 ∨ w = 5 ∨ w = 6 ∨ w = 7 ∨ w = 8 ∨ w = 9 ∨ w = 10 := by omega
  rcases this with rfl | rfl | rfl | rfl | rfl | rfl | rfl | rfl | rfl | rfl <;> omega
theorem div_mono {z m w : Int} (h : 1 ≤ w) (e : z ≤ m) : z * 5040 / w ≤ m * 5040 / w := Int.ediv_le_ediv (by omega) (by omega)
theorem div_nn {m w : Int} (h : 1 ≤ w) (e : 0 ≤ m) : 0 ≤ m * 5040 / w := Int.ediv_nonneg (by omega) (by omega)
/-- while there is always work -/
structure Tn (s : St) (n : Nat) : Prop where
  ms : s.ms = s.ns
  zs : s.zs = s.ns
  vs : s.vs = s.ns
  two : s.two = true
  tk : s.tk = false
  ok : s.ok = false
  few : s.ns.length ≤ 4
  ne : s.ns ≠ []
  wt : ∀ x ∈ s.ns, 1 ≤ s.w x ∧ s.w x ≤ 10
  l40 : ∀ x ∈ s.ns, (s.sz x).length = 40
  bd : ∀ x ∈ s.ns, ∀ z ∈ s.sz x, 1 ≤ z ∧ z ≤ 20
  ws : ∀ x ∈ s.ns, ∃ c : Nat, c ≤ n ∧ s.ws x = ((s.sz x).drop c).map zr ∧ s.mn x = c
  q : ∀ x ∈ s.ns, s.q x = s.sv x * 5040 / s.w x
  gap : ∀ x ∈ s.ns, ∀ y ∈ s.ns, s.q x ≤ s.q y + maxI (s.sz x) * 5040 / s.w x
theorem max_nn {l : List Int} (h40 : l.length = 40) (bd : ∀ z ∈ l, 1 ≤ z ∧ z ≤ 20) : 1 ≤ maxI l ∧ ∀ z ∈ l, z ≤ maxI l := by
  have ne : l ≠ [] := fun z => by rw [z] at h40; cases h40
  obtain ⟨m, g⟩ := maxI_is ne
  exact ⟨(bd _ m).1, g⟩
theorem Tn.of {s : St} (w : Wb { s with ok := true } s.ns) (hk : s.ok = false) (few : s.ns.length ≤ 4) (ne : s.ns ≠ []) (wt : ∀ x ∈ s.ns, 1 ≤ s.w x ∧ s.w x ≤ 10) : Tn s 0 := by
  have F := w.full
  refine ⟨w.ms, w.zs, w.vs, w.two, w.tk, hk, few, ne, wt, fun x hx => (F x hx).l40, fun x hx => (F x hx).bd, fun x hx => ⟨0, Nat.le_refl _, (F x hx).ws, (F x hx).mn⟩, fun x hx => ?_, fun x hx y hy => ?_⟩
  · have a : s.q x = 0 := (F x hx).q
    have b : s.sv x = 0 := (F x hx).sv
    rw [a, b]; simp
  · have a : s.q x = 0 := (F x hx).q
    have b : s.q y = 0 := (F y hy).q
    rw [a, b]
    have g40 : (s.sz x).length = 40 := (F x hx).l40
    have gb : ∀ z ∈ s.sz x, 1 ≤ z ∧ z ≤ 20 := (F x hx).bd
    have := div_nn (wt x hx).1 (Int.le_trans (by decide) (max_nn g40 gb).1)
    omega
/-- one turn: what it is after -/
def srvS (s : St) (x : Str) (z : Int) (rest : List (Int × Int)) : St := { nextS s x z rest with sv := up s.sv x (s.sv x + z), mn := up s.mn x (s.mn x + 1) }
theorem Tn.head {s : St} {n : Nat} (T : Tn s n) (hn : n < 40) : ready s.ms s.ws ≠ [] ∧ ∀ x ∈ s.ns, s.ws x ≠ [] := by
  have k : ∀ x ∈ s.ns, s.ws x ≠ [] := fun x hx z => by
    obtain ⟨c, l, e, _⟩ := T.ws x hx
    have h40 := T.l40 x hx
    rw [z] at e
    have := congrArg List.length e
    rw [List.length_map, List.length_drop] at this
    simp only [List.length_nil] at this
    omega
  refine ⟨fun z => ?_, k⟩
  cases hns : s.ns with
  | nil => exact T.ne hns
  | cons x r =>
    have hx : x ∈ s.ns := by rw [hns]; simp
    have : x ∈ ready s.ms s.ws := by
      unfold ready
      rw [List.mem_filter, T.ms]
      exact ⟨hx, by simpa using k x hx⟩
    rw [z] at this
    cases this
theorem Tn.next {s : St} {n : Nat} (T : Tn s n) (hn : n < 40) {x : Str} (hx : x ∈ s.ns) (ex : pick s.ms s.ws s.q = x) : ∃ z rest, s.ws x = (z, 0) :: rest ∧ Tn (srvS s x z rest) (n + 1) := by
  obtain ⟨c, l, e, m⟩ := T.ws x hx
  have h40 := T.l40 x hx
  have lc : c < (s.sz x).length := by omega
  have e2 : s.ws x = ((s.sz x)[c], 0) :: ((s.sz x).drop (c + 1)).map zr := by
    rw [e, List.drop_eq_getElem_cons lc, List.map_cons]; rfl
  have hz : (s.sz x)[c] ∈ s.sz x := List.getElem_mem lc
  generalize hzz : (s.sz x)[c] = z at *
  have zb := T.bd x hx z hz
  have zm := (max_nn (T.l40 x hx) (T.bd x hx)).2 z hz
  have wx := T.wt x hx
  refine ⟨z, _, e2, T.ms, T.zs, T.vs, T.two, T.tk, T.ok, T.few, T.ne, T.wt, T.l40, T.bd, fun y hy => ?_, fun y hy => ?_, fun y hy u hu => ?_⟩
  · show ∃ c' : Nat, c' ≤ n + 1 ∧ up s.ws x _ y = ((s.sz y).drop c').map zr ∧ up s.mn x (s.mn x + 1) y = c'
    by_cases q : y = x
    · subst q
      exact ⟨c + 1, by omega, by rw [up_eq], by rw [up_eq, m]; rfl⟩
    · obtain ⟨c', l', e', m'⟩ := T.ws y hy
      exact ⟨c', by omega, by rw [up_ne q]; exact e', by rw [up_ne q]; exact m'⟩
  · show up s.q x (s.q x + z * 5040 / s.w x) y = up s.sv x (s.sv x + z) y * 5040 / s.w y
    by_cases q : y = x
    · subst q
      rw [up_eq, up_eq, div_ex wx, T.q y hx]
    · rw [up_ne q, up_ne q]; exact T.q y hy
  · show up s.q x (s.q x + z * 5040 / s.w x) y ≤ up s.q x (s.q x + z * 5040 / s.w x) u + maxI (s.sz y) * 5040 / s.w y
    have n1 := div_nn wx.1 (show 0 ≤ z by omega)
    have n2 := div_mono wx.1 zm
    have n3 := div_nn (T.wt y hy).1 (Int.le_trans (by decide) (max_nn (T.l40 y hy) (T.bd y hy)).1)
    by_cases q : y = x
    · subst q
      by_cases q2 : u = y
      · subst q2
        omega
      · rw [up_eq, up_ne q2]
        have : s.q y ≤ s.q u := by
          have := pick_least (ms := s.ms) (ws := s.ws) (q := s.q) (x := u) (by rw [T.ms]; exact hu) ((T.head hn).2 u hu)
          rw [ex] at this
          exact this
        omega
    · rw [up_ne q]
      have g := T.gap y hy u hu
      by_cases q2 : u = x
      · subst q2
        rw [up_eq]
        omega
      · rw [up_ne q2]; exact g
end K23
end

section
set_option Elab.async false
set_option linter.all false
set_option maxRecDepth 100000
set_option maxHeartbeats 2000000
namespace K23
open PySem L2 DD
theorem intsOf_map (l : List Int) : intsOf (l.map D.int) = some l := by
  induction l with
  | nil => rfl
  | cons x r ih => simp only [List.map_cons, intsOf, ih, Option.map_some]
section
variable {a a' : Tg → Nat} {s s' : St} {h h' h2 : AH} {t u : Tg} {x y : Str} {o : O} {i n m : Nat} {τ τ' : SL} {p : Int} [Gh]
/-- two are held against each other -/
theorem f4_run (C : Cr a { s with ok := true } h) (T : Tn s n) (v : Sw a τ) (s18 : Sl τ 18 (.str x)) (s22 : Sl τ 22 (.str y)) (hx : x ∈ s.ns) (hy : y ∈ s.ns) : ∃ τ', law_f4b τ h = .nx τ' h ∧ Sw a τ' ∧ Sl τ' 18 (.str x) := by
  have ex : x ∈ s.zs := by rw [T.zs]; exact hx
  have ey : y ∈ s.zs := by rw [T.zs]; exact hy
  have fx : x ∈ s.vs := by rw [T.vs]; exact hx
  have fy : y ∈ s.vs := by rw [T.vs]; exact hy
  have cm : ∀ z : Int, CMb' z 5040 = true := fun z => cmb_r (by decide)
  have cd : ∀ x ∈ s.ns, ∀ z, CDb z (s.w x) = true := fun x hx z => by
    have := T.wt x hx
    unfold CDb
    simp only [Bool.and_eq_true, decide_eq_true_eq]
    omega
  have R : ∀ x ∈ s.ns, dgetM (.ref (a .O)) (.str x) h = .ok (.ref (a (.R x))) h := fun x hx => by have := get_R C (x := x) hx; exact this
  have Rw : ∀ x ∈ s.ns, dgetM (.ref (a (.R x))) (.str "weight") h = .ok (.int (s.w x)) h := fun x hx => by have := get_Rw C (x := x) hx; exact this
  have SV : ∀ x ∈ s.ns, dgetM (.ref (a .SV)) (.str x) h = .ok (.int (s.sv x)) h := fun x hx => by have := get_SV C (x := x) T.two (show x ∈ s.vs by rw [T.vs]; exact hx); exact this
  have MN : ∀ x ∈ s.ns, dgetM (.ref (a .MN)) (.str x) h = .ok (.int (s.mn x)) h := fun x hx => by have := get_MN C (x := x) T.two (show x ∈ s.vs by rw [T.vs]; exact hx); exact this
  have SZ : ∀ x ∈ s.ns, dgetM (.ref (a .SZ)) (.str x) h = .ok (.ref (a (.SL x))) h := fun x hx => get_SZ C T.two (show x ∈ s.zs by rw [T.zs]; exact hx)
  have MX : ∀ x ∈ s.ns, maxLF [.ref (a (.SL x))] h = .ok (.int (maxI (s.sz x))) h := fun x hx => by
    have e : h[a (.SL x)]? = some (.lst ((s.sz x).map D.int)) := C.at_ (.SL x) (show x ∈ s.zs by rw [T.zs]; exact hx) (by simp)
    have ne : s.sz x ≠ [] := fun z => by have := T.l40 x hx; rw [z] at this; cases this
    show exI maxI h _ = _
    unfold exI
    rw [e]
    simp only [intsOf_map]
    rw [if_neg ne]
  have e23 : setM 23 (binM (binM (binM (binM (varM 15) (varM 18) dgetM) (cM (.int 5040)) mulM) (binM (binM (varM 9) (varM 18) dgetM) (cM (.str "weight")) dgetM) fdivM) (binM (binM (binM (varM 15) (varM 22) dgetM) (cM (.int 5040)) mulM) (binM (binM (varM 9) (varM 22) dgetM) (cM (.str "weight")) dgetM) fdivM) subM) τ h = .nx (τ.set 23 (some (.int (s.q x - s.q y)))) h := by
    rw [setM_e, binM_e, binM_e, binM_e, binM_e, varM_at v.sv, bind_ok, varM_at s18, bind_ok, SV x hx, bind_ok, cM_e, bind_ok, mul_ii, if_pos (cm _), bind_ok, binM_e, binM_e, varM_at v.ow, bind_ok, varM_at s18, bind_ok, R x hx, bind_ok, cM_e, bind_ok, Rw x hx, bind_ok, fdiv_ii, if_pos (cd x hx _), bind_ok]
    rw [binM_e, binM_e, binM_e, varM_at v.sv, bind_ok, varM_at s22, bind_ok, SV y hy, bind_ok, cM_e, bind_ok, mul_ii, if_pos (cm _), bind_ok, binM_e, binM_e, varM_at v.ow, bind_ok, varM_at s22, bind_ok, R y hy, bind_ok, cM_e, bind_ok, Rw y hy, bind_ok, fdiv_ii, if_pos (cd y hy _), bind_ok, sub_ii, toS_ok, ← T.q x hx, ← T.q y hy]
  have v2 := v.set (j := 23) (o := some (.int (s.q x - s.q y))) (by decide)
  have q18 : Sl (τ.set 23 (some (.int (s.q x - s.q y)))) 18 (.str x) := s18.set (by decide)
  have q22 : Sl (τ.set 23 (some (.int (s.q x - s.q y)))) 22 (.str y) := s22.set (by decide)
  have q23 : Sl (τ.set 23 (some (.int (s.q x - s.q y)))) 23 (.int (s.q x - s.q y)) := Sl.new (by rw [v.len]; decide)
  generalize τ.set 23 (some (.int (s.q x - s.q y))) = τ2 at *
  refine ⟨τ2, ?_, v2, q18⟩
  have big : decide (maxI (s.sz x) * 5040 / s.w x + maxI (s.sz y) * 5040 / s.w y + s.mn x + s.mn y + 2 < s.q x - s.q y) = false := by
    have g := T.gap x hx y hy
    have n3 := div_nn (T.wt y hy).1 (Int.le_trans (by decide) (max_nn (T.l40 y hy) (T.bd y hy)).1)
    obtain ⟨c1, _, _, m1⟩ := T.ws x hx
    obtain ⟨c2, _, _, m2⟩ := T.ws y hy
    rw [decide_eq_false_iff_not]
    omega
  have MXe : ∀ (k : Nat) (x : Str), x ∈ s.ns → Sl τ2 k (.str x) → callM (consM (binM (varM 14) (varM k) dgetM) nilM) maxLF τ2 h = .ok (.int (maxI (s.sz x))) h := fun k x hx sk => by
    rw [callM_e, consM_e, binM_e, varM_at v2.sz, bind_ok, varM_at sk, bind_ok, SZ x hx, bindL_ok, nilM_e, lbind_ok, bindE_ok, MX x hx]
  unfold law_f4b
  rw [seqM_e, e23, sbind_nx, ifSM_e, binM_e, varM_at q23, bind_ok]
  rw [binM_e, binM_e, binM_e, binM_e, binM_e, binM_e, MXe 18 x hx q18, bind_ok, cM_e, bind_ok, mul_ii, if_pos (cm _), bind_ok, binM_e, binM_e, varM_at v2.ow, bind_ok, varM_at q18, bind_ok, R x hx, bind_ok, cM_e, bind_ok, Rw x hx, bind_ok, fdiv_ii, if_pos (cd x hx _), bind_ok]
  rw [binM_e, binM_e, MXe 22 y hy q22, bind_ok, cM_e, bind_ok, mul_ii, if_pos (cm _), bind_ok, binM_e, binM_e, varM_at v2.ow, bind_ok, varM_at q22, bind_ok, R y hy, bind_ok, cM_e, bind_ok, Rw y hy, bind_ok, fdiv_ii, if_pos (cd y hy _), bind_ok, add_ii, bind_ok]
  rw [binM_e, varM_at v2.mn, bind_ok, varM_at q18, bind_ok, MN x hx, bind_ok, add_ii, bind_ok, binM_e, varM_at v2.mn, bind_ok, varM_at q22, bind_ok, MN y hy, bind_ok, add_ii, bind_ok, cM_e, bind_ok, add_ii, bind_ok, gt_ii, big, toS_ok]
  rfl
theorem f5_run (C : Cr a { s with ok := true } h) (T : Tn s n) (v : Sw a τ) (s18 : Sl τ 18 (.str x)) (hx : x ∈ s.ns) : ∃ τ', law_f5b τ h = .nx τ' h ∧ Sw a τ' := by
  have eO : h[a .O]? = some (.fdct (kvR a s)) := C.at_ .O (.inl T.ne) (by simp)
  obtain ⟨τ', h2, b1, dn, e1, C2, v2, _, rfl⟩ := for_on (φ := D.str) (j := 22) (b := law_f4b) (live := fun _ => true)
    (P := fun r τ h1 => ∃ dn, s.ns = dn ++ r ∧ Cr a { s with ok := true } h1 ∧ Sw a τ ∧ Sl τ 18 (.str x) ∧ h1 = h) (fun _ _ _ _ => rfl) (fun y r τ h1 P => by
      obtain ⟨dn, e1, C1, v1, q, rfl⟩ := P
      obtain ⟨τ', f1, f2, f3⟩ := f4_run (y := y) C1 T (v1.set (j := 22) (o := some (.str y)) (by decide)) (q.set (by decide)) (Sl.new (by rw [v1.len]; decide)) hx (by rw [e1]; simp)
      exact ⟨τ', _, .inl f1, dn ++ [y], by rw [e1]; simp, C1, f2, f3, rfl⟩) s.ns τ h ⟨[], rfl, C, v, s18, rfl⟩
  refine ⟨τ', ?_, v2⟩
  have e : DD.forM (varM 9) fkIt (nameG 22) law_f4b τ h2 = .nx τ' h2 := by
    rw [forM_e, varM_at v.ow, toS_ok, fk_kv eO]
    exact b1
  have hp : refOf (varM 9) τ h2 = some (a .O) := ref9 v.ow
  unfold law_f5b
  simp only [lockS, hp, eO, e]
theorem cmp_run (C : Cr a s h) (T : Tn s n) (v : Sw a τ) : ∃ τ' h', lockS (refOf (varM 9)) (DD.forM (varM 9) fkIt (nameG 18) (law_f5b)) τ h = .nx τ' h' ∧ Cr a s h' ∧ Sw a τ' := by
  have C1 := lockO_in C (.inl T.ne)
  obtain ⟨τ', h2, b1, dn, e1, C2, v2⟩ := for_on (φ := D.str) (j := 18) (b := law_f5b) (live := fun _ => true)
    (P := fun r τ h1 => ∃ dn, s.ns = dn ++ r ∧ Cr a { s with ok := true } h1 ∧ Sw a τ) (fun _ _ _ _ => rfl) (fun y r τ h1 P => by
      obtain ⟨dn, e1, C1, v1⟩ := P
      obtain ⟨τ', f1, f2⟩ := f5_run (x := y) C1 T (v1.set (j := 18) (o := some (.str y)) (by decide)) (Sl.new (by rw [v1.len]; decide)) (by rw [e1]; simp)
      exact ⟨τ', _, .inl f1, dn ++ [y], by rw [e1]; simp, C1, f2⟩) s.ns τ (h.set (a .O) (.fdct (kvR a s))) ⟨[], rfl, C1, v⟩
  have e : DD.forM (varM 9) fkIt (nameG 18) law_f5b τ (h.set (a .O) (.fdct (kvR a s))) = .nx τ' h2 := by
    rw [forM_e, varM_at v.ow, toS_ok, fk_kv (C1.at_ .O (.inl T.ne) (by simp))]
    exact b1
  obtain ⟨c1, c2⟩ := lock_oS (s' := s) C (.inl T.ne) (.inl T.ne) T.ok (ref9 v.ow) e C2 rfl T.ok
  exact ⟨τ', _, c1, c2, v2⟩
/-- a turn -/
theorem f6_run (C : Cr a s h) (T : Tn s n) (hn : n < 40) (v : Sw a τ) : ∃ τ' h' s', law_f6b τ h = .nx τ' h' ∧ Cr a s' h' ∧ Tn s' (n + 1) ∧ Sw a τ' := by
  obtain ⟨hr, hw⟩ := T.head hn
  obtain ⟨hm, _⟩ := pick_mem (q := s.q) hr
  have hx : pick s.ms s.ws s.q ∈ s.ns := by rw [← T.ms]; exact hm
  obtain ⟨z, rest, hq, T2⟩ := T.next hn hx rfl
  obtain ⟨h1, d1, C1, _⟩ := next_some C T.tk (by rw [T.ms]; have := T.few; omega) hr (by rw [T.ms]; exact T.wt) hq
  generalize pick s.ms s.ws s.q = x at *
  have e6 : asgM (methF "next_work" 2 1 [] F_Shares_next_work (varM 13) nilM) (tupG ([6, 17, 21].map nameG)) τ h = .nx (((τ.set 6 (some (.str x))).set 17 (some (.int z))).set 21 (some (.int 0))) h1 := by
    rw [asgM_e, meth_S C (varM_at v.sh), nilM_e, bindE_ok]
    show EO.toS (F_Shares_next_work ([.ref _] ++ []) h) _ _ = _
    rw [List.append_nil, d1, toS_ok, unp3]
  have v2 : Sw a (((τ.set 6 (some (.str x))).set 17 (some (.int z))).set 21 (some (.int 0))) := ((v.set (by decide)).set (by decide)).set (by decide)
  have q6 : Sl (((τ.set 6 (some (.str x))).set 17 (some (.int z))).set 21 (some (.int 0))) 6 (.str x) := ((Sl.new (by rw [v.len]; decide)).set (by decide)).set (by decide)
  have q17 : Sl (((τ.set 6 (some (.str x))).set 17 (some (.int z))).set 21 (some (.int 0))) 17 (.int z) := (Sl.new (by rw [len_set v.len]; decide)).set (by decide)
  generalize ((τ.set 6 (some (.str x))).set 17 (some (.int z))).set 21 (some (.int 0)) = τ2 at *
  have hv : x ∈ s.vs := by rw [T.vs]; exact hx
  have lv : s.vs.length < 1000 := by rw [T.vs]; have := T.few; omega
  have g1 : dgetM (.ref (a .SV)) (.str x) h1 = .ok (.int (s.sv x)) h1 := by have := get_SV C1 (x := x) T.two hv; exact this
  have g2 : dgetM (.ref (a .MN)) (.str x) h1 = .ok (.int (s.mn x)) h1 := by have := get_MN C1 (x := x) T.two hv; exact this
  obtain ⟨h3, f1, C3⟩ := sv_set (v := s.sv x + z) (w := s.mn x + 1) (vs := s.vs) (kv1 := []) (kv2 := []) (x := x) C1 T.two lv
    (put_old hv (fun y hy ny => by show D.int (up s.sv x _ y) = _; rw [up_ne ny]; rfl) (by show D.int (up s.sv x _ x) = _; rw [up_eq]))
    (put_old hv (fun y hy ny => by show D.int (up s.mn x _ y) = _; rw [up_ne ny]; rfl) (by show D.int (up s.mn x _ x) = _; rw [up_eq])) v2 q6
  have e7 : asgM (tupM (consM (binM (binM (varM 15) (varM 6) dgetM) (varM 17) addM) (consM (binM (binM (varM 16) (varM 6) dgetM) (cM (.int 1)) addM) nilM))) (tupX [(subG (varM 15) (varM 6) setDF), (subG (varM 16) (varM 6) setDF)]) τ2 h1 = .nx τ2 h3 := by
    rw [asgM_e, tupM_e, consM_e, binM_e, binM_e, varM_at v2.sv, bind_ok, varM_at q6, bind_ok, g1, bind_ok, varM_at q17, bind_ok, add_ii, bindL_ok, consM_e, binM_e, binM_e, varM_at v2.mn, bind_ok, varM_at q6, bind_ok, g2, bind_ok, cM_e, bind_ok, add_ii, bindL_ok, nilM_e, lbind_ok, lbind_ok, bindE_ok, if_pos len2, toS_ok, f1]
  obtain ⟨τ', h4, c1, c2, c3⟩ := cmp_run (s := srvS s x z rest) (n := n + 1) C3 T2 v2
  refine ⟨τ', h4, _, ?_, c2, T2, c3⟩
  unfold law_f6b
  rw [seqM_e, e6, sbind_nx, seqM_e, e7, sbind_nx]
  exact c1
theorem turns_run (C : Cr a s h) (T : Tn s 0) (v : Sw a τ) : ∃ τ' h' s', DD.forM (cM (.int 40)) rngIt1 (nameG 7) law_f6b τ h = .nx τ' h' ∧ Cr a s' h' ∧ s'.two = true ∧ Sw a τ' := by
  have e40 : DD.forM (cM (.int 40)) rngIt1 (nameG 7) law_f6b τ h = loopM (fun _ => true) (nameG 7) law_f6b (rngL 0 40) τ h := by
    have z : rngIt1 (.int 40) h = some (rngL 0 40, fun _ => true) := rng1_e (j := 40) (by decide)
    rw [forM_e, cM_e, toS_ok, z]
  obtain ⟨τ', h2, b1, s1, k, C2, T2, v2, _⟩ := for_on (φ := fun (k : Nat) => D.int (k : Int)) (j := 7) (b := law_f6b) (live := fun _ => true)
    (P := fun r τ h1 => ∃ s1 k, Cr a s1 h1 ∧ Tn s1 k ∧ Sw a τ ∧ k + r.length = 40) (fun _ _ _ _ => rfl) (fun y r τ h1 P => by
      obtain ⟨s1, k, C1, T1, v1, l⟩ := P
      simp only [List.length_cons] at l
      obtain ⟨τ', h', s', f1, f2, f3, f4⟩ := f6_run C1 T1 (by omega) (v1.set (j := 7) (o := some (.int (y : Int))) (by decide))
      exact ⟨τ', h', .inl f1, s', k + 1, f2, f3, f4, by omega⟩) (List.range 40) τ h ⟨s, 0, C, T, v, by simp⟩
  refine ⟨τ', h2, s1, ?_, C2, T2.two, v2⟩
  rw [e40, rngL_nat]
  exact b1
end
end K23
end

section
set_option Elab.async false
set_option linter.all false
set_option maxRecDepth 100000
set_option maxHeartbeats 2000000
namespace DD
open PySem L2
theorem unp4g {i j u w : Nat} {a b c d : D} {τ : SL} {h : AH} : tupG ([i, j, u, w].map nameG) (.tup [a, b, c, d]) τ h = .nx ((((τ.set i (some a)).set j (some b)).set u (some c)).set w (some d)) h := Eq.trans rfl rfl
theorem dnew_e {τ : SL} {h : AH} : dnewM τ h = .ok (.ref h.length) (h ++ [.dct []]) := Eq.trans rfl rfl
end DD
namespace K23
open PySem L2 DD
section
variable {a a' : Tg → Nat} {s s' : St} {h h' h2 : AH} {t u : Tg} {x y : Str} {o : O} {i n m : Nat} {τ τ' : SL} {p : Int} [Gh]
/-- the first half -/
theorem half1 {d xl : Nat} (hτ : τ.length = 25) (s1 : Sl τ 1 (.ref d)) (hd : Di h d) (hx : h[xl]? = some (.lst [.ref d])) (nx : d ≠ xl) (gx : xl = Gh.x ∧ d = Gh.d) : ∃ a h' s τ' p, asgM (tupM (consM (callM nilM (makeF 2 1 [] F_Shares_init)) (consM dnewM (consM (cM (.int 0)) (consM (cM (.int 0)) nilM))))) (tupG ([8, 9, 10, 11].map nameG)) τ h = .nx τ' h' ∧ Cr a s h' ∧ Wf s ∧ s.ns = [] ∧ Sv a p τ' ∧ s.pt = p ∧ ∀ y, (s.ws y).length = 0 := by
  obtain ⟨C, w⟩ := ini_cr hd hx nx gx
  refine ⟨_, _, _, (((τ.set 8 (some (.ref h.length))).set 9 (some (.ref (h.length + 2)))).set 10 (some (.int 0))).set 11 (some (.int 0)), 0, ?_, C, w, rfl, ?_, rfl, fun y => rfl⟩
  · have e9 : (h ++ [O.ins 2 (shO (h.length + 1)), O.dct []]).length = h.length + 2 := by simp
    rw [asgM_e, tupM_e, consM_e, callM_e, nilM_e, bindE_ok, shares_run, bindL_ok, consM_e, dnew_e, bindL_ok, consM_e, cM_e, bindL_ok, consM_e, cM_e, bindL_ok, nilM_e, lbind_ok, lbind_ok, lbind_ok, lbind_ok, bindE_ok, if_pos len4, toS_ok, unp4g, e9, List.append_assoc]
    rfl
  · refine ⟨by simp [hτ], ?_, ?_, ?_, ?_, 0, ?_⟩
    · exact (((s1.set (by decide)).set (by decide)).set (by decide)).set (by decide)
    · exact (((Sl.new (by omega)).set (by decide)).set (by decide)).set (by decide)
    · exact ((Sl.new (by rw [len_set hτ]; decide)).set (by decide)).set (by decide)
    · exact (Sl.new (by rw [len_set (len_set hτ)]; decide)).set (by decide)
    · exact Sl.new (by rw [len_set (len_set (len_set hτ))]; decide)
theorem half2 (C : Cr a s h) (w : Wf s) (v : Sv a p τ) : ∃ a' h' s' τ', asgM (tupM (consM (callM nilM (makeF 2 1 [] F_Shares_init)) (consM dnewM (consM dnewM (consM dnewM nilM))))) (tupG ([13, 14, 15, 16].map nameG)) τ h = .nx τ' h' ∧ Cr a' s' h' ∧ s' = dicS (newS s) ∧ Sw a' τ' := by
  have C1 := new_cr C
  have C2 := dic_cr C1 w.two
  have l2 : (h ++ [O.ins 2 (shO (h.length + 1)), O.dct []]).length = h.length + 2 := by simp
  rw [l2] at C2
  refine ⟨_, _, _, (((τ.set 13 (some (.ref h.length))).set 14 (some (.ref (h.length + 2)))).set 15 (some (.ref (h.length + 3)))).set 16 (some (.ref (h.length + 4))), ?_, C2, rfl, ?_⟩
  · rw [asgM_e, tupM_e, consM_e, callM_e, nilM_e, bindE_ok, shares_run, bindL_ok, consM_e, dnew_e, bindL_ok, consM_e, dnew_e, bindL_ok, consM_e, dnew_e, bindL_ok, nilM_e, lbind_ok, lbind_ok, lbind_ok, lbind_ok, bindE_ok, if_pos len4, toS_ok, unp4g]
    have q1 : ((h ++ [O.ins 2 (shO (h.length + 1)), O.dct []]) ++ [O.dct []]).length = h.length + 3 := by simp
    have q2 : (((h ++ [O.ins 2 (shO (h.length + 1)), O.dct []]) ++ [O.dct []]) ++ [O.dct []]).length = h.length + 4 := by simp
    rw [l2, q1, q2]
    simp only [List.append_assoc, List.cons_append, List.nil_append]
  · have e1 : dicA (newA a h.length) (h.length + 2) .D = a .D := by rw [dicA_ne (by simp) (by simp) (by simp), newA_ne (by simp) (by simp)]
    have e2 : dicA (newA a h.length) (h.length + 2) .O = a .O := by rw [dicA_ne (by simp) (by simp) (by simp), newA_ne (by simp) (by simp)]
    have e3 : dicA (newA a h.length) (h.length + 2) .S = h.length := by rw [dicA_ne (by simp) (by simp) (by simp), newA_S]
    have hτ := v.len
    refine ⟨by simp [hτ], ?_, ?_, ?_, ?_, ?_, ?_⟩
    · rw [e1]; exact (((v.d.set (by decide)).set (by decide)).set (by decide)).set (by decide)
    · rw [e2]; exact (((v.ow.set (by decide)).set (by decide)).set (by decide)).set (by decide)
    · rw [e3]; exact (((Sl.new (by omega)).set (by decide)).set (by decide)).set (by decide)
    · rw [dicA_1]; exact ((Sl.new (by rw [len_set hτ]; decide)).set (by decide)).set (by decide)
    · rw [dicA_2]; exact (Sl.new (by rw [len_set (len_set hτ)]; decide)).set (by decide)
    · rw [dicA_3]; exact Sl.new (by rw [len_set (len_set (len_set hτ))]; decide)
theorem dice_body {d xl : Nat} (hτ : τ.length = 25) (s1 : Sl τ 1 (.ref d)) (hd : Di h d) (hx : h[xl]? = some (.lst [.ref d])) (nx : d ≠ xl) (gx : xl = Gh.x ∧ d = Gh.d) : ∃ a h' s τ', law_f7b τ h = .nx τ' h' ∧ Cr a s h' ∧ s.two = true ∧ Sw a τ' := by
  obtain ⟨a1, h1, s1', τ1, p1, e1, C1, w1, n1, v1, q1, f1⟩ := half1 hτ s1 hd hx nx gx
  -- names
  obtain ⟨r, h2, b1, b2, C2, _⟩ := rollC (e := cM (.int 4)) (many := 4) C1 v1.d cM_e (by decide) (by decide)
  obtain ⟨a3, h3, s3, τ3, e3, C3, w3, n3, v3, q3, f3⟩ := loopA (mm := 1 + r) C2 w1 v1 q1 n1 f1 (by omega) (by omega)
  have k3 : DD.forM (binM (cM (.int 1)) (callM (consM (varM 1) (consM (cM (.int 4)) nilM)) (callF 2 [] (R__law_roll 5))) addM) rngIt1 (nameG 4) law_f0b τ1 h1 = .nx τ3 h3 := by
    have z : rngIt1 (.int (1 + (r : Int))) h2 = some (rngL 0 (1 + r), fun _ => true) := by
      have z := rng1_e (j := 1 + r) (h := h2) (by omega)
      rw [show (1 : Int) + (r : Int) = ((1 + r : Nat) : Int) by omega]
      exact z
    rw [forM_e, binM_e, cM_e, bind_ok, b1, bind_ok, add_ii, toS_ok, z]
    exact e3
  have ne : s3.ns ≠ [] := by
    rw [n3]
    intro z
    have := congrArg List.length z
    rw [List.length_take, nm_len] at this
    simp only [List.length_nil] at this
    omega
  -- steps
  obtain ⟨r5, h5, b5, b6, C5, _⟩ := rollC (e := cM (.int 101)) (many := 101) C3 v3.d cM_e (by decide) (by decide)
  obtain ⟨a6, h6, s6, τ6, p6, e6, C6, w6, n6, v6, q6⟩ := loopB (mm := r5) C5 w3 v3 q3 ne f3 (by omega)
  have k6 : DD.forM (callM (consM (varM 1) (consM (cM (.int 101)) nilM)) (callF 2 [] (R__law_roll 5))) rngIt1 (nameG 5) law_f1b τ3 h3 = .nx τ6 h6 := by
    rw [forM_e, b5, toS_ok, rng1_e (j := r5) (by omega)]
    exact e6
  -- the second shares
  obtain ⟨a7, h7, s7, τ7, e7, C7, r7, v7⟩ := half2 C6 w6 v6
  have ns7 : s7.ns = s3.ns := by rw [r7]; exact n6
  have W7 : Wb { s7 with ok := true } [] := by
    rw [r7]
    exact ⟨rfl, rfl, rfl, rfl, rfl, rfl, rfl, fun x hx => (by cases hx)⟩
  have ok7 : s7.ok = false := by rw [r7]; exact w6.ok
  have few7 : s7.ns.length ≤ 4 := by rw [ns7]; exact w3.few
  have wt7 : ∀ y ∈ s7.ns, 1 ≤ s7.w y ∧ s7.w y ≤ 10 := by rw [r7]; exact w6.wt
  have nd7 : s7.ns.Nodup := by rw [ns7, n3]; exact nm_nd.sublist (List.take_sublist _ _)
  have ne7 : s7.ns ≠ [] := by rw [ns7]; exact ne
  obtain ⟨a8, h8, s8, τ8, e8, C8, W8, ok8, v8, n8, w8⟩ := build_run C7 ne7 v7 W7 ok7 few7 nd7 wt7
  have T8 : Tn s8 0 := Tn.of (by have z := W8; rw [← n8] at z; exact z) ok8 (by rw [n8]; exact few7) (by rw [n8]; exact ne7) (by rw [n8, w8]; exact wt7)
  obtain ⟨τ9, h9, s9, e9, C9, two9, v9⟩ := turns_run C8 T8 v8
  refine ⟨a8, h9, s9, τ9, ?_, C9, two9, v9⟩
  unfold law_f7b
  rw [seqM_e, e1, sbind_nx, seqM_e, k3, sbind_nx, seqM_e, k6, sbind_nx, seqM_e, e7, sbind_nx, seqM_e, e8, sbind_nx, e9]
end
end K23
end

section
set_option Elab.async false
set_option linter.all false
set_option maxRecDepth 100000
set_option maxHeartbeats 2000000
namespace K23
open PySem L2 DD
def tailS (s : St) : St := { newS s with ns := [], w := fun _ => 1 }
abbrev lams5 : List O := [.lam 0, .lam 1, .lam 2, .lam 3, .lam 4]
section
variable {a a' : Tg → Nat} {s s' : St} {h h' h2 : AH} {t u : Tg} {x y : Str} {o : O} {i n m : Nat} {τ τ' : SL} {p : Int} [Gh]
theorem tail_cr (C : Cr a (newS s) h) (h2 : s.two = true) : Cr a (tailS s) h := by
  have back : ∀ t, V (tailS s) t → V (newS s) t ∧ (t ≠ .D → Ob a (tailS s) t = Ob a (newS s) t) := fun t v => by
    cases t with
    | S => exact ⟨trivial, fun _ => rfl⟩
    | Td => exact ⟨trivial, fun _ => rfl⟩
    | T y => exact absurd v (by show ¬ y ∈ ([] : List Str); simp)
    | W y => exact absurd v (by show ¬ y ∈ ([] : List Str); simp)
    | O =>
      have v : ([] : List Str) ≠ [] ∨ s.two = false := v
      rcases v with v | v
      · exact absurd rfl v
      · rw [h2] at v; cases v
    | R y => exact absurd v (by show ¬ y ∈ ([] : List Str); simp)
    | L y => exact absurd v (by show ¬ y ∈ ([] : List Str); simp)
    | D => exact ⟨trivial, fun _ => rfl⟩
    | SZ => exact ⟨v, fun _ => rfl⟩
    | SL y => exact ⟨v, fun _ => rfl⟩
    | SV => exact ⟨v, fun _ => rfl⟩
    | MN => exact ⟨v, fun _ => rfl⟩
    | X => exact ⟨trivial, fun _ => rfl⟩
  exact ⟨fun t u p q e => C.inj t u (back t p).1 (back u q).1 e, fun t v n => by rw [(back t v).2 n]; exact C.at_ t (back t v).1 n, C.dice, C.gx⟩
/-- what is refused -/
theorem add_in (C : Cr a s h) (hx : x ∈ s.ms) {d : D} : F_Shares_add [.ref (a .S), .str x, d] h = .exc 0 h := by
  have e0 : startD N_Shares_add.length [D.ref (a .S), .str x, d] = [some (.ref (a .S)), some (.str x), some d] := rfl
  have g1 : dinM (.str x) (.ref (a .Td)) h = .ok (.bl true) h := by
    have := C.at_ .Td trivial (by simp)
    have v : valK (kvO s.ms fun x => .ref (a (.T x))) (.inr x) = some (.ref (a (.T x))) := valK_kv hx
    simp only [Ob, dk] at this
    cases hk : s.tk <;> rw [hk] at this <;> simp only [Bool.false_eq_true, ↓reduceIte] at this <;> simp only [dinM, this, keyD, v] <;> rfl
  unfold F_Shares_add m_Shares_add
  rw [e0]
  simp only [fS1 C, g1, DD.bind_ok, DD.bind_exc, DD.toS_ok, DD.toS_exc, DD.bindL_ok, DD.bindL_exc, DD.lbind_ok, DD.lbind_exc, DD.bindE_ok, DD.bindE_exc, DD.sbind_nx, DD.sbind_rt, DD.sbind_exc, DD.sbind_bk, DD.sbind_ct, DD.ret_nx, DD.ret_rt, DD.ret_exc, DD.varM_0, DD.varM_1, DD.varM_2, DD.varM_3, DD.varM_4, DD.varM_5, DD.cM_e, DD.binM_e, DD.unM_e, DD.seqM_e, DD.setM_e, DD.retM_e, DD.raiseM_e, DD.passM_e, DD.brkM_e, DD.ifSM_e, DD.ifM_e, DD.andM_e, DD.orM_e, DD.notM_e, DD.nilM_e, DD.consM_e, DD.callM_e, DD.tupM_e, DD.lstM_e, DD.smM_e, DD.asgM_e, DD.subG_e, DD.nameG_e, DD.slM_e, DD.om_none, DD.om_some, DD.toldM_e, DD.add_ii, DD.add_tt, DD.sub_ii, DD.mul_ii, DD.lt_ii, DD.le_ii, DD.gt_ii, DD.ge_ii, DD.fdiv_ii, DD.mod_ii, DD.eq_ii, DD.ne_ii, DD.eq_ss, DD.ne_ss, DD.len_t, DD.len_s, DD.append_e, DD.extend_t, DD.extend_r, DD.tup_r, DD.it_t, DD.sl_t, DD.callF, List.length_append, List.length_cons, List.length_nil, List.append_nil, Nat.reduceAdd, List.set_cons_zero, List.set_cons_succ, ↓reduceIte, Bool.not_true, Bool.not_false, Nat.zero_le]
theorem add_bad (C : Cr a s h) (hx : x ∉ s.ms) {w : Int} (hw : w < 1 ∨ 10 < w) : F_Shares_add [.ref (a .S), .str x, .int w] h = .exc 0 h := by
  have e0 : startD N_Shares_add.length [D.ref (a .S), .str x, .int w] = [some (.ref (a .S)), some (.str x), some (.int w)] := rfl
  have g1 : dinM (.str x) (.ref (a .Td)) h = .ok (.bl false) h := by
    have := C.at_ .Td trivial (by simp)
    simp only [Ob, dk] at this
    cases hk : s.tk <;> rw [hk] at this <;> simp only [Bool.false_eq_true, ↓reduceIte] at this <;> simp only [dinM, this, keyD, valK_kvn hx] <;> rfl
  unfold F_Shares_add m_Shares_add
  rw [e0]
  by_cases q : 1 ≤ w
  · have d1 : decide ((1 : Int) ≤ w) = true := decide_eq_true q
    have d2 : decide (w ≤ 10) = false := decide_eq_false (by omega)
    simp only [fS1 C, g1, chainM_e, d1, d2, DD.bind_ok, DD.bind_exc, DD.toS_ok, DD.toS_exc, DD.bindL_ok, DD.bindL_exc, DD.lbind_ok, DD.lbind_exc, DD.bindE_ok, DD.bindE_exc, DD.sbind_nx, DD.sbind_rt, DD.sbind_exc, DD.sbind_bk, DD.sbind_ct, DD.ret_nx, DD.ret_rt, DD.ret_exc, DD.varM_0, DD.varM_1, DD.varM_2, DD.varM_3, DD.varM_4, DD.varM_5, DD.cM_e, DD.binM_e, DD.unM_e, DD.seqM_e, DD.setM_e, DD.retM_e, DD.raiseM_e, DD.passM_e, DD.brkM_e, DD.ifSM_e, DD.ifM_e, DD.andM_e, DD.orM_e, DD.notM_e, DD.nilM_e, DD.consM_e, DD.callM_e, DD.tupM_e, DD.lstM_e, DD.smM_e, DD.asgM_e, DD.subG_e, DD.nameG_e, DD.slM_e, DD.om_none, DD.om_some, DD.toldM_e, DD.add_ii, DD.add_tt, DD.sub_ii, DD.mul_ii, DD.lt_ii, DD.le_ii, DD.gt_ii, DD.ge_ii, DD.fdiv_ii, DD.mod_ii, DD.eq_ii, DD.ne_ii, DD.eq_ss, DD.ne_ss, DD.len_t, DD.len_s, DD.append_e, DD.extend_t, DD.extend_r, DD.tup_r, DD.it_t, DD.sl_t, DD.callF, List.length_append, List.length_cons, List.length_nil, List.append_nil, Nat.reduceAdd, List.set_cons_zero, List.set_cons_succ, ↓reduceIte, Bool.not_true, Bool.not_false, Nat.zero_le]
  · have d1 : decide ((1 : Int) ≤ w) = false := decide_eq_false q
    simp only [fS1 C, g1, chainM_e, d1, DD.bind_ok, DD.bind_exc, DD.toS_ok, DD.toS_exc, DD.bindL_ok, DD.bindL_exc, DD.lbind_ok, DD.lbind_exc, DD.bindE_ok, DD.bindE_exc, DD.sbind_nx, DD.sbind_rt, DD.sbind_exc, DD.sbind_bk, DD.sbind_ct, DD.ret_nx, DD.ret_rt, DD.ret_exc, DD.varM_0, DD.varM_1, DD.varM_2, DD.varM_3, DD.varM_4, DD.varM_5, DD.cM_e, DD.binM_e, DD.unM_e, DD.seqM_e, DD.setM_e, DD.retM_e, DD.raiseM_e, DD.passM_e, DD.brkM_e, DD.ifSM_e, DD.ifM_e, DD.andM_e, DD.orM_e, DD.notM_e, DD.nilM_e, DD.consM_e, DD.callM_e, DD.tupM_e, DD.lstM_e, DD.smM_e, DD.asgM_e, DD.subG_e, DD.nameG_e, DD.slM_e, DD.om_none, DD.om_some, DD.toldM_e, DD.add_ii, DD.add_tt, DD.sub_ii, DD.mul_ii, DD.lt_ii, DD.le_ii, DD.gt_ii, DD.ge_ii, DD.fdiv_ii, DD.mod_ii, DD.eq_ii, DD.ne_ii, DD.eq_ss, DD.ne_ss, DD.len_t, DD.len_s, DD.append_e, DD.extend_t, DD.extend_r, DD.tup_r, DD.it_t, DD.sl_t, DD.callF, List.length_append, List.length_cons, List.length_nil, List.append_nil, Nat.reduceAdd, List.set_cons_zero, List.set_cons_succ, ↓reduceIte, Bool.not_true, Bool.not_false, Nat.zero_le]
theorem put_no (C : Cr a s h) (hx : x ∉ s.ms) {d e : D} : F_Shares_put [.ref (a .S), .str x, d, e] h = .exc 0 h := by
  have e0 : startD N_Shares_put.length [D.ref (a .S), .str x, d, e] = [some (.ref (a .S)), some (.str x), some d, some e, none] := rfl
  have g1 : dninM (.str x) (.ref (a .Td)) h = .ok (.bl true) h := by
    have := C.at_ .Td trivial (by simp)
    simp only [Ob, dk] at this
    cases hk : s.tk <;> rw [hk] at this <;> simp only [Bool.false_eq_true, ↓reduceIte] at this <;> simp only [dninM, this, keyD, valK_kvn hx] <;> rfl
  unfold F_Shares_put m_Shares_put
  rw [e0]
  simp only [fS1 C, g1, DD.bind_ok, DD.bind_exc, DD.toS_ok, DD.toS_exc, DD.bindL_ok, DD.bindL_exc, DD.lbind_ok, DD.lbind_exc, DD.bindE_ok, DD.bindE_exc, DD.sbind_nx, DD.sbind_rt, DD.sbind_exc, DD.sbind_bk, DD.sbind_ct, DD.ret_nx, DD.ret_rt, DD.ret_exc, DD.varM_0, DD.varM_1, DD.varM_2, DD.varM_3, DD.varM_4, DD.varM_5, DD.cM_e, DD.binM_e, DD.unM_e, DD.seqM_e, DD.setM_e, DD.retM_e, DD.raiseM_e, DD.passM_e, DD.brkM_e, DD.ifSM_e, DD.ifM_e, DD.andM_e, DD.orM_e, DD.notM_e, DD.nilM_e, DD.consM_e, DD.callM_e, DD.tupM_e, DD.lstM_e, DD.smM_e, DD.asgM_e, DD.subG_e, DD.nameG_e, DD.slM_e, DD.om_none, DD.om_some, DD.toldM_e, DD.add_ii, DD.add_tt, DD.sub_ii, DD.mul_ii, DD.lt_ii, DD.le_ii, DD.gt_ii, DD.ge_ii, DD.fdiv_ii, DD.mod_ii, DD.eq_ii, DD.ne_ii, DD.eq_ss, DD.ne_ss, DD.len_t, DD.len_s, DD.append_e, DD.extend_t, DD.extend_r, DD.tup_r, DD.it_t, DD.sl_t, DD.callF, List.length_append, List.length_cons, List.length_nil, List.append_nil, Nat.reduceAdd, List.set_cons_zero, List.set_cons_succ, ↓reduceIte, Bool.not_true, Bool.not_false, Nat.zero_le]
theorem put_small (C : Cr a s h) (hx : x ∈ s.ms) {z : Int} (hz : z < 1) {e : D} : F_Shares_put [.ref (a .S), .str x, .int z, e] h = .exc 0 h := by
  have e0 : startD N_Shares_put.length [D.ref (a .S), .str x, .int z, e] = [some (.ref (a .S)), some (.str x), some (.int z), some e, none] := rfl
  have g1 : dninM (.str x) (.ref (a .Td)) h = .ok (.bl false) h := by
    have := C.at_ .Td trivial (by simp)
    have v : valK (kvO s.ms fun x => .ref (a (.T x))) (.inr x) = some (.ref (a (.T x))) := valK_kv hx
    simp only [Ob, dk] at this
    cases hk : s.tk <;> rw [hk] at this <;> simp only [Bool.false_eq_true, ↓reduceIte] at this <;> simp only [dninM, this, keyD, v] <;> rfl
  have d1 : decide (z < 1) = true := decide_eq_true hz
  unfold F_Shares_put m_Shares_put
  rw [e0]
  simp only [fS1 C, g1, d1, DD.bind_ok, DD.bind_exc, DD.toS_ok, DD.toS_exc, DD.bindL_ok, DD.bindL_exc, DD.lbind_ok, DD.lbind_exc, DD.bindE_ok, DD.bindE_exc, DD.sbind_nx, DD.sbind_rt, DD.sbind_exc, DD.sbind_bk, DD.sbind_ct, DD.ret_nx, DD.ret_rt, DD.ret_exc, DD.varM_0, DD.varM_1, DD.varM_2, DD.varM_3, DD.varM_4, DD.varM_5, DD.cM_e, DD.binM_e, DD.unM_e, DD.seqM_e, DD.setM_e, DD.retM_e, DD.raiseM_e, DD.passM_e, DD.brkM_e, DD.ifSM_e, DD.ifM_e, DD.andM_e, DD.orM_e, DD.notM_e, DD.nilM_e, DD.consM_e, DD.callM_e, DD.tupM_e, DD.lstM_e, DD.smM_e, DD.asgM_e, DD.subG_e, DD.nameG_e, DD.slM_e, DD.om_none, DD.om_some, DD.toldM_e, DD.add_ii, DD.add_tt, DD.sub_ii, DD.mul_ii, DD.lt_ii, DD.le_ii, DD.gt_ii, DD.ge_ii, DD.fdiv_ii, DD.mod_ii, DD.eq_ii, DD.ne_ii, DD.eq_ss, DD.ne_ss, DD.len_t, DD.len_s, DD.append_e, DD.extend_t, DD.extend_r, DD.tup_r, DD.it_t, DD.sl_t, DD.callF, List.length_append, List.length_cons, List.length_nil, List.append_nil, Nat.reduceAdd, List.set_cons_zero, List.set_cons_succ, ↓reduceIte, Bool.not_true, Bool.not_false, Nat.zero_le]
theorem lam_run (C : Cr a s h) (hm : s.ms = [("a" : Str)]) {k : Nat} (hk : k < 5) : law_l8 k [some (.ref (a .S))] h = .exc 0 h := by
  have nb : ("b" : Str) ∉ s.ms := by rw [hm]; decide
  have nz : ("z" : Str) ∉ s.ms := by rw [hm]; decide
  have ia : ("a" : Str) ∈ s.ms := by rw [hm]; decide
  match k, hk with
  | 0, _ =>
    show methF _ _ _ _ _ _ _ _ _ = _
    rw [meth_S C varM_0, consM_e, cM_e, bindL_ok, consM_e, cM_e, bindL_ok, nilM_e, lbind_ok, lbind_ok, bindE_ok]
    exact add_in C ia
  | 1, _ =>
    show methF _ _ _ _ _ _ _ _ _ = _
    rw [meth_S C varM_0, consM_e, cM_e, bindL_ok, consM_e, cM_e, bindL_ok, nilM_e, lbind_ok, lbind_ok, bindE_ok]
    exact add_bad C nb (by decide)
  | 2, _ =>
    show methF _ _ _ _ _ _ _ _ _ = _
    rw [meth_S C varM_0, consM_e, cM_e, bindL_ok, consM_e, cM_e, bindL_ok, nilM_e, lbind_ok, lbind_ok, bindE_ok]
    exact add_bad C nb (by decide)
  | 3, _ =>
    show methF _ _ _ _ _ _ _ _ _ = _
    rw [meth_S C varM_0, consM_e, cM_e, bindL_ok, consM_e, cM_e, bindL_ok, consM_e, cM_e, bindL_ok, nilM_e, lbind_ok, lbind_ok, lbind_ok, bindE_ok]
    exact put_no C nz
  | 4, _ =>
    show methF _ _ _ _ _ _ _ _ _ = _
    rw [meth_S C varM_0, consM_e, cM_e, bindL_ok, consM_e, cM_e, bindL_ok, consM_e, cM_e, bindL_ok, nilM_e, lbind_ok, lbind_ok, lbind_ok, bindE_ok]
    exact put_small C ia (by decide)
  | k + 5, q => omega
theorem bad_list {τ : SL} {h : AH} : lstM (consM (lamM 0) (consM (lamM 1) (consM (lamM 2) (consM (lamM 3) (consM (lamM 4) nilM))))) τ h = .ok (.ref (h.length + 5)) (h ++ lams5 ++ [.lst ([0, 1, 2, 3, 4].map fun i => D.ref (h.length + i))]) := by
  have e : ∀ (i : Nat) (τ : SL) (h : AH), lamM i τ h = .ok (.ref h.length) (h ++ [.lam i]) := fun _ _ _ => rfl
  have len5 : ([D.ref h.length, .ref (h ++ [O.lam 0]).length, .ref ((h ++ [O.lam 0]) ++ [O.lam 1]).length, .ref (((h ++ [O.lam 0]) ++ [O.lam 1]) ++ [O.lam 2]).length, .ref ((((h ++ [O.lam 0]) ++ [O.lam 1]) ++ [O.lam 2]) ++ [O.lam 3]).length] : List D).length ≤ sizeLine := by rw [sizeLine_eq]; show (5 : Nat) ≤ _; decide
  rw [lstM_e, consM_e, e, bindL_ok, consM_e, e, bindL_ok, consM_e, e, bindL_ok, consM_e, e, bindL_ok, consM_e, e, bindL_ok, nilM_e, lbind_ok, lbind_ok, lbind_ok, lbind_ok, lbind_ok, bindE_ok, if_pos len5]
  simp
theorem told_none (C : Cr a s h) (hm : s.ms = [("a" : Str)]) (hτ : τ.length = 25) (s2 : Sl τ 2 (.ref (a .S))) {L n : Nat} (s3 : Sl τ 3 (.ref L)) (eL : h[L]? = some (.lst ([0, 1, 2, 3, 4].map fun i => D.ref (n + i)))) (el : ∀ i < 5, h[n + i]? = some (.lam i)) :
    lcQ (varM 3) lstIt (nameG 24) (some (binM (toldGM ci_QueueError "QueueError" law_l8j law_l8 (varM 24)) (cM (.str "QueueError")) neM)) (cM (.int 1)) [24] τ h = .ok (.ref h.length) (h ++ [.lst []]) := by
  have C1 : Cr a s (h ++ [O.lst []]) := C.app
  have step : ∀ i < 5, mcM (some (binM (toldGM ci_QueueError "QueueError" law_l8j law_l8 (varM 24)) (cM (.str "QueueError")) neM)) ((wipeD τ [24]).set 24 (some (.ref (n + i)))) (h ++ [O.lst []]) = .ok (.bl false) (h ++ [O.lst []]) := fun i hi => by
    have ln : (wipeD τ [24]).set 24 (some (.ref (n + i))) = (τ.set 24 none).set 24 (some (.ref (n + i))) := rfl
    have q24 : Sl ((τ.set 24 none).set 24 (some (.ref (n + i)))) 24 (.ref (n + i)) := Sl.new (by rw [len_set hτ]; decide)
    have q2 : Sl ((τ.set 24 none).set 24 (some (.ref (n + i)))) 2 (.ref (a .S)) := (s2.set (by decide)).set (by decide)
    have j2 : law_l8j i = [2] := by
      match i, hi with
      | 0, _ => rfl
      | 1, _ => rfl
      | 2, _ => rfl
      | 3, _ => rfl
      | 4, _ => rfl
      | k + 5, q => omega
    have gl : (h ++ [O.lst []])[n + i]? = some (.lam i) := get_app (el i hi)
    rw [ln]
    generalize (τ.set 24 none).set 24 (some (.ref (n + i))) = τ1 at *
    have fr : (law_l8j i).map (fun j => (τ1[j]?).join) = [some (.ref (a .S))] := by
      rw [j2]
      have : τ1[2]? = some (some (.ref (a .S))) := q2
      simp only [List.map_cons, List.map_nil, this]
      rfl
    have t : toldGM ci_QueueError "QueueError" law_l8j law_l8 (varM 24) τ1 (h ++ [O.lst []]) = .ok (.str "QueueError") (h ++ [O.lst []]) := by
      unfold toldGM
      rw [varM_at q24, bind_ok]
      simp only [gl]
      rw [toldM_e, fr, lam_run C1 hm hi]
      rfl
    show (binM _ _ _) _ _ = _
    rw [binM_e, t, bind_ok, cM_e, bind_ok, ne_ss]
    simp
  have live : isLst L ([0, 1, 2, 3, 4].map fun i => D.ref (n + i)) (h ++ [O.lst []]) = true := isLst_mk (get_app eL)
  refine lcQ_of (h1 := h) (varM_at s3) (lstIt_e eL) ?_
  obtain ⟨acc', h', b1, rfl, rfl, _⟩ := lc_inv (β := Nat) (φ := fun i => D.ref (n + i)) (mc := some (binM (toldGM ci_QueueError "QueueError" law_l8j law_l8 (varM 24)) (cM (.str "QueueError")) neM)) (me := cM (.int 1)) (own := [24]) (τ := τ) (j := 24) (l := h.length) (live := isLst L ([0, 1, 2, 3, 4].map fun i => D.ref (n + i)))
    (fun r acc hh => acc = [] ∧ hh = h ++ [O.lst []] ∧ ∀ i ∈ r, i < 5) (fun r acc hh P => by rw [P.2.1]; exact live)
    (fun i r acc hh P => by
      obtain ⟨rfl, rfl, q⟩ := P
      exact ⟨false, _, step i (q i (by simp)), fun _ => ⟨rfl, rfl, fun j hj => q j (by simp [hj])⟩, fun z => (by cases z)⟩) [0, 1, 2, 3, 4] [] (h ++ [O.lst []]) ⟨rfl, rfl, by decide⟩
  exact b1
theorem eqP_nil {i j : Nat} (e1 : h[i]? = some (.lst [])) (e2 : h[j]? = some (.lst [])) : eqPM (.ref i) (.ref j) h = .ok (.bl true) h := by
  have k : ∀ i, h[i]? = some (.lst []) → deepP h 60 (.ref i) = some (.list []) := fun i e => by
    show (match h[i]? with
      | some (.lst xs) => (allP (deepP h 59) xs).map PyData.list
      | _ => none) = _
    rw [e]
    rfl
  simp only [eqPM, k i e1, k j e2]
  rfl
theorem tail_run (C : Cr a s h) (h2 : s.two = true) (hτ : τ.length = 25) : ∃ h', (seqM (setM 2 (callM nilM (makeF 2 1 [] F_Shares_init)))
  (seqM (exprM (methF "add" 2 3 [] F_Shares_add (varM 2) (consM (cM (.str "a")) (consM (cM (.int 1)) nilM))))
  (seqM (setM 3 (lstM (consM (lamM 0) (consM (lamM 1) (consM (lamM 2) (consM (lamM 3) (consM (lamM 4) nilM)))))))
  (retM (andM (binM (lcQ (varM 3) lstIt (nameG 24) (some (binM (toldGM ci_QueueError "QueueError" law_l8j law_l8 (varM 24)) (cM (.str "QueueError")) neM)) (cM (.int 1)) [24]) (lstM nilM) eqPM) (andM (binM (methF "next_work" 2 1 [] F_Shares_next_work (varM 2) nilM) (cM .non) isM) (binM (unM (callM (consM (cM (.int 3)) nilM) (makeF 1 2 [] F_Tenant_init)) (fldM "waits" cs_waits)) (lstM nilM) eqM))))))) τ h = .rt (.bl true) h' := by
  have C1 := tail_cr (new_cr C) h2
  have e1 : setM 2 (callM nilM (makeF 2 1 [] F_Shares_init)) τ h = .nx (τ.set 2 (some (.ref h.length))) (h ++ [.ins 2 (shO (h.length + 1)), .dct []]) := by
    rw [setM_e, callM_e, nilM_e, bindE_ok, shares_run, toS_ok]
  have q2 : Sl (τ.set 2 (some (.ref h.length))) 2 (.ref (newA a h.length .S)) := by rw [newA_S]; exact Sl.new (by omega)
  have l2 : (τ.set 2 (some (.ref h.length))).length = 25 := len_set hτ
  generalize h ++ [.ins 2 (shO (h.length + 1)), .dct []] = h1 at *
  generalize τ.set 2 (some (.ref h.length)) = τ1 at *
  generalize newA a h.length = a1 at *
  obtain ⟨h2', d1, C2, _⟩ := add_run (x := "a") C1 (by show ¬ _ ∈ ([] : List Str); simp) rfl (by show (1 : Int) ≤ 1 ∧ (1 : Int) ≤ 10; decide) (by show (0 : Nat) < 1000; decide)
  have e3 : exprM (methF "add" 2 3 [] F_Shares_add (varM 2) (consM (cM (.str "a")) (consM (cM (.int 1)) nilM))) τ1 h1 = .nx τ1 h2' := by
    rw [exprM_e, meth_S C1 (varM_at q2), consM_e, cM_e, bindL_ok, consM_e, cM_e, bindL_ok, nilM_e, lbind_ok, lbind_ok, bindE_ok]
    show EO.toS (F_Shares_add ([.ref _, .str "a", .int 1] ++ []) h1) _ _ = _
    have d1 : F_Shares_add [.ref (a1 .S), .str "a", .int 1] h1 = .ok .non h2' := d1
    rw [List.append_nil, d1, toS_ok]
  have sS : addA a1 "a" h1.length .S = a1 .S := addA_ne (by simp) (by simp)
  rw [← sS] at q2
  generalize addA a1 "a" h1.length = a2 at *
  have ms2 : (addS (tailS s) "a").ms = [("a" : Str)] := rfl
  have tk2 : (addS (tailS s) "a").tk = false := rfl
  have ws2 : (addS (tailS s) "a").ws "a" = [] := by show up (tailS s).ws ("a" : Str) [] ("a" : Str) = []; exact up_eq
  generalize addS (tailS s) "a" = s2 at *
  have e4 : setM 3 (lstM (consM (lamM 0) (consM (lamM 1) (consM (lamM 2) (consM (lamM 3) (consM (lamM 4) nilM)))))) τ1 h2' = .nx (τ1.set 3 (some (.ref (h2'.length + 5)))) (h2' ++ lams5 ++ [.lst ([0, 1, 2, 3, 4].map fun i => D.ref (h2'.length + i))]) := by
    rw [setM_e, bad_list, toS_ok]
  have el : ∀ i < 5, (h2' ++ lams5 ++ [O.lst ([0, 1, 2, 3, 4].map fun i => D.ref (h2'.length + i))])[h2'.length + i]? = some (.lam i) := fun i hi => by
    refine get_app ?_
    rw [List.getElem?_append_right (by omega), show h2'.length + i - h2'.length = i by omega]
    match i, hi with
    | 0, _ => rfl
    | 1, _ => rfl
    | 2, _ => rfl
    | 3, _ => rfl
    | 4, _ => rfl
    | k + 5, q => omega
  have eL : (h2' ++ lams5 ++ [O.lst ([0, 1, 2, 3, 4].map fun i => D.ref (h2'.length + i))])[h2'.length + 5]? = some (.lst ([0, 1, 2, 3, 4].map fun i => D.ref (h2'.length + i))) := by
    have : h2'.length + 5 = (h2' ++ lams5).length := by simp
    rw [this, get_new]
  have C3 : Cr a2 s2 (h2' ++ lams5 ++ [O.lst ([0, 1, 2, 3, 4].map fun i => D.ref (h2'.length + i))]) := C2.app.app
  have q3 : Sl (τ1.set 3 (some (.ref (h2'.length + 5)))) 3 (.ref (h2'.length + 5)) := Sl.new (by omega)
  have r2 : Sl (τ1.set 3 (some (.ref (h2'.length + 5)))) 2 (.ref (a2 .S)) := q2.set (by decide)
  have l3 : (τ1.set 3 (some (.ref (h2'.length + 5)))).length = 25 := len_set l2
  generalize τ1.set 3 (some (.ref (h2'.length + 5))) = τ2 at *
  generalize h2' ++ lams5 ++ [O.lst ([0, 1, 2, 3, 4].map fun i => D.ref (h2'.length + i))] = h3 at *
  have e5 := told_none C3 ms2 l3 r2 q3 eL el
  have C4 : Cr a2 s2 ((h3 ++ [O.lst []]) ++ [O.lst []]) := C3.app.app
  have e6 : eqPM (.ref h3.length) (.ref (h3 ++ [O.lst []]).length) ((h3 ++ [O.lst []]) ++ [O.lst []]) = .ok (.bl true) ((h3 ++ [O.lst []]) ++ [O.lst []]) := eqP_nil (get_app get_new) get_new
  have rd : ready s2.ms s2.ws = [] := by
    rw [ms2]
    unfold ready
    simp [ws2]
  obtain ⟨h5, d5, C5, _⟩ := next_none C4 tk2 (by rw [ms2]; decide) rd
  have e7 : methF "next_work" 2 1 [] F_Shares_next_work (varM 2) nilM τ2 ((h3 ++ [O.lst []]) ++ [O.lst []]) = .ok .non h5 := by
    rw [meth_S C4 (varM_at r2), nilM_e, bindE_ok]
    show F_Shares_next_work ([.ref _] ++ []) _ = _
    rw [List.append_nil, d5]
  have gt : (h5 ++ [O.ins 1 (tenO 3 (h5.length + 1) 0), O.lst []])[h5.length]? = some (.ins 1 (tenO 3 (h5.length + 1) 0)) := get_new
  have e8 : fldM "waits" cs_waits (.ref h5.length) (h5 ++ [O.ins 1 (tenO 3 (h5.length + 1) 0), O.lst []]) = .ok (.ref (h5.length + 1)) (h5 ++ [O.ins 1 (tenO 3 (h5.length + 1) 0), O.lst []]) := by
    rw [fld_e, gt]; rfl
  have gw : ((h5 ++ [O.ins 1 (tenO 3 (h5.length + 1) 0), O.lst []]) ++ [O.lst []])[h5.length + 1]? = some (.lst (([] : List (Int × Int)).map pr)) := by
    refine get_app ?_
    rw [List.getElem?_append_right (by omega)]
    simp
  have e9 := eq_nil (l := []) gw (get_new (h := h5 ++ [O.ins 1 (tenO 3 (h5.length + 1) 0), O.lst []]))
  refine ⟨(h5 ++ [O.ins 1 (tenO 3 (h5.length + 1) 0), O.lst []]) ++ [O.lst []], ?_⟩
  rw [seqM_e, e1, sbind_nx, seqM_e, e3, sbind_nx, seqM_e, e4, sbind_nx, retM_e, andM_e, binM_e, e5, bind_ok, nil_l, bind_ok, e6, bind_ok]
  simp only []
  rw [andM_e, binM_e, e7, bind_ok, cM_e, bind_ok, show isM .non .non h5 = .ok (.bl true) h5 from rfl, bind_ok]
  simp only []
  rw [binM_e, unM_e, callM_e, consM_e, cM_e, bindL_ok, nilM_e, lbind_ok, bindE_ok, tenant_run, bind_ok, e8, bind_ok, nil_l, bind_ok, e9, toS_ok]
  rfl
end
theorem math (ns : List Int) (hl : ns.length ≤ 63) (hb : ∀ z ∈ ns, Builtin.Int.intBits z ≤ 1048576) (d : D) (h : AH) (s : Scr ns d h) : ∃ h', F_law [d] h = .ok (.bl true) h' := by
  obtain ⟨L, D1, h1, a, b, c, r1, r2, r3, r4⟩ := rounds_run s
  letI : Gh := ⟨L, D1⟩
  unfold F_law m_law
  have hlen : (startD N_law.length [d]).length = 25 := rfl
  have s0 : Sl (startD N_law.length [d]) 0 d := rfl
  generalize startD N_law.length [d] = τ0 at *
  have L1 : (τ0.set 1 (some (.ref D1))).length = 25 := len_set hlen
  have t1 : Sl (τ0.set 1 (some (.ref D1))) 1 (.ref D1) := Sl.new (by omega)
  obtain ⟨ad, h2, sd, τ1, b1, C, two, v⟩ := dice_body (h := h1) L1 t1 ⟨a, b, c, r3⟩ r2 r4 ⟨rfl, rfl⟩
  have g2 : h2[L]? = some (.lst [.ref D1]) := by
    have z := C.at_ .X trivial (by simp)
    rw [C.gx.1] at z
    rw [show (L : Nat) = Gh.x from rfl, z]
    show some (O.lst [.ref (ad .D)]) = _
    rw [C.gx.2]
    rfl
  have er : callM (consM (varM 0) (consM (cM (.int 1)) nilM)) (callF 2 [] F__law_rounds) τ0 h = .ok (.ref L) h1 := by simp only [varM_at s0, r1, DD.bind_ok, DD.bind_exc, DD.toS_ok, DD.toS_exc, DD.bindL_ok, DD.bindL_exc, DD.lbind_ok, DD.lbind_exc, DD.bindE_ok, DD.bindE_exc, DD.sbind_nx, DD.sbind_rt, DD.sbind_exc, DD.sbind_bk, DD.sbind_ct, DD.ret_nx, DD.ret_rt, DD.ret_exc, DD.varM_0, DD.varM_1, DD.varM_2, DD.varM_3, DD.varM_4, DD.varM_5, DD.cM_e, DD.binM_e, DD.unM_e, DD.seqM_e, DD.setM_e, DD.exprM_e, DD.retM_e, DD.raiseM_e, DD.passM_e, DD.brkM_e, DD.ifSM_e, DD.ifM_e, DD.andM_e, DD.orM_e, DD.notM_e, DD.nilM_e, DD.consM_e, DD.callM_e, DD.tupM_e, DD.lstM_e, DD.bmM_e, DD.smM_e, DD.asgM_e, DD.subG_e, DD.nameG_e, DD.slM_e, DD.om_none, DD.om_some, DD.fldSetM_e, DD.toldM_e, DD.add_ii, DD.add_tt, DD.sub_ii, DD.mul_ii, DD.lt_ii, DD.le_ii, DD.gt_ii, DD.ge_ii, DD.fdiv_ii, DD.mod_ii, DD.eq_ii, DD.ne_ii, DD.eq_ss, DD.ne_ss, DD.fld_e, DD.len_t, DD.len_s, DD.append_e, DD.extend_t, DD.extend_r, DD.tup_r, DD.it_t, DD.sl_t, DD.callF, List.length_append, List.length_cons, List.length_nil, List.append_nil, Nat.reduceAdd, List.set_cons_zero, List.set_cons_succ, ↓reduceIte, Bool.not_true, Bool.not_false, Nat.zero_le]
  obtain ⟨h3, e3⟩ := tail_run C two v.len
  refine ⟨h3, ?_⟩
  rw [seqM_e, forM_e, er, toS_ok, lstIt_e r2]
  simp only []
  rw [loopL_cons (isLst_mk r2), nameG_e, sbind_nx, b1, next_nx, loopL_nil (isLst_mk g2), sbind_nx, e3, ret_rt]
end K23
end

section
set_option Elab.async false
set_option linter.all false
set_option maxRecDepth 100000
set_option maxHeartbeats 0
namespace K23
open PySem L2 DD
end K23
open PySem PySem.W PyProof.Rows
theorem PySem.Challenge.cw_shardstack_k23_shares_by_weight_holds : PySem.Challenge.rw_shardstack_k23_shares_by_weight.Holds := by
  w_on; o_law; k_head; (case hw => w_witness2)
  k_fill
  refine LamX.walk_ofTsE (l := PySem.Challenge.rw_shardstack_k23_shares_by_weight) (n := 63) (k := 6) (x := "script") (CX := fun w => L2.CX PySem.Challenge.pw_shardstack_k23_shares_by_weight w) rfl (by decide) rfl ⟨rfl, by decide, by decide⟩ ?F ?C
  case C =>
    intro w H s e s' z
    obtain ⟨_, _, _, _, _, _, _, _, _, _, _, _, z⟩ := z
    exact z
  case F =>
    intro w mg fa h Y G hmg
    refine ⟨_, PySem.W.km_in_of Y, ?_⟩
    refine K23.lawAt (l := PySem.Challenge.rw_shardstack_k23_shares_by_weight) (PySem.W.km_in_of Y) (PySem.W.km_tabs_of Y) G hmg ?c ?lb ?nd K23.math
    case c => show He.obsD K23.fa K23.fn _ = He.valD K23.fn; kernel_rfl
    case lb => kernel_rfl
    case nd => exact of_decide_eq_true (by kernel_rfl)
end
