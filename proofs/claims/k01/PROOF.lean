import PyProof.Rows.All
import HandS.Base
import HandS.Call
import HandS.List
import HandS.Exc
import HandS.ExcOwn
import HandS.Lambda
import HandS.Comp
import HandS.TryOnly
import HandS.Gcd
import HandS.Wide
import HandS.IsInst
import PyProof.IsRules
import PyProof.TypeOfCall
import PyProof.ReprRoads
import PyProof.CallFns
import PyProof.SliceList
import HandS.Words
import HandS.WordsList
import HandS.WordsExc
import HandS.ExcIs
import KE.KTryMore
import HandS.EndTab
import HandS.Dict
import HandS.EndBits
import KE.KNest
import PySem.Challenge.RW_hollowrise_k01_fractions
import KE.BitLaws
import PyProof.ReprBulk
import PyProof.FitsInt
import Wide.FinOn
import OpenK.AllK
import PyProof.EqAt
import PyProof.EqKinds
import PyProof.TupleCall
import Open.SpecLaws
import KE.OsGo
set_option Elab.async false
set_option linter.all false
set_option maxRecDepth 100000
set_option maxHeartbeats 3900000
namespace DL
open PySem L2
inductive D where
  | non
  | bl (b : Bool)
  | int (i : Int)
  | str (x : Str)
  | tup (ds : List D)
  | lst (ds : List D)
  | scr (ns : List Int)
  | emp
  | loc (n : Nat)
  | exc (c : String) (fs : List (Str × D))
  | ty (n : String)
  | cls (c : String)
  | clo (f c : Addr) (q : Str) (σd : List (Option V)) (is : List Nat) (ds : List D)
  deriving Inhabited
/-- what has a number: a list -/
inductive Ob where
  | lst (ds : List D)
  deriving Inhabited
abbrev Store := List Ob
abbrev Env := List (Option D)
/-- a list of the text's own -/
def KL (K : PySem.W.Frag) (a : Addr) (xs : List V) : Prop :=
  ∃ (ob : Obj) (us : Array Value) (m : Nat), K.lookup a = some ob ∧ ob.cls = .type "list" ∧ ob.dict = none ∧ ob.data = .seq us m ∧ us.size ≤ sizeLine ∧ Vals xs us.toList
/-- the fixed things: the text, the classes' places, the tables of code -/
structure Fx where
  K : PySem.W.Frag
  cl : String → Option Addr
  T : List (Addr × Str)
/-- an exception as an object: its class and its own dict's fields -/
def ExAt (H : Hp) (C : Addr) (a : Addr) (dd : Option Addr) : Prop := ∃ φ : Heap → Prop, H a = some (.ext φ) ∧ ∀ h, φ h → ∃ (oe : Obj) (vs : Array Value), h.get? a = some oe ∧ oe.cls = .ref C ∧ oe.dict = dd ∧ oe.data = .fields vs
mutual
def Rep (F : Fx) (L : List Addr) (H : Hp) : D → V → Prop
  | .non, v => v = .non
  | .bl b, v => v = .bl b
  | .int i, v => v = .int i
  | .str x, v => v = .str x
  | .tup ds, v => ∃ a vs, v = .ref a ∧ SqT F.K H a vs ∧ Reps F L H ds vs
  | .lst ds, v => ∃ a vs, v = .ref a ∧ (H a = some (.lst vs) ∧ a ∉ L) ∧ Reps F L H ds vs
  | .scr ns, v => ∃ a, v = .ref a ∧ ((∃ o, H a = some (.frz o (.lst (ns.map V.int)))) ∨ KL F.K a (ns.map V.int))
  | .emp, v => ∃ a, v = .ref a ∧ H a = some (.dK []) ∧ a ∉ L
  | .loc n, v => ∃ a, v = .ref a ∧ L[n]? = some a
  | .ty n, v => v = .ty n
  | .cls c, v => ∃ C, v = .ref C ∧ F.cl c = some C
  | .clo f c q σd is ds, v => (v = .ref f ∧ H c = some (LamX.CodeO c q)) ∧ ∃ vs, (∀ (j i : Nat), is[j]? = some i → ∃ w, vs[j]? = some w ∧ σd[i]? = some (some w)) ∧ Reps F L H ds vs
  | .exc c fs, v => ∃ a C dd, v = .ref a ∧ F.cl c = some C ∧ ExAt H C a dd ∧ a ∉ L ∧ (match dd with | none => fs = [] | some x => ∃ ws, H x = some (.xd ws) ∧ x ∉ L ∧ RepF F L H fs ws)
def Reps (F : Fx) (L : List Addr) (H : Hp) : List D → List V → Prop
  | [], vs => vs = []
  | d :: ds, vs => ∃ v r, vs = v :: r ∧ Rep F L H d v ∧ Reps F L H ds r
def RepF (F : Fx) (L : List Addr) (H : Hp) : List (Str × D) → List (Str × V) → Prop
  | [], ws => ws = []
  | (f, d) :: fs, ws => ∃ v r, ws = (f, v) :: r ∧ Rep F L H d v ∧ RepF F L H fs r
end
def ObR (F : Fx) (L : List Addr) (H : Hp) (a : Addr) : Ob → Prop
  | .lst ds => ∃ vs, H a = some (.lst vs) ∧ Reps F L H ds vs
/-- the store as it lies -/
structure SM (F : Fx) (L : List Addr) (H : Hp) (M : Store) : Prop where
  len : L.length = M.length
  nd : L.Nodup
  obs : ∀ (n : Nat) (a : Addr) (o : Ob), L[n]? = some a → M[n]? = some o → ObR F L H a o
  tbs : LamX.Tabs F.T H
/-- no table -/
abbrev NoTb (o : HO) : Prop := ∀ ps, o ≠ .tbl ps
/-- one state after another: what was known stays, but for the store and the tables; the store's new places were free -/
structure Stp (L : List Addr) (H : Hp) (L' : List Addr) (H' : Hp) : Prop where
  ext : ∀ a o, H a = some o → a ∉ L → (∀ ps, o ≠ .tbl ps) → H' a = some o
  new : ∃ N, L' = L ++ N ∧ ∀ x ∈ N, ∀ o, H x = some o → ∃ ps, o = .tbl ps
  dom : ∀ a o, H a = some o → NoTb o → ∃ u, H' a = some u ∧ NoTb u
theorem Stp.refl (L : List Addr) (H : Hp) : Stp L H L H := ⟨fun _ _ e _ _ => e, ⟨[], (List.append_nil L).symm, fun x hx => absurd hx (by simp)⟩, fun a o e n => ⟨o, e, n⟩⟩
theorem Stp.trans {L L1 L2 : List Addr} {H H1 H2 : Hp} (a : Stp L H L1 H1) (b : Stp L1 H1 L2 H2) : Stp L H L2 H2 := by
  obtain ⟨N1, e1, f1⟩ := a.new
  obtain ⟨N2, e2, f2⟩ := b.new
  refine ⟨fun x o hx hn ht => b.ext x o (a.ext x o hx hn ht) ?_ ht, ⟨N1 ++ N2, by rw [e2, e1, List.append_assoc], fun x hx o ho => ?_⟩, fun x o hx ht => ?_⟩
  · rw [e1]
    intro z
    rcases List.mem_append.mp z with z | z
    · exact hn z
    · obtain ⟨ps, q⟩ := f1 x z o hx
      exact ht ps q
  · rcases List.mem_append.mp hx with z | z
    · exact f1 x z o ho
    · apply Classical.byContradiction
      intro hc
      obtain ⟨u, h1, h2⟩ := a.dom x o ho (fun ps q => hc ⟨ps, q⟩)
      obtain ⟨ps, q⟩ := f2 x z u h1
      exact h2 ps q
  · obtain ⟨u, h1, h2⟩ := a.dom x o hx ht
    exact b.dom x u h1 h2
/-- a new object beside the store -/
theorem Stp.alloc {L : List Addr} {H : Hp} {p : Addr} {o : HO} (hp : H p = none) : Stp L H L (upd H p o) := by
  refine ⟨fun a u e _ _ => ?_, ⟨[], (List.append_nil L).symm, fun x hx => absurd hx (by simp)⟩, fun a u e n => ⟨u, ?_, n⟩⟩
  · rw [upd_ne (ne_of_none e hp)]
    exact e
  · rw [upd_ne (ne_of_none e hp)]
    exact e
/-- a new object of the store -/
theorem Stp.alloc' {L : List Addr} {H : Hp} {p : Addr} {o : HO} (hp : H p = none) : Stp L H (L ++ [p]) (upd H p o) := by
  refine ⟨(Stp.alloc hp).ext, ⟨[p], rfl, fun x hx u hu => ?_⟩, (Stp.alloc (L := L) hp).dom⟩
  have e : x = p := by simpa using hx
  rw [e, hp] at hu
  cases hu
/-- an object of the store is changed -/
theorem Stp.put {L : List Addr} {H : Hp} {p : Addr} {o : HO} (hp : p ∈ L) (hn : NoTb o := by exact fun ps z => nomatch z) : Stp L H L (upd H p o) := by
  refine ⟨fun a u e n _ => ?_, ⟨[], (List.append_nil L).symm, fun x hx => absurd hx (by simp)⟩, fun a u e n => ?_⟩
  · rw [upd_ne (fun z => n (by rw [z]; exact hp))]
    exact e
  · by_cases h : a = p
    · rw [h, upd_same]
      exact ⟨o, rfl, hn⟩
    · rw [upd_ne h]
      exact ⟨u, e, n⟩
section
variable {F : Fx} {L L' : List Addr} {H H' : Hp} {M M' : Store}
theorem Stp.get (s : Stp L H L' H') {n : Nat} {a : Addr} (e : L[n]? = some a) : L'[n]? = some a := by
  obtain ⟨N, rfl, _⟩ := s.new
  rw [List.getElem?_append_left (List.getElem?_eq_some_iff.mp e).1]
  exact e
theorem Stp.out (s : Stp L H L' H') {a : Addr} {o : HO} (e : H a = some o) (n : a ∉ L) (ht : NoTb o := by exact fun ps z => nomatch z) : a ∉ L' := by
  obtain ⟨N, rfl, f⟩ := s.new
  intro z
  rcases List.mem_append.mp z with z | z
  · exact n z
  · obtain ⟨ps, q⟩ := f a z o e
    exact ht ps q
theorem SM.get (m : SM F L H M) {n : Nat} {a : Addr} (e : L[n]? = some a) : ∃ o, M[n]? = some o ∧ ObR F L H a o := by
  have h : n < M.length := by rw [← m.len]; exact (List.getElem?_eq_some_iff.mp e).1
  exact ⟨M[n], List.getElem?_eq_getElem h, m.obs n a _ e (List.getElem?_eq_getElem h)⟩
theorem SM.kind (m : SM F L H M) {a : Addr} (e : a ∈ L) : ∃ vs, H a = some (.lst vs) := by
  obtain ⟨n, hn⟩ := List.mem_iff_getElem?.mp e
  obtain ⟨o, _, r⟩ := m.get hn
  cases o with
  | lst ds =>
    obtain ⟨vs, h, _⟩ := r
    exact ⟨vs, h⟩
/-- what is read of a thing that stays -/
theorem rd_stay (s : Stp L H L' H') {a : Addr} {u : HO} (h : Rd H a u) (n : a ∉ L) (ht : ∀ ps, u ≠ .tbl ps) : Rd H' a u := by
  rcases h with h | ⟨o, h⟩
  · exact .inl (s.ext a _ h n ht)
  · exact .inr ⟨o, s.ext a _ h n fun ps z => by cases z⟩
theorem tup_out (m : SM F L H M) {a : Addr} {vs : List V} (h : Rd H a (.tup vs)) : a ∉ L := fun z => by
  obtain ⟨ws, e⟩ := m.kind z
  rcases h with h | ⟨o, h⟩
  · rw [e] at h; cases h
  · rw [e] at h; cases h
theorem sqt_stay (m : SM F L H M) (s : Stp L H L' H') {a : Addr} {vs : List V} (h : SqT F.K H a vs) : SqT F.K H' a vs := by
  rcases h with h | h
  · exact .inl (rd_stay s h (tup_out m h) fun ps z => by cases z)
  · exact .inr h
theorem exat_stay (s : Stp L H L' H') {C a : Addr} {dd : Option Addr} (h : ExAt H C a dd) (n : a ∉ L) : ExAt H' C a dd ∧ a ∉ L' := by
  obtain ⟨φ, e, q⟩ := h
  exact ⟨⟨φ, s.ext a _ e n fun ps z => (by cases z), q⟩, s.out e n⟩
mutual
theorem Rep.stay (m : SM F L H M) (s : Stp L H L' H') : ∀ (d : D) (v : V), Rep F L H d v → Rep F L' H' d v
  | .non, _, h => h
  | .bl _, _, h => h
  | .int _, _, h => h
  | .str _, _, h => h
  | .ty _, _, h => h
  | .cls _, _, h => h
  | .clo f c q σd is ds, _, h => by
    obtain ⟨⟨h1, h2⟩, vs, h3, h4⟩ := h
    refine ⟨⟨h1, s.ext c _ h2 (fun z => ?_) fun ps z => ?_⟩, vs, h3, Reps.stay m s ds vs h4⟩
    · obtain ⟨ws, z⟩ := m.kind z
      rw [h2] at z
      unfold LamX.CodeO at z
      cases z
    · unfold LamX.CodeO at z
      cases z
  | .tup ds, _, h => by
    obtain ⟨a, vs, e, t, r⟩ := h
    exact ⟨a, vs, e, sqt_stay m s t, Reps.stay m s ds vs r⟩
  | .lst ds, _, h => by
    obtain ⟨a, vs, e, t, r⟩ := h
    exact ⟨a, vs, e, ⟨s.ext a _ t.1 t.2 fun ps z => (by cases z), s.out t.1 t.2⟩, Reps.stay m s ds vs r⟩
  | .scr ns, _, h => by
    obtain ⟨a, e, t⟩ := h
    refine ⟨a, e, ?_⟩
    rcases t with ⟨o, t⟩ | t
    · refine .inl ⟨o, s.ext a _ t (fun z => ?_) fun ps z => (by cases z)⟩
      obtain ⟨ws, q⟩ := m.kind z
      rw [q] at t
      cases t
    · exact .inr t
  | .emp, _, h => by
    obtain ⟨a, e, t, n⟩ := h
    exact ⟨a, e, s.ext a _ t n fun ps z => (by cases z), s.out t n⟩
  | .loc n, _, h => by
    obtain ⟨a, e, t⟩ := h
    exact ⟨a, e, s.get t⟩
  | .exc c fs, _, h => by
    obtain ⟨a, C, dd, e, hc, x, n, k⟩ := h
    obtain ⟨x', n'⟩ := exat_stay s x n
    refine ⟨a, C, dd, e, hc, x', n', ?_⟩
    cases dd with
    | none => exact k
    | some y =>
      obtain ⟨ws, h1, h2, h3⟩ := k
      exact ⟨ws, s.ext y _ h1 h2 fun ps z => (by cases z), s.out h1 h2, RepF.stay m s fs ws h3⟩
theorem Reps.stay (m : SM F L H M) (s : Stp L H L' H') : ∀ (ds : List D) (vs : List V), Reps F L H ds vs → Reps F L' H' ds vs
  | [], _, h => h
  | d :: ds, _, h => by
    obtain ⟨v, r, e, h1, h2⟩ := h
    exact ⟨v, r, e, Rep.stay m s d v h1, Reps.stay m s ds r h2⟩
theorem RepF.stay (m : SM F L H M) (s : Stp L H L' H') : ∀ (fs : List (Str × D)) (ws : List (Str × V)), RepF F L H fs ws → RepF F L' H' fs ws
  | [], _, h => h
  | (f, d) :: fs, _, h => by
    obtain ⟨v, r, e, h1, h2⟩ := h
    exact ⟨v, r, e, Rep.stay m s d v h1, RepF.stay m s fs r h2⟩
end
end
/-- the names' values -/
def EnvR (F : Fx) (L : List Addr) (H : Hp) (e : Env) (σ : St) : Prop := ∀ (i : Nat) (d : D), e[i]? = some (some d) → ∃ v, σ[i]? = some (some v) ∧ Rep F L H d v
structure SR (F : Fx) (L : List Addr) (H : Hp) (M : Store) (e : Env) (σ : St) : Prop where
  l : σ.length = e.length
  m : SM F L H M
  e : EnvR F L H e σ
theorem EnvR.stay {F : Fx} {L L' : List Addr} {H H' : Hp} {M : Store} {e : Env} {σ : St} (m : SM F L H M) (s : Stp L H L' H') (h : EnvR F L H e σ) : EnvR F L' H' e σ := fun i d q => by
  obtain ⟨v, h1, h2⟩ := h i d q
  exact ⟨v, h1, Rep.stay m s d v h2⟩
theorem SR.stay {F : Fx} {L L' : List Addr} {H H' : Hp} {M M' : Store} {e : Env} {σ : St} (h : SR F L H M e σ) (s : Stp L H L' H') (m : SM F L' H' M') : SR F L' H' M' e σ := ⟨h.l, m, h.e.stay h.m s⟩
/-- an object beside the store leaves the store -/
theorem SM.alloc {F : Fx} {L : List Addr} {H : Hp} {M : Store} {p : Addr} {o : HO} (m : SM F L H M) (hp : H p = none) : SM F L (upd H p o) M := by
  have s : Stp L H L (upd H p o) := Stp.alloc hp
  refine ⟨m.len, m.nd, fun n a ob h1 h2 => ?_, m.tbs.ext fun b x e => by rw [upd_ne (ne_of_none e hp)]; exact e⟩
  have r := m.obs n a ob h1 h2
  cases ob with
  | lst ds =>
    obtain ⟨vs, h3, h4⟩ := r
    refine ⟨vs, ?_, Reps.stay m s ds vs h4⟩
    rw [upd_ne (ne_of_none h3 hp)]
    exact h3
/-- an exception that leaves: its class, its fields by its own dict -/
def ExR (F : Fx) (L : List Addr) (H : Hp) (c : String) (fs : List (Str × D)) (cls : Value) (dd : Option Addr) : Prop :=
  ∃ C, F.cl c = some C ∧ cls = .ref C ∧ (match dd with | none => fs = [] | some x => ∃ ws, H x = some (.xd ws) ∧ x ∉ L ∧ RepF F L H fs ws)
/-- a result: a value, or an exception; and the store. none: nothing is said -/
inductive Out (α : Type) where
  | val (d : α)
  | exc (c : String) (fs : List (Str × D))
abbrev RD (α : Type) := Option (Out α × Store)
abbrev RE := RD D
abbrev DenE := Env → Store → RE
def ok {α : Type} (d : α) (M : Store) : RD α := some (.val d, M)
def bindE {α β : Type} (r : RD α) (f : α → Store → RD β) : RD β := match r with
  | some (.val d, M) => f d M
  | some (.exc c fs, M) => some (.exc c fs, M)
  | none => none
/-- what is wanted of a result; rp: how it lies -/
def PostG {α β : Type} (F : Fx) (rp : List Addr → Hp → α → β → Prop) (e : Env) (L : List Addr) (H : Hp) (σ : St) (W : WX) (Q : β → Hp → Prop) : RD α → Prop
  | some (.val d, M') => ∀ (L' : List Addr) (H' : Hp) (v : β), Stp L H L' H' → SR F L' H' M' e σ → rp L' H' d v → Q v H'
  | some (.exc c fs, M') => ∀ (L' : List Addr) (H' : Hp) (cls : Value) (dd : Option Addr), Stp L H L' H' → SR F L' H' M' e σ → ExR F L' H' c fs cls dd → W cls dd σ H'
  | none => False
abbrev Post (F : Fx) := PostG (α := D) (β := V) F (Rep F)
abbrev PostA (F : Fx) := PostG (α := List D) (β := List V) F (Reps F)
/-- the expression x is den; a test; arguments -/
def DE (F : Fx) (X : Cx) (W : WX) (x : Expr) (den : DenE) : Prop :=
  ∃ t, PE X x t ∧ ∀ (e : Env) (M : Store) (L : List Addr) (σ : St) (H : Hp) (Q : VK), SR F L H M e σ → Post F e L H σ W Q (den e M) → t σ H Q
def DT (F : Fx) (X : Cx) (W : WX) (x : Expr) (den : DenE) : Prop :=
  ∃ t, PT X x t ∧ ∀ (e : Env) (M : Store) (L : List Addr) (σ : St) (H : Hp) (Q : Bool → Hp → Prop), SR F L H M e σ → Post F e L H σ W (fun v H' => ∃ b, v = .bl b ∧ Q b H') (den e M) → t σ H Q
def DW (F : Fx) (X : Cx) (W : WX) (x : Expr) (den : DenE) : Prop :=
  ∃ t, PW X x t ∧ ∀ (e : Env) (M : Store) (L : List Addr) (σ : St) (H : Hp) (Q : Bool → Hp → Prop), SR F L H M e σ → Post F e L H σ W (fun v H' => ∃ b, v = .bl b ∧ Q b H') (den e M) → t σ H Q
def DA (F : Fx) (X : Cx) (W : WX) (xs : List Expr) (den : Env → Store → RD (List D)) : Prop :=
  ∃ t, PA X xs t ∧ ∀ (e : Env) (M : Store) (L : List Addr) (σ : St) (H : Hp) (Q : List V → Hp → Prop), SR F L H M e σ → PostA F e L H σ W Q (den e M) → t σ H Q
section
variable {α β γ δ : Type} {F : Fx} {rp : List Addr → Hp → α → β → Prop} {rq : List Addr → Hp → γ → δ → Prop} {e : Env} {L L1 : List Addr} {H H1 : Hp} {M : Store} {σ : St} {W : WX} {Q Q' : β → Hp → Prop} {P : δ → Hp → Prop}
/-- as Post, from a state further on -/
theorem PostG.go (s : Stp L H L1 H1) : ∀ {r : RD α}, PostG F rp e L H σ W Q r → PostG F rp e L1 H1 σ W Q r
  | some (.val d, M'), h => fun L' H' v s' r rv => h L' H' v (s.trans s') r rv
  | some (.exc c fs, M'), h => fun L' H' cls dd s' r rv => h L' H' cls dd (s.trans s') r rv
  | none, h => h
/-- one behind the other -/
theorem PostG.bind {f : α → Store → RD γ} (k : ∀ d M1 L1 H1 v, Stp L H L1 H1 → SR F L1 H1 M1 e σ → rp L1 H1 d v → PostG F rq e L1 H1 σ W P (f d M1) → Q v H1) :
    ∀ {r : RD α}, PostG F rq e L H σ W P (bindE r f) → PostG F rp e L H σ W Q r
  | some (.val d, M1), h => fun L1 H1 v s r rv => k d M1 L1 H1 v s r rv (PostG.go s h)
  | some (.exc c fs, M1), h => h
  | none, h => h
theorem PostG.ok {d : α} {v : β} (h : PostG F rp e L H σ W Q (ok d M)) (r : SR F L H M e σ) (rv : rp L H d v) : Q v H := h L H v (Stp.refl L H) r rv
end
end DL
namespace DL
open PySem L2
def nameD (i : Nat) : DenE := fun e M => match e[i]? with
  | some (some d) => ok d M
  | _ => none
def cD (d : D) : DenE := fun _ M => ok d M
/-- the list behind a value -/
def getL (M : Store) : D → Option (List D)
  | .lst ds => some ds
  | .scr ns => some (ns.map D.int)
  | .loc n => match M[n]? with
    | some (.lst ds) => some ds
    | none => none
  | _ => none
def truD (M : Store) : D → Option Bool
  | .non => some false
  | .bl b => some b
  | .int i => some (i != 0)
  | .str x => if x.length ≤ sizeLine then some ((x.length : Int) != 0) else none
  | .tup ds => some (!ds.isEmpty)
  | .lst ds => some (!ds.isEmpty)
  | .scr ns => some (!(ns.map D.int).isEmpty)
  | .emp => some false
  | .loc n => (getL M (.loc n)).map fun ds => !ds.isEmpty
  | _ => none
section
variable {F : Fx} {X : Cx} {W : WX} {L : List Addr} {H : Hp} {M : Store} {e : Env} {σ : St}
theorem de_name (i : Nat) {x : Str} {pos : Pos} (hN : X.N[i]? = some x := by rfl) (hv : Vis X.env.scope x := by first | exact Or.inl rfl | exact Or.inr (Or.inl rfl) | exact Or.inr (Or.inr rfl)) (h1 : (x == ("__debug__" : Str)) = false := by decide)
    (h2 : (x == ("__classdict__" : Str)) = false := by decide) : DE F X W (.Name x pos) (nameD i) := by
  refine ⟨tVar i, pe_var hN hv h1 h2, fun e M L σ H Q r p => ?_⟩
  unfold nameD at p
  split at p
  · rename_i d hd
    obtain ⟨v, a, b⟩ := r.e i d hd
    exact ⟨v, a, p.ok r b⟩
  · exact False.elim p
theorem de_int {i : Int} {j pos} : DE F X W (.Constant (.int i) j pos) (cD (.int i)) := ⟨_, pe_int, fun e M L σ H Q r p => p.ok r rfl⟩
theorem de_bl {b : Bool} {j pos} : DE F X W (.Constant (.bool b) j pos) (cD (.bl b)) := ⟨_, pe_bl, fun e M L σ H Q r p => p.ok r rfl⟩
theorem de_non {j pos} : DE F X W (.Constant .none j pos) (cD .non) := ⟨_, pe_non, fun e M L σ H Q r p => p.ok r rfl⟩
theorem de_str {x : Str} {j pos} : DE F X W (.Constant (.str x) j pos) (cD (.str x)) := ⟨_, pe_str, fun e M L σ H Q r p => p.ok r rfl⟩
/-- reading behind what is represented -/
theorem reps_len : ∀ {ds : List D} {vs : List V}, Reps F L H ds vs → ds.length = vs.length
  | [], _, h => by
    have h' : _ = [] := h
    rw [h']
    rfl
  | d :: ds, _, h => by
    obtain ⟨v, r, rfl, _, h2⟩ := h
    rw [List.length_cons, List.length_cons, reps_len h2]
theorem reps_get : ∀ {ds : List D} {vs : List V} {j : Nat} {d : D}, Reps F L H ds vs → ds[j]? = some d → ∃ v, vs[j]? = some v ∧ Rep F L H d v
  | [], _, _, _, _, q => by simp at q
  | a :: ds, _, 0, d, h, q => by
    obtain ⟨v, r, rfl, h1, h2⟩ := h
    have q' : a = d := by simpa using q
    subst q'
    exact ⟨v, rfl, h1⟩
  | a :: ds, _, j + 1, d, h, q => by
    obtain ⟨v, r, rfl, h1, h2⟩ := h
    obtain ⟨u, h3, h4⟩ := reps_get (j := j) h2 (by simpa using q)
    exact ⟨u, by simpa using h3, h4⟩
theorem reps_app : ∀ {ds es : List D} {vs ws : List V}, Reps F L H ds vs → Reps F L H es ws → Reps F L H (ds ++ es) (vs ++ ws)
  | [], _, _, _, h, k => by
    have h' : _ = [] := h
    rw [h']
    exact k
  | d :: ds, _, _, _, h, k => by
    obtain ⟨v, r, rfl, h1, h2⟩ := h
    exact ⟨v, r ++ _, rfl, h1, reps_app h2 k⟩
theorem reps_snoc {ds : List D} {vs : List V} {d : D} {v : V} (h : Reps F L H ds vs) (k : Rep F L H d v) : Reps F L H (ds ++ [d]) (vs ++ [v]) := reps_app h ⟨v, [], rfl, k, rfl⟩
theorem reps_set : ∀ {ds : List D} {vs : List V} {d : D} {v : V} (j : Nat), Reps F L H ds vs → Rep F L H d v → Reps F L H (ds.set j d) (vs.set j v)
  | [], _, _, _, j, h, _ => by
    have h' : _ = [] := h
    rw [h']
    exact (rfl : ([] : List V) = [])
  | a :: ds, _, d, v, 0, h, k => by
    obtain ⟨w, r, rfl, h1, h2⟩ := h
    exact ⟨v, r, rfl, k, h2⟩
  | a :: ds, _, d, v, j + 1, h, k => by
    obtain ⟨w, r, rfl, h1, h2⟩ := h
    exact ⟨w, _, rfl, h1, reps_set j h2 k⟩
theorem reps_ints : ∀ (ns : List Int), Reps F L H (ns.map D.int) (ns.map V.int)
  | [] => rfl
  | n :: ns => ⟨.int n, _, rfl, rfl, reps_ints ns⟩
/-- the list behind a represented value -/
theorem getL_sq (hm : SM F L H M) {d : D} {ds : List D} {v : V} (g : getL M d = some ds) (r : Rep F L H d v) : ∃ a vs, v = .ref a ∧ SqL F.K H a vs ∧ Reps F L H ds vs := by
  cases d with
  | lst es =>
    have g' : es = ds := Option.some.inj g
    subst g'
    obtain ⟨a, vs, e1, e2, e3⟩ := r
    exact ⟨a, vs, e1, .inl (.inl e2.1), e3⟩
  | scr ns =>
    have g' : ns.map D.int = ds := Option.some.inj g
    subst g'
    obtain ⟨a, e1, e2⟩ := r
    refine ⟨a, _, e1, ?_, reps_ints ns⟩
    rcases e2 with ⟨o, e2⟩ | e2
    · exact .inl (.inr ⟨o, e2⟩)
    · exact .inr e2
  | loc n =>
    obtain ⟨a, e1, e2⟩ := r
    obtain ⟨o, h1, h2⟩ := hm.get e2
    cases o with
    | lst es =>
      unfold getL at g
      dsimp only at g
      rw [h1] at g
      have g' : es = ds := Option.some.inj g
      subst g'
      obtain ⟨vs, h3, h4⟩ := h2
      exact ⟨a, vs, e1, .inl (.inl h3), h4⟩
  | non => exact nomatch g
  | bl b => exact nomatch g
  | int i => exact nomatch g
  | str x => exact nomatch g
  | tup es => exact nomatch g
  | emp => exact nomatch g
  | exc c fs => exact nomatch g
  | ty c => exact nomatch g
  | cls c => exact nomatch g
  | clo f c q σd is ds => exact nomatch g
theorem tru_of (hm : SM F L H M) {d : D} {v : V} {b : Bool} (g : truD M d = some b) (r : Rep F L H d v) : TruV F.K v H b := by
  have emp : ∀ {ds : List D} {vs : List V}, Reps F L H ds vs → (!ds.isEmpty) = !vs.isEmpty := fun {ds vs} h => by
    have l := reps_len h
    cases ds with
    | nil =>
      cases vs with
      | nil => rfl
      | cons y ys => simp at l
    | cons x xs =>
      cases vs with
      | nil => simp at l
      | cons y ys => rfl
  cases d with
  | non =>
    have r' : v = .non := r
    subst r'
    exact (Option.some.inj g).symm
  | bl c =>
    have r' : v = .bl c := r
    subst r'
    exact (Option.some.inj g).symm
  | int i =>
    have r' : v = .int i := r
    subst r'
    exact (Option.some.inj g).symm
  | str x =>
    have r' : v = .str x := r
    subst r'
    unfold truD at g
    dsimp only at g
    split at g
    · rename_i hx
      exact ⟨hx, (Option.some.inj g).symm⟩
    · cases g
  | tup ds =>
    obtain ⟨a, vs, rfl, e2, e3⟩ := r
    have g' : (!ds.isEmpty) = b := Option.some.inj g
    exact .inr (.inl ⟨vs, e2, by rw [← g', emp e3]⟩)
  | lst ds =>
    obtain ⟨a, vs, rfl, e2, e3⟩ := getL_sq (ds := ds) hm rfl r
    have g' : (!ds.isEmpty) = b := Option.some.inj g
    exact .inl ⟨vs, e2, by rw [← g', emp e3]⟩
  | scr ns =>
    obtain ⟨a, vs, rfl, e2, e3⟩ := getL_sq (ds := ns.map D.int) hm rfl r
    have g' : (!(ns.map D.int).isEmpty) = b := Option.some.inj g
    exact .inl ⟨vs, e2, by rw [← g', emp e3]⟩
  | emp =>
    obtain ⟨a, rfl, e2, _⟩ := r
    exact .inr (.inr ⟨[], e2, (Option.some.inj g).symm⟩)
  | loc n =>
    unfold truD at g
    dsimp only at g
    cases q : getL M (.loc n) with
    | none => rw [q] at g; cases g
    | some ds =>
      rw [q] at g
      obtain ⟨a, vs, rfl, e2, e3⟩ := getL_sq hm q r
      have g' : (!ds.isEmpty) = b := Option.some.inj g
      exact .inl ⟨vs, e2, by rw [← g', emp e3]⟩
  | exc c fs => cases g
  | ty c => cases g
  | cls c => cases g
  | clo f c q σd is ds => cases g
/-- a value as a test -/
def asT (d : D) (M : Store) : RE := match truD M d with
  | some b => ok (.bl b) M
  | none => none
theorem dt_val (hK : X.K = F.K := by rfl) {x : Expr} {da : DenE} (ha : DE F X W x da) (he : ∀ whole, isTrue x X.env whole = (do let v ← whole; standAt x.pos; holding [v] (truthy v)) := by intro _; rfl) : DT F X W x (fun e M => bindE (da e M) asT) := by
  obtain ⟨t, p1, p2⟩ := ha
  refine ⟨_, pt_truth p1 he, fun e M L σ H Q r p => ?_⟩
  refine p2 e M L σ H _ r (PostG.bind (fun d M1 L1 H1 v s1 r1 rv q => ?_) p)
  unfold asT at q
  split at q
  · rename_i b hb
    obtain ⟨b', e1, e2⟩ := q.ok r1 rfl
    cases e1
    exact ⟨b, by rw [hK]; exact tru_of r1.m hb rv, e2⟩
  · exact False.elim q
/-- an operator by its reading r does f -/
def OpOk (F : Fx) (r : R2) (f : D → D → Store → RE) : Prop := ∀ (d1 d2 : D) (M : Store) (L : List Addr) (H : Hp) (e : Env) (σ : St) (W : WX) (v1 v2 : V) (Q : VK), SR F L H M e σ → Rep F L H d1 v1 → Rep F L H d2 v2 → Post F e L H σ W Q (f d1 d2 M) → r v1 v2 H Q
def binD (f : D → D → Store → RE) (da db : DenE) : DenE := fun e M => bindE (da e M) fun d1 M1 => bindE (db e M1) fun d2 M2 => f d1 d2 M2
theorem bin_ok {x y : Expr} {da db : DenE} {ta tb : TE} {r : R2} {f : D → D → Store → RE} (hf : OpOk F r f)
    (ha : ∀ (e : Env) (M : Store) (L : List Addr) (σ : St) (H : Hp) (Q : VK), SR F L H M e σ → Post F e L H σ W Q (da e M) → ta σ H Q)
    (hb : ∀ (e : Env) (M : Store) (L : List Addr) (σ : St) (H : Hp) (Q : VK), SR F L H M e σ → Post F e L H σ W Q (db e M) → tb σ H Q)
    (e : Env) (M : Store) (L : List Addr) (σ : St) (H : Hp) (Q : VK) (sr : SR F L H M e σ) (p : Post F e L H σ W Q (binD f da db e M)) : tOp r ta tb σ H Q := by
  refine ha e M L σ H _ sr (PostG.bind (fun d1 M1 L1 H1 v1 s1 r1 rv1 q => ?_) p)
  refine hb e M1 L1 σ H1 _ r1 (PostG.bind (fun d2 M2 L2 H2 v2 s2 r2 rv2 q2 => ?_) q)
  exact hf d1 d2 M2 L2 H2 e σ W v1 v2 Q r2 (Rep.stay r1.m s2 d1 v1 rv1) rv2 q2
theorem de_bin {op : Operator} {r : R2} {f : D → D → Store → RE} {x y : Expr} {da db : DenE} {pos : Pos} (hf : OpOk F r f) (ho : OpR X (binaryOp op) r) (ha : DE F X W x da) (hb : DE F X W y db) : DE F X W (.BinOp x op y pos) (binD f da db) := by
  obtain ⟨ta, pa, qa⟩ := ha
  obtain ⟨tb, pb, qb⟩ := hb
  exact ⟨_, pe_op ho pa pb, bin_ok (x := x) (y := y) hf qa qb⟩
theorem de_cmp {op : CmpOp} {r : R2} {f : D → D → Store → RE} {x y : Expr} {da db : DenE} {pos : Pos} (hf : OpOk F r f) (ho : OpR X (compareOp op) r) (ha : DE F X W x da) (hb : DE F X W y db) (hm : behindInMarks op y = false) : DE F X W (.Compare x [op] [y] pos) (binD f da db) := by
  obtain ⟨ta, pa, qa⟩ := ha
  obtain ⟨tb, pb, qb⟩ := hb
  exact ⟨_, pe_cmpR ho pa pb hm, bin_ok (x := x) (y := y) hf qa qb⟩
theorem dt_cmp {op : CmpOp} {r : R2} {f : D → D → Store → RE} {x y : Expr} {da db : DenE} {pos : Pos} (hf : OpOk F r f) (ho : OpR X (compareOp op) r) (ha : DE F X W x da) (hb : DE F X W y db) (hm : behindInMarks op y = false) : DT F X W (.Compare x [op] [y] pos) (binD f da db) := by
  obtain ⟨ta, pa, qa⟩ := ha
  obtain ⟨tb, pb, qb⟩ := hb
  exact ⟨_, pt_cmpR ho pa pb hm, fun e M L σ H Q sr p => bin_ok (x := x) (y := y) hf qa qb e M L σ H _ sr p⟩
theorem orR {g : Value → Value → Sem Value} {r r' : R2} (h : OpR X g r) (h' : OpR X g r') : OpR X g (fun x y H Q => r x y H Q ∨ r' x y H Q) := by
  intro p₀ s₀ σ₀ H₀ x y v u Q₀ I₀ rx ry q
  rcases q with q | q
  · exact h p₀ s₀ σ₀ H₀ x y v u Q₀ I₀ rx ry q
  · exact h' p₀ s₀ σ₀ H₀ x y v u Q₀ I₀ rx ry q
def unD (f : D → Store → RE) (da : DenE) : DenE := fun e M => bindE (da e M) f
def UnOk (F : Fx) (r : V → Hp → VK → Prop) (f : D → Store → RE) : Prop := ∀ (d : D) (M : Store) (L : List Addr) (H : Hp) (e : Env) (σ : St) (W : WX) (v : V) (Q : VK), SR F L H M e σ → Rep F L H d v → Post F e L H σ W Q (f d M) → r v H Q
theorem de_un {op : UnaryOp} {r : V → Hp → VK → Prop} {f : D → Store → RE} {x : Expr} {da : DenE} {pos : Pos} (hf : UnOk F r f) (ho : UnR X (unaryOp op) r) (ha : DE F X W x da) : DE F X W (.UnaryOp op x pos) (unD f da) := by
  obtain ⟨ta, pa, qa⟩ := ha
  exact ⟨_, pe_un ho pa, fun e M L σ H Q sr p => qa e M L σ H _ sr (PostG.bind (fun d1 M1 L1 H1 v1 s1 r1 rv1 q => hf d1 M1 L1 H1 e σ W v1 Q r1 rv1 q) p)⟩
def negF : D → Store → RE
  | .int i, M => ok (.int (-i)) M
  | _, _ => none
theorem neg_ok : UnOk F (rU fun i => .int (-i)) negF := fun d M L H e σ W v Q sr rv p => by
  unfold negF at p
  split at p
  · rename_i i
    have q : v = .int i := rv
    subst q
    exact ⟨i, rfl, p.ok sr rfl⟩
  · exact False.elim p
/-- two ints -/
def intF (c : Int → Int → Bool) (g : Int → Int → D) : D → D → Store → RE
  | .int i, .int j, M => if c i j = true then ok (g i j) M else none
  | _, _, _ => none
theorem int_ok {C : Int → Int → Prop} {c : Int → Int → Bool} {g : Int → Int → V} {g' : Int → Int → D} (hc : ∀ i j, c i j = true → C i j) (hg : ∀ L H i j, Rep F L H (g' i j) (g i j)) : OpOk F (rI C g) (intF c g') := fun d1 d2 M L H e σ W v1 v2 Q sr r1 r2 p => by
  unfold intF at p
  split at p
  · rename_i i j
    have q1 : v1 = .int i := r1
    have q2 : v2 = .int j := r2
    subst q1 q2
    split at p
    · rename_i h
      exact ⟨i, j, rfl, rfl, hc i j h, p.ok sr (hg L H i j)⟩
    · exact False.elim p
  · exact False.elim p
def intF0 (g : Int → Int → D) : D → D → Store → RE
  | .int i, .int j, M => ok (g i j) M
  | _, _, _ => none
theorem int_ok0 {g : Int → Int → V} {g' : Int → Int → D} (hg : ∀ L H i j, Rep F L H (g' i j) (g i j)) : OpOk F (rI0 g) (intF0 g') := fun d1 d2 M L H e σ W v1 v2 Q sr r1 r2 p => by
  unfold intF0 at p
  split at p
  · rename_i i j
    have q1 : v1 = .int i := r1
    have q2 : v2 = .int j := r2
    subst q1 q2
    exact ⟨i, j, rfl, rfl, p.ok sr (hg L H i j)⟩
  · exact False.elim p
abbrev subF := intF0 fun i j => .int (i - j)
theorem sub_ok : OpOk F (rI0 fun i j => .int (i - j)) subF := int_ok0 fun _ _ _ _ => rfl
abbrev andF := intF0 fun i j => .int (Builtin.bitAnd i j)
theorem and_ok : OpOk F (rI0 fun i j => .int (Builtin.bitAnd i j)) andF := int_ok0 fun _ _ _ _ => rfl
abbrev ltF := intF0 fun i j => .bl (decide (i < j))
theorem lt_ok : OpOk F (rI0 fun i j => .bl (decide (i < j))) ltF := int_ok0 fun _ _ _ _ => rfl
abbrev gtF := intF0 fun i j => .bl (decide (j < i))
theorem gt_ok : OpOk F (rI0 fun i j => .bl (decide (j < i))) gtF := int_ok0 fun _ _ _ _ => rfl
abbrev geF := intF0 fun i j => .bl (decide (j ≤ i))
theorem ge_ok : OpOk F (rI0 fun i j => .bl (decide (j ≤ i))) geF := int_ok0 fun _ _ _ _ => rfl
end
end DL
namespace DL
open PySem L2
section
variable {F : Fx} {X : Cx} {W : WX} {L : List Addr} {H : Hp} {M : Store} {e : Env} {σ : St}
theorem fresh_out (m : SM F L H M) {p : Addr} (hp : H p = none) : p ∉ L := fun z => by
  obtain ⟨vs, q⟩ := m.kind z
  rw [hp] at q
  cases q
/-- a new list, a new tuple, as a value -/
theorem post_lst {Q : VK} {ds : List D} {vs : List V} {p : Addr} (h : Post F e L H σ W Q (ok (.lst ds) M)) (sr : SR F L H M e σ) (r : Reps F L H ds vs) (hp : H p = none) : Q (.ref p) (upd H p (.lst vs)) := by
  have s : Stp L H L (upd H p (.lst vs)) := Stp.alloc hp
  exact h L _ (.ref p) s (sr.stay s (sr.m.alloc hp)) ⟨p, vs, rfl, ⟨upd_same, fresh_out sr.m hp⟩, Reps.stay sr.m s ds vs r⟩
theorem post_tup {Q : VK} {ds : List D} {vs : List V} {p : Addr} (h : Post F e L H σ W Q (ok (.tup ds) M)) (sr : SR F L H M e σ) (r : Reps F L H ds vs) (hp : H p = none) : Q (.ref p) (upd H p (.tup vs)) := by
  have s : Stp L H L (upd H p (.tup vs)) := Stp.alloc hp
  exact h L _ (.ref p) s (sr.stay s (sr.m.alloc hp)) ⟨p, vs, rfl, .inl (.inl upd_same), Reps.stay sr.m s ds vs r⟩
/-- the list behind a value that is no script -/
def getW (M : Store) : D → Option (List D)
  | .scr _ => none
  | d => getL M d
theorem getW_lst (hm : SM F L H M) {d : D} {ds : List D} {v : V} (g : getW M d = some ds) (r : Rep F L H d v) : ∃ a vs, v = .ref a ∧ H a = some (.lst vs) ∧ Reps F L H ds vs := by
  cases d with
  | lst es =>
    have g' : es = ds := Option.some.inj g
    subst g'
    obtain ⟨a, vs, e1, e2, e3⟩ := r
    exact ⟨a, vs, e1, e2.1, e3⟩
  | loc n =>
    obtain ⟨a, e1, e2⟩ := r
    obtain ⟨o, h1, h2⟩ := hm.get e2
    cases o with
    | lst es =>
      unfold getW getL at g
      dsimp only at g
      rw [h1] at g
      have g' : es = ds := Option.some.inj g
      subst g'
      obtain ⟨vs, h3, h4⟩ := h2
      exact ⟨a, vs, e1, h3, h4⟩
  | scr ns => exact nomatch g
  | non => exact nomatch g
  | bl b => exact nomatch g
  | int i => exact nomatch g
  | str x => exact nomatch g
  | tup es => exact nomatch g
  | emp => exact nomatch g
  | exc c fs => exact nomatch g
  | ty c => exact nomatch g
  | cls c => exact nomatch g
  | clo f c q σd is ds => exact nomatch g
def addF : D → D → Store → RE
  | .int i, .int j, M => ok (.int (i + j)) M
  | .str x, .str y, M => if x.length + y.length ≤ sizeLine then ok (.str (x ++ y)) M else none
  | .tup xs, .tup ys, M => if xs.length + ys.length ≤ sizeLine ∧ xs ≠ [] then ok (.tup (xs ++ ys)) M else none
  | x, y, M => match getW M x, getW M y with
    | some xs, some ys => if xs.length + ys.length ≤ sizeLine then ok (.lst (xs ++ ys)) M else none
    | _, _ => none
abbrev rAddD (K : PySem.W.Frag) : R2 := fun x y H Q => (rI0 (fun i j => .int (i + j)) x y H Q) ∨ ((∃ i j, x = .str i ∧ y = .str j ∧ i.length + j.length ≤ sizeLine ∧ Q (.str (i ++ j)) H) ∨ (rCat x y H Q ∨ rCatT K x y H Q))
theorem opr_add : OpR X (binaryOp .Add) (rAddD X.K) := orR op_add (orR op_add_str (orR op_cat op_catT))
theorem add_ok : OpOk F (rAddD F.K) addF := fun d1 d2 M L H e σ W v1 v2 Q sr r1 r2 p => by
  unfold addF at p
  split at p
  · rename_i i j
    have q1 : v1 = .int i := r1
    have q2 : v2 = .int j := r2
    subst q1 q2
    exact .inl ⟨i, j, rfl, rfl, p.ok sr rfl⟩
  · rename_i x y
    have q1 : v1 = .str x := r1
    have q2 : v2 = .str y := r2
    subst q1 q2
    split at p
    · rename_i hz
      exact .inr (.inl ⟨x, y, rfl, rfl, hz, p.ok sr rfl⟩)
    · exact False.elim p
  · rename_i xs ys
    obtain ⟨a, vs, rfl, a2, a3⟩ := r1
    obtain ⟨b, ws, rfl, b2, b3⟩ := r2
    split at p
    · rename_i hz
      have l1 := reps_len a3
      have l2 := reps_len b3
      refine .inr (.inr (.inr ⟨a, b, vs, ws, rfl, rfl, a2, b2, fun z => hz.2 ?_, by rw [← l1, ← l2]; exact hz.1, fun z => ?_, fun z p' hp => ?_⟩))
      · rw [z] at l1
        exact List.length_eq_zero_iff.mp l1
      · have z2 : ys = [] := by
          rw [z] at l2
          exact List.length_eq_zero_iff.mp l2
        rw [z2, List.append_nil] at p
        exact p.ok sr ⟨a, vs, rfl, a2, a3⟩
      · exact post_tup p sr (reps_app a3 b3) hp
    · exact False.elim p
  · split at p
    · rename_i xs ys h1 h2
      obtain ⟨a, vs, rfl, a2, a3⟩ := getW_lst sr.m h1 r1
      obtain ⟨b, ws, rfl, b2, b3⟩ := getW_lst sr.m h2 r2
      split at p
      · rename_i hz
        have l1 := reps_len a3
        have l2 := reps_len b3
        exact .inr (.inr (.inl ⟨a, b, vs, ws, rfl, rfl, a2, b2, by rw [← l1, ← l2]; exact hz, fun p' hp => post_lst p sr (reps_app a3 b3) hp⟩))
      · exact False.elim p
    · exact False.elim p
def mulF : D → D → Store → RE
  | .int i, .int j, M => if i.natAbs.log2 + j.natAbs.log2 < 1000000 then ok (.int (i * j)) M else none
  | x, .int k, M => match getW M x with
    | some xs => if -(2 ^ 63) ≤ k ∧ k < 2 ^ 63 ∧ xs.length * k.toNat ≤ sizeLine then ok (.lst (List.replicate k.toNat xs).flatten) M else none
    | none => none
  | _, _, _ => none
abbrev rMulD : R2 := fun x y H Q => (rI CMulW (fun i j => .int (i * j)) x y H Q) ∨ rRep x y H Q
theorem opr_mul : OpR X (binaryOp .Mult) rMulD := orR op_mulW op_rep
theorem reps_rep {ds : List D} {vs : List V} (h : Reps F L H ds vs) : ∀ n : Nat, Reps F L H (List.replicate n ds).flatten (List.replicate n vs).flatten
  | 0 => (rfl : ([] : List V) = [])
  | n + 1 => by
    simp only [List.replicate_succ, List.flatten_cons]
    exact reps_app h (reps_rep h n)
theorem mul_ok : OpOk F rMulD mulF := fun d1 d2 M L H e σ W v1 v2 Q sr r1 r2 p => by
  unfold mulF at p
  split at p
  · rename_i i j
    have q1 : v1 = .int i := r1
    have q2 : v2 = .int j := r2
    subst q1 q2
    split at p
    · rename_i hz
      exact .inl ⟨i, j, rfl, rfl, hz, p.ok sr rfl⟩
    · exact False.elim p
  · rename_i k _
    have q2 : v2 = .int k := r2
    subst q2
    split at p
    · rename_i xs h1
      obtain ⟨a, vs, rfl, a2, a3⟩ := getW_lst sr.m h1 r1
      split at p
      · rename_i hz
        exact .inr ⟨a, k, vs, rfl, rfl, a2, hz.1, hz.2.1, by rw [← reps_len a3]; exact hz.2.2, fun p' hp => post_lst p sr (reps_rep a3 _) hp⟩
      · exact False.elim p
    · exact False.elim p
  · exact False.elim p
def CDivG (_ j : Int) : Prop := j ≠ 0 ∧ j.natAbs.log2 < 9000
theorem opr_fdiv : OpR X (binaryOp .FloorDiv) (rI CDivG fun i j => .int (i.fdiv j)) := opI fun i j t u s₀ Q₀ E₀ hc q => PyProof.Rows.floordiv_int hc.1 q (.inl (PyProof.noPylong_of_log2 hc.2))
abbrev fdivF := intF (fun _ j => decide (j ≠ 0 ∧ j.natAbs.log2 < 9000)) fun i j => .int (i.fdiv j)
theorem fdiv_ok : OpOk F (rI CDivG fun i j => .int (i.fdiv j)) fdivF := int_ok (fun i j h => of_decide_eq_true (p := j ≠ 0 ∧ j.natAbs.log2 < 9000) h) fun _ _ _ _ => rfl
abbrev fmodF := intF (fun _ j => decide (j ≠ 0)) fun i j => .int (i.fmod j)
theorem fmod_ok : OpOk F (rI (fun _ j => j ≠ 0) fun i j => .int (i.fmod j)) fmodF := int_ok (fun i j h => of_decide_eq_true h) fun _ _ _ _ => rfl
def CPowG (i j : Int) : Prop := 0 ≤ j ∧ (i.natAbs.log2 + 1) * j.toNat ≤ 134217728
theorem opr_pow : OpR X (binaryOp .Pow) (rI CPowG fun i j => .int (i ^ j.toNat)) := opI fun i j t u s₀ Q₀ E₀ hc q => by
  refine PyProof.Rows.pow_int hc.1 ?_ q
  obtain ⟨n, rfl⟩ := Int.eq_ofNat_of_zero_le hc.1
  have h2 := hc.2
  rw [Int.toNat_natCast] at h2
  have h3 : Builtin.Int.intBits i ≤ i.natAbs.log2 + 1 := by
    unfold Builtin.Int.intBits
    split
    · exact Nat.zero_le _
    · exact Nat.le_refl _
  have h4 : Builtin.Int.intBits i * n ≤ 134217728 := Nat.le_trans (Nat.mul_le_mul_right n h3) h2
  exact_mod_cast h4
abbrev powF := intF (fun i j => decide (0 ≤ j ∧ (i.natAbs.log2 + 1) * j.toNat ≤ 134217728)) fun i j => .int (i ^ j.toNat)
theorem pow_ok : OpOk F (rI CPowG fun i j => .int (i ^ j.toNat)) powF := int_ok (fun i j h => of_decide_eq_true (p := 0 ≤ j ∧ (i.natAbs.log2 + 1) * j.toNat ≤ 134217728) h) fun _ _ _ _ => rfl
abbrev shrF := intF (fun _ j => decide (0 ≤ j)) fun i j => .int (i / 2 ^ j.toNat)
theorem shr_ok : OpOk F (rI (fun _ j => 0 ≤ j) fun i j => .int (i / 2 ^ j.toNat)) shrF := int_ok (fun i j h => of_decide_eq_true h) fun _ _ _ _ => rfl
mutual
def D.py : D → Option PyData
  | .non => some .none
  | .bl b => some (.bool b)
  | .int i => some (.int i)
  | .str x => some (.str x)
  | .tup ds => (D.pys ds).map .tuple
  | .lst ds => (D.pys ds).map .list
  | _ => none
def D.pys : List D → Option (List PyData)
  | [] => some []
  | d :: ds => match D.py d, D.pys ds with
    | some p, some ps => some (p :: ps)
    | _, _ => none
end
/-- a value read whole -/
def pyV (M : Store) : D → Option PyData
  | .loc n => (getL M (.loc n)).bind fun ds => (D.pys ds).map .list
  | .scr ns => some (.list (ns.map .int))
  | d => D.py d
mutual
theorem dp_of : ∀ {d : D} {v : V} {p : PyData}, Rep F L H d v → D.py d = some p → Dp F.K H v p
  | .non, _, _, r, h => by
    have q : _ = V.non := r
    have h' : PyData.none = _ := Option.some.inj h
    rw [q, ← h']
    exact .non
  | .bl b, _, _, r, h => by
    have q : _ = V.bl b := r
    have h' : PyData.bool b = _ := Option.some.inj h
    rw [q, ← h']
    exact .bl b
  | .int i, _, _, r, h => by
    have q : _ = V.int i := r
    have h' : PyData.int i = _ := Option.some.inj h
    rw [q, ← h']
    exact .int i
  | .str x, _, _, r, h => by
    have q : _ = V.str x := r
    have h' : PyData.str x = _ := Option.some.inj h
    rw [q, ← h']
    exact .str x
  | .tup ds, _, _, r, h => by
    obtain ⟨a, vs, rfl, e2, e3⟩ := r
    have h1 : (D.pys ds).map PyData.tuple = _ := h
    cases q : D.pys ds with
    | none => rw [q] at h1; cases h1
    | some ps =>
      rw [q] at h1
      have h' : PyData.tuple ps = _ := Option.some.inj h1
      rw [← h']
      exact .tup e2 (dps_of e3 q)
  | .lst ds, _, _, r, h => by
    obtain ⟨a, vs, rfl, e2, e3⟩ := r
    have h1 : (D.pys ds).map PyData.list = _ := h
    cases q : D.pys ds with
    | none => rw [q] at h1; cases h1
    | some ps =>
      rw [q] at h1
      have h' : PyData.list ps = _ := Option.some.inj h1
      rw [← h']
      exact .lst (.inl (.inl e2.1)) (dps_of e3 q)
  | .scr _, _, _, _, h => nomatch h
  | .emp, _, _, _, h => nomatch h
  | .loc _, _, _, _, h => nomatch h
  | .exc _ _, _, _, _, h => nomatch h
  | .ty _, _, _, _, h => nomatch h
  | .cls _, _, _, _, h => nomatch h
  | .clo _ _ _ _ _ _, _, _, _, h => nomatch h
theorem dps_of : ∀ {ds : List D} {vs : List V} {ps : List PyData}, Reps F L H ds vs → D.pys ds = some ps → DpAll F.K H vs ps
  | [], _, _, r, h => by
    have q : _ = [] := r
    have h' : [] = _ := Option.some.inj h
    rw [q, ← h']
    exact .nil
  | d :: ds, _, _, r, h => by
    obtain ⟨v, vs, rfl, r1, r2⟩ := r
    unfold D.pys at h
    split at h
    · rename_i p ps h1 h2
      have h' : p :: ps = _ := Option.some.inj h
      rw [← h']
      exact .cons (dp_of r1 h1) (dps_of r2 h2)
    · cases h
end
theorem dps_ints : ∀ ns : List Int, DpAll F.K H (ns.map V.int) (ns.map PyData.int)
  | [] => .nil
  | n :: ns => .cons (.int n) (dps_ints ns)
theorem dp_at (hm : SM F L H M) {d : D} {v : V} {p : PyData} (r : Rep F L H d v) (h : pyV M d = some p) : Dp F.K H v p := by
  cases d with
  | loc n =>
    have h1 : (getL M (.loc n)).bind (fun ds => (D.pys ds).map PyData.list) = some p := h
    cases q : getL M (.loc n) with
    | none => rw [q] at h1; cases h1
    | some ds =>
      rw [q] at h1
      obtain ⟨a, vs, rfl, e2, e3⟩ := getL_sq hm q r
      have h2 : (D.pys ds).map PyData.list = some p := h1
      cases q2 : D.pys ds with
      | none => rw [q2] at h2; cases h2
      | some ps =>
        rw [q2] at h2
        have h' : PyData.list ps = p := Option.some.inj h2
        rw [← h']
        exact .lst e2 (dps_of e3 q2)
  | scr ns =>
    obtain ⟨a, vs, rfl, e2, e3⟩ := getL_sq (ds := ns.map D.int) hm rfl r
    obtain ⟨a', e1', e2'⟩ := r
    cases e1'
    have h' : PyData.list (ns.map .int) = p := Option.some.inj h
    rw [← h']
    have sq : SqL F.K H a (ns.map V.int) := by
      rcases e2' with ⟨o, e2'⟩ | e2'
      · exact .inl (.inr ⟨o, e2'⟩)
      · exact .inr e2'
    exact .lst sq (dps_ints ns)
  | non => exact dp_of r h
  | bl b => exact dp_of r h
  | int i => exact dp_of r h
  | str x => exact dp_of r h
  | tup es => exact dp_of r h
  | lst es => exact dp_of r h
  | emp => exact dp_of r h
  | exc c fs => exact dp_of r h
  | ty c => exact dp_of r h
  | cls c => exact dp_of r h
  | clo f c q σd is ds => exact dp_of r h
def eqvF (n : Bool) : D → D → Store → RE
  | .int i, .int j, M => ok (.bl (n != decide (i = j))) M
  | .str i, .str j, M => ok (.bl (n != decide (i = j))) M
  | x, y, M => match pyV M x, pyV M y with
    | some p, some q => if SeqAt.shaped p = true ∧ SeqAt.shaped q = true then ok (.bl (n != PyData.eqv p q)) M else none
    | _, _ => none
abbrev eqF := eqvF false
abbrev neF := eqvF true
abbrev rEqV (K : PySem.W.Frag) : R2 := fun x y H Q => rEq x y H Q ∨ rEqD K x y H Q
abbrev rNeV (K : PySem.W.Frag) : R2 := fun x y H Q => rNe x y H Q ∨ rNeD K x y H Q
theorem opr_eq (hu : X.A.units + 64 < cLine) : OpR X (compareOp .Eq) (rEqV X.K) := orR op_eq (op_eqD hu)
theorem opr_ne (hu : X.A.units + 64 < cLine) : OpR X (compareOp .NotEq) (rNeV X.K) := orR op_ne (op_neD hu)
theorem int_dec (i j : Int) : decide (V.int i = V.int j) = decide (i = j) := by
  by_cases h : i = j
  · rw [h, decide_eq_true rfl, decide_eq_true rfl]
  · rw [decide_eq_false h, decide_eq_false fun z => h (V.int.inj z)]
theorem str_dec (i j : Str) : decide (V.str i = V.str j) = decide (i = j) := by
  by_cases h : i = j
  · rw [h, decide_eq_true rfl, decide_eq_true rfl]
  · rw [decide_eq_false h, decide_eq_false fun z => h (V.str.inj z)]
theorem f_ne (b : Bool) : (false != b) = b := by cases b <;> rfl
theorem t_ne (b : Bool) : (true != b) = !b := by cases b <;> rfl
theorem eq_ok : OpOk F (rEqV F.K) eqF := fun d1 d2 M L H e σ W v1 v2 Q sr r1 r2 p => by
  unfold eqF eqvF at p
  split at p
  · rename_i i j
    have q1 : v1 = .int i := r1
    have q2 : v2 = .int j := r2
    subst q1 q2
    rw [f_ne, ← int_dec] at p
    exact .inl ⟨rfl, p.ok sr rfl⟩
  · rename_i i j
    have q1 : v1 = .str i := r1
    have q2 : v2 = .str j := r2
    subst q1 q2
    rw [f_ne, ← str_dec] at p
    exact .inl ⟨rfl, p.ok sr rfl⟩
  · split at p
    · rename_i a b h1 h2
      split at p
      · rename_i hs
        rw [f_ne] at p
        exact .inr ⟨a, b, dp_at sr.m r1 h1, dp_at sr.m r2 h2, hs.1, hs.2, p.ok sr rfl⟩
      · exact False.elim p
    · exact False.elim p
theorem ne_ok : OpOk F (rNeV F.K) neF := fun d1 d2 M L H e σ W v1 v2 Q sr r1 r2 p => by
  unfold neF eqvF at p
  split at p
  · rename_i i j
    have q1 : v1 = .int i := r1
    have q2 : v2 = .int j := r2
    subst q1 q2
    rw [t_ne, ← int_dec] at p
    exact .inl ⟨rfl, p.ok sr rfl⟩
  · rename_i i j
    have q1 : v1 = .str i := r1
    have q2 : v2 = .str j := r2
    subst q1 q2
    rw [t_ne, ← str_dec] at p
    exact .inl ⟨rfl, p.ok sr rfl⟩
  · split at p
    · rename_i a b h1 h2
      split at p
      · rename_i hs
        rw [t_ne] at p
        exact .inr ⟨a, b, dp_at sr.m r1 h1, dp_at sr.m r2 h2, hs.1, hs.2, p.ok sr rfl⟩
      · exact False.elim p
    · exact False.elim p
def isNone : D → Bool
  | .non => true
  | _ => false
theorem isNone_of {d : D} {v : V} (r : Rep F L H d v) : decide (v = .non) = isNone d := by
  cases d with
  | non =>
    have q : v = .non := r
    rw [q]
    rfl
  | bl b => rw [show v = .bl b from r]; rfl
  | int i => rw [show v = .int i from r]; rfl
  | str x => rw [show v = .str x from r]; rfl
  | ty n => rw [show v = .ty n from r]; rfl
  | cls c => obtain ⟨C, rfl, _⟩ := r; rfl
  | clo f c q σd is ds => obtain ⟨⟨rfl, _⟩, _⟩ := r; rfl
  | tup ds => obtain ⟨a, vs, rfl, _⟩ := r; rfl
  | lst ds => obtain ⟨a, vs, rfl, _⟩ := r; rfl
  | scr ds => obtain ⟨a, rfl, _⟩ := r; rfl
  | emp => obtain ⟨a, rfl, _⟩ := r; rfl
  | loc n => obtain ⟨a, rfl, _⟩ := r; rfl
  | exc c fs => obtain ⟨a, C, dd, rfl, _⟩ := r; rfl
def isF (n : Bool) : D → D → Store → RE
  | x, .non, M => ok (.bl (n != isNone x)) M
  | .ty a, .ty b, M => ok (.bl (n != decide (a = b))) M
  | _, _, _ => none
abbrev rIsV (n : Bool) : R2 := fun x y H Q => (y = .non ∧ Q (.bl (n != decide (x = .non))) H) ∨ ∃ a b, x = .ty a ∧ y = .ty b ∧ Q (.bl (n != decide (a = b))) H
theorem beq_type (a b : String) : (Value.type a == .type b) = decide (a = b) := by
  by_cases h : a = b
  · rw [h, decide_eq_true rfl, beq_self_eq_true]
  · rw [decide_eq_false h, beq_eq_false_iff_ne.mpr fun z => h (Value.type.inj z)]
theorem opr_is : OpR X (compareOp .Is) (rIsV false) := by
  refine orR (r := fun x y H Q => y = .non ∧ Q (.bl (false != decide (x = .non))) H) (fun p₀ s₀ σ₀ H₀ x y v u Q₀ I₀ rx ry q => ?_) (fun p₀ s₀ σ₀ H₀ x y v u Q₀ I₀ rx ry q => ?_)
  · obtain ⟨q1, q2⟩ := q
    rw [f_ne] at q2
    exact op_isN p₀ s₀ σ₀ H₀ x y v u Q₀ I₀ rx ry ⟨q1, q2⟩
  · obtain ⟨a, b, rfl, rfl, q2⟩ := q
    cases rx
    cases ry
    rw [f_ne] at q2
    exact wpAny_is_plain rfl ⟨_, H₀, I₀, by rw [beq_type]; rfl, q2⟩
theorem is_ok {n : Bool} : OpOk F (rIsV n) (isF n) := fun d1 d2 M L H e σ W v1 v2 Q sr r1 r2 p => by
  unfold isF at p
  split at p
  · have q2 : v2 = .non := r2
    rw [← isNone_of r1] at p
    exact .inl ⟨q2, p.ok sr rfl⟩
  · rename_i a b
    have q1 : v1 = .ty a := r1
    have q2 : v2 = .ty b := r2
    exact .inr ⟨a, b, q1, q2, p.ok sr rfl⟩
  · exact False.elim p
end
end DL
namespace DL
open PySem L2
section
variable {F : Fx} {X : Cx} {W : WX} {L : List Addr} {H : Hp} {M : Store} {e : Env} {σ : St}
theorem reps_at {ds : List D} {vs : List V} {i : Int} {d : D} (r : Reps F L H ds vs) (h : atI ds i = some d) : ∃ v, atI vs i = some v ∧ Rep F L H d v := by
  unfold atI at h ⊢
  rw [← reps_len r]
  cases q : ixN ds.length i with
  | none => rw [q] at h; cases h
  | some j =>
    rw [q] at h
    exact reps_get r h
def ixF : D → D → Store → RE
  | .tup ds, .int i, M => match atI ds i with
    | some d => ok d M
    | none => none
  | .str z, .int i, M => if z.length ≤ sizeLine then (match atI z.cps.toList i with
    | some c => ok (.str ⟨#[c]⟩) M
    | none => none) else none
  | x, .int i, M => match getL M x with
    | some ds => (match atI ds i with
      | some d => ok d M
      | none => none)
    | none => none
  | _, _, _ => none
abbrev rIxD (K : PySem.W.Frag) : R2 := fun x y H Q => rIxT K x y H Q ∨ (rIxS x y H Q ∨ rIxL K x y H Q)
theorem ixr_all : IxR X (rIxD X.K) := ix_tup.or (ix_str.or ix_list)
theorem ix_ok : OpOk F (rIxD F.K) ixF := fun d1 d2 M L H e σ W v1 v2 Q sr r1 r2 p => by
  unfold ixF at p
  split at p
  · rename_i ds i
    have q2 : v2 = .int i := r2
    subst q2
    obtain ⟨a, vs, rfl, a2, a3⟩ := r1
    split at p
    · rename_i d hd
      obtain ⟨v, h1, h2⟩ := reps_at a3 hd
      exact .inl ⟨a, vs, i, v, rfl, rfl, a2, h1, p.ok sr h2⟩
    · exact False.elim p
  · rename_i z i
    have q1 : v1 = .str z := r1
    have q2 : v2 = .int i := r2
    subst q1 q2
    split at p
    · rename_i hz
      split at p
      · rename_i c hc
        exact .inr (.inl ⟨z, i, c, rfl, rfl, hz, hc, p.ok sr rfl⟩)
      · exact False.elim p
    · exact False.elim p
  · rename_i i _ _
    have q2 : v2 = .int i := r2
    subst q2
    split at p
    · rename_i ds h1
      obtain ⟨a, vs, rfl, a2, a3⟩ := getL_sq sr.m h1 r1
      split at p
      · rename_i d hd
        obtain ⟨v, h3, h4⟩ := reps_at a3 hd
        exact .inr (.inr ⟨a, vs, i, v, rfl, rfl, a2, h3, p.ok sr h4⟩)
      · exact False.elim p
    · exact False.elim p
  · exact False.elim p
theorem de_ix {x y : Expr} {da db : DenE} {pos : Pos} (ha : DE F X W x da) (hb : DE F X W y db) (hK : X.K = F.K := by rfl) (hs : PlainIx y := by exact fun _ _ => rfl) : DE F X W (.Subscript x y pos) (binD ixF da db) := by
  obtain ⟨ta, pa, qa⟩ := ha
  obtain ⟨tb, pb, qb⟩ := hb
  have h := @ixr_all X
  rw [hK] at h
  exact ⟨_, pe_ix h pa pb hs, bin_ok (x := x) (y := y) ix_ok qa qb⟩
/-- a part of a slice: nothing, or an int -/
def DO (F : Fx) (X : Cx) (W : WX) (x : Option Expr) (den : Env → Store → RD (Option Int)) : Prop :=
  ∃ t, PO X x t ∧ ∀ (e : Env) (M : Store) (L : List Addr) (σ : St) (H : Hp) (Q : Option Int → Hp → Prop), SR F L H M e σ → PostG F (fun _ _ d v => d = v) e L H σ W Q (den e M) → t σ H Q
theorem do_none : DO F X W none (fun _ M => ok none M) := ⟨_, po_none, fun e M L σ H Q sr p => p.ok sr rfl⟩
theorem do_some {x : Expr} {da : DenE} (ha : DE F X W x da) : DO F X W (some x) (fun e M => bindE (da e M) fun d M1 => match d with
    | .int i => ok (some i) M1
    | _ => none) := by
  obtain ⟨ta, pa, qa⟩ := ha
  refine ⟨_, po_some pa, fun e M L σ H Q sr p => qa e M L σ H _ sr (PostG.bind (fun d M1 L1 H1 v s1 r1 rv q => ?_) p)⟩
  split at q
  · rename_i i
    exact ⟨i, rv, q.ok r1 rfl⟩
  · exact False.elim q
def pickL {α : Type} (xs : List α) (lo hi st : Option Int) : List α := (sliceRange (sliceBounds lo hi st xs.length).1 (sliceBounds lo hi st xs.length).2.1 (sliceBounds lo hi st xs.length).2.2).filterMap (xs[·]?)
theorem reps_pick {ds : List D} {vs : List V} (r : Reps F L H ds vs) : ∀ l : List Nat, Reps F L H (l.filterMap (ds[·]?)) (l.filterMap (vs[·]?))
  | [] => (rfl : ([] : List V) = [])
  | n :: l => by
    have ih := reps_pick r l
    rw [List.filterMap_cons, List.filterMap_cons]
    cases q : ds[n]? with
    | none =>
      have q2 : vs[n]? = none := by
        rw [List.getElem?_eq_none_iff] at q ⊢
        rw [← reps_len r]
        exact q
      rw [q2]
      exact ih
    | some d =>
      obtain ⟨v, h1, h2⟩ := reps_get r q
      rw [h1]
      exact ⟨v, _, rfl, h2, ih⟩
theorem vals_pick {vs : List V} {us : List Value} (r : Vals vs us) : ∀ l : List Nat, Vals (l.filterMap (vs[·]?)) (l.filterMap (us.toArray[·]?))
  | [] => .nil
  | n :: l => by
    have ih := vals_pick r l
    rw [List.filterMap_cons, List.filterMap_cons]
    cases q : vs[n]? with
    | none =>
      have q2 : us.toArray[n]? = none := by
        rw [List.getElem?_toArray]
        exact r.none_of q
      rw [q2]
      exact ih
    | some d =>
      obtain ⟨u, h1, h2⟩ := r.get q
      have q2 : us.toArray[n]? = some u := by
        rw [List.getElem?_toArray]
        exact h1
      rw [q2]
      exact .cons h2 ih
/-- xs[lo:hi:st], a list; the step is not 0 -/
def slcF (d : D) (lo hi st : Option Int) (M : Store) : RE := match getL M d with
  | some ds => if st = some 0 then none else ok (.lst (pickL ds lo hi st)) M
  | none => none
theorem de_slice3 {x : Expr} {lo hi st : Option Expr} {da : DenE} {dl dh dt : Env → Store → RD (Option Int)} {pos p2 : Pos} (ha : DE F X W x da) (hl : DO F X W lo dl) (hh : DO F X W hi dh) (ht : DO F X W st dt) (hK : X.K = F.K := by rfl) :
    DE F X W (.Subscript x (.Slice lo hi st p2) pos) (fun e M => bindE (da e M) fun d M1 => bindE (dl e M1) fun l M2 => bindE (dh e M2) fun h M3 => bindE (dt e M3) fun t M4 => slcF d l h t M4) := by
  obtain ⟨ta, pa, qa⟩ := ha
  obtain ⟨tl, pl, ql⟩ := hl
  obtain ⟨th, ph, qh⟩ := hh
  obtain ⟨tt, pt, qt⟩ := ht
  refine ⟨fun σ H Q => ta σ H fun x H1 => tl σ H1 fun l H2 => th σ H2 fun u H3 => tt σ H3 fun t H4 => ∃ a vs, x = .ref a ∧ SqL X.K H4 a vs ∧ t ≠ some 0 ∧ ∀ p, H4 p = none → Q (.ref p) (upd H4 p (.lst (pickL vs l u t))), ⟨fun p₀ s₀ σ₀ H₀ Q₀ I₀ h₀ => ?_⟩, fun e M L σ H Q sr p => ?_⟩
  · refine PyProof.Rows.Subscript_ (thn (pa.run p₀ s₀ σ₀ H₀ _ I₀ h₀) fun v s1 ⟨x1, H1, I1, r1, q1⟩ => ?_)
    refine wpAny_Slice (thn (pl.run p₀ s1 σ₀ H1 _ I1 q1) fun vl s2 ⟨l, H2, I2, pl, q2⟩ => thn (ph.run p₀ s2 σ₀ H2 _ I2 q2) fun vu s3 ⟨u, H3, I3, pu, q3⟩ => ?_)
    refine thn (pt.run p₀ s3 σ₀ H3 _ I3 q3) fun vt s4 ⟨t, H4, I4, pst, q4⟩ => ?_
    obtain ⟨a, vs, rfl, hq, h0, hx⟩ := q4
    have rv : v = Value.ref a := r1
    subst rv
    have I5 : Inv X p₀ σ₀ H4 { s4 with heap := s4.heap.push { cls := .type "slice", data := .fields #[vl, vu, vt] } } := I4.kept (t' := s4.toks) fun b ob q => Heap.get?_push_of_some _ q
    obtain ⟨its, rz, hpl, hz⟩ := I5.list hq
    have hln := rz.length
    obtain ⟨ops, hops⟩ : ∃ ops, subscripted (.Slice lo hi st p2) false (.ref a) (.ref s4.heap.objs.size) = operate ops (getItem (.ref a) (.ref s4.heap.objs.size)) := by
      cases st with
      | none => exact ⟨_, rfl⟩
      | some y => exact ⟨_, rfl⟩
    refine PyProof.Rows.tail_any (ops := ops) hpl.isList.typeIs slot_list_getitem.lookup (wpAny_getItem_list_slice hpl.isList (Heap.IsSliceOf.new _ vl vu vt) pl pu pst h0 ?_ (by rw [List.size_toArray, ← hln]; exact hz)) hops
    have hsz : ({ s4 with heap := s4.heap.push { cls := .type "slice", data := .fields #[vl, vu, vt] } } : Shared).heap.objs.size ≤ _ := Nat.le_refl _
    have hf := I5.hok.fresh hsz
    have vp : Vals (pickL vs l u t) (slicePick its.toArray l u t).toList := by
      unfold pickL slicePick
      rw [List.size_toArray, ← hln]
      exact vals_pick rz _
    have lz : (pickL vs l u t).length ≤ sizeLine := by
      rw [vp.length]
      have h1 : (slicePick its.toArray l u t).toList.length ≤ its.toArray.size := slicePick_size_le its.toArray l u t
      have h2 : its.toArray.size = vs.length := by rw [List.size_toArray, hln]
      exact Nat.le_trans (Nat.le_trans h1 (Nat.le_of_eq h2)) hz
    refine ⟨.ref _, _, I5.laid (o := .lst (pickL vs l u t)) (t' := s4.toks) (fun b w q => Heap.get?_push_of_some _ q) hsz ⟨lz, _, 0, vp, ?_⟩, rfl, hx _ hf⟩
    exact Heap.get?_push_size _ (by rw [Array.toArray_toList] <;> rfl)
  · refine qa e M L σ H _ sr (PostG.bind (fun d1 M1 L1 H1 v1 s1 r1 rv1 q => ?_) p)
    refine ql e M1 L1 σ H1 _ r1 (PostG.bind (fun d2 M2 L2 H2 v2 s2 r2 rv2 q => ?_) q)
    refine qh e M2 L2 σ H2 _ r2 (PostG.bind (fun d3 M3 L3 H3 v3 s3 r3 rv3 q => ?_) q)
    refine qt e M3 L3 σ H3 _ r3 (PostG.bind (fun d4 M4 L4 H4 v4 s4 r4 rv4 q => ?_) q)
    subst rv2 rv3 rv4
    have rv := Rep.stay r3.m s4 d1 v1 (Rep.stay r2.m s3 d1 v1 (Rep.stay r1.m s2 d1 v1 rv1))
    unfold slcF at q
    split at q
    · rename_i ds hd
      obtain ⟨a, vs, rfl, a2, a3⟩ := getL_sq r4.m hd rv
      split at q
      · exact False.elim q
      · rename_i h0
        refine ⟨a, vs, rfl, by rw [hK]; exact a2, h0, fun p' hp => post_lst q r4 ?_ hp⟩
        unfold pickL
        rw [← reps_len a3]
        exact reps_pick a3 _
    · exact False.elim q
def brD {α : Type} (dt : DenE) (da db : Env → Store → RD α) : Env → Store → RD α := fun e M => bindE (dt e M) fun d M1 => match d with
  | .bl true => da e M1
  | .bl false => db e M1
  | _ => none
theorem de_ifExp {c x y : Expr} {dc da db : DenE} {pos : Pos} (hc : DT F X W c dc) (ha : DE F X W x da) (hb : DE F X W y db) : DE F X W (.IfExp c x y pos) (brD dc da db) := by
  obtain ⟨tc, pc, qc⟩ := hc
  obtain ⟨ta, pa, qa⟩ := ha
  obtain ⟨tb, pb, qb⟩ := hb
  refine ⟨_, pe_ifExp pc pa pb, fun e M L σ H Q sr p => qc e M L σ H _ sr (PostG.bind (fun d M1 L1 H1 v s1 r1 rv q => ?_) p)⟩
  split at q
  · refine ⟨true, rv, ?_⟩
    rw [if_pos rfl]
    exact qa e M1 L1 σ H1 Q r1 q
  · refine ⟨false, rv, ?_⟩
    rw [if_neg fun z => Bool.false_ne_true z]
    exact qb e M1 L1 σ H1 Q r1 q
  · exact False.elim q
def andD (da db : DenE) : DenE := brD da db (cD (.bl false))
def orD (da db : DenE) : DenE := brD da (cD (.bl true)) db
def notF : D → Store → RE
  | .bl b, M => ok (.bl (!b)) M
  | _, _ => none
theorem de_one {op} {x : Expr} {da : DenE} {pos : Pos} (ha : DE F X W x da) : DE F X W (.BoolOp op [x] pos) da := by
  obtain ⟨ta, pa, qa⟩ := ha
  exact ⟨ta, pe_one pa, qa⟩
theorem de_and {x y : Expr} {rest : List Expr} {da db : DenE} {pos : Pos} (ha : DE F X W x da) (hb : DE F X W (.BoolOp .And (y :: rest) pos) db) : DE F X W (.BoolOp .And (x :: y :: rest) pos) (andD da db) := by
  obtain ⟨ta, pa, qa⟩ := ha
  obtain ⟨tb, pb, qb⟩ := hb
  refine ⟨_, pe_and pa pb, fun e M L σ H Q sr p => qa e M L σ H _ sr (PostG.bind (fun d M1 L1 H1 v s1 r1 rv q => ?_) p)⟩
  split at q
  · refine ⟨true, rv, ?_⟩
    rw [if_pos rfl]
    exact qb e M1 L1 σ H1 Q r1 q
  · refine ⟨false, rv, ?_⟩
    rw [if_neg fun z => Bool.false_ne_true z]
    exact q.ok r1 rfl
  · exact False.elim q
theorem de_not {x : Expr} {da : DenE} {pos : Pos} (ha : DE F X W x da) : DE F X W (.UnaryOp .Not x pos) (unD notF da) := by
  obtain ⟨ta, pa, qa⟩ := ha
  refine ⟨_, pe_not pa, fun e M L σ H Q sr p => qa e M L σ H _ sr (PostG.bind (fun d M1 L1 H1 v s1 r1 rv q => ?_) p)⟩
  unfold notF at q
  split at q
  · rename_i b
    exact ⟨b, rv, q.ok r1 rfl⟩
  · exact False.elim q
/-- tests -/
theorem DW.dt {x : Expr} {da : DenE} (h : DW F X W x da) : DT F X W x da := by
  obtain ⟨t, p, q⟩ := h
  exact ⟨t, p.pt, q⟩
theorem dw_and1 {x : Expr} {da : DenE} {pos : Pos} (ha : DT F X W x da) : DW F X W (.BoolOp .And [x] pos) da := by
  obtain ⟨ta, pa, qa⟩ := ha
  exact ⟨ta, pw_and1 pa, qa⟩
theorem dw_or1 {x : Expr} {da : DenE} {pos : Pos} (ha : DT F X W x da) : DW F X W (.BoolOp .Or [x] pos) da := by
  obtain ⟨ta, pa, qa⟩ := ha
  exact ⟨ta, pw_or1 pa, qa⟩
theorem dw_and {x y : Expr} {rest : List Expr} {da db : DenE} {pos : Pos} (ha : DT F X W x da) (hb : DW F X W (.BoolOp .And (y :: rest) pos) db) : DW F X W (.BoolOp .And (x :: y :: rest) pos) (andD da db) := by
  obtain ⟨ta, pa, qa⟩ := ha
  obtain ⟨tb, pb, qb⟩ := hb
  refine ⟨_, pw_and pa pb, fun e M L σ H Q sr p => qa e M L σ H _ sr (PostG.bind (fun d M1 L1 H1 v s1 r1 rv q => ?_) p)⟩
  split at q
  · refine ⟨true, rv, ?_⟩
    rw [if_pos rfl]
    exact qb e M1 L1 σ H1 Q r1 q
  · refine ⟨false, rv, ?_⟩
    rw [if_neg fun z => Bool.false_ne_true z]
    obtain ⟨b, hb, hq⟩ := q.ok r1 rfl
    cases hb
    exact hq
  · exact False.elim q
theorem dw_or {x y : Expr} {rest : List Expr} {da db : DenE} {pos : Pos} (ha : DT F X W x da) (hb : DW F X W (.BoolOp .Or (y :: rest) pos) db) : DW F X W (.BoolOp .Or (x :: y :: rest) pos) (orD da db) := by
  obtain ⟨ta, pa, qa⟩ := ha
  obtain ⟨tb, pb, qb⟩ := hb
  refine ⟨_, pw_or pa pb, fun e M L σ H Q sr p => qa e M L σ H _ sr (PostG.bind (fun d M1 L1 H1 v s1 r1 rv q => ?_) p)⟩
  split at q
  · refine ⟨true, rv, ?_⟩
    rw [if_pos rfl]
    obtain ⟨b, hb, hq⟩ := q.ok r1 rfl
    cases hb
    exact hq
  · refine ⟨false, rv, ?_⟩
    rw [if_neg fun z => Bool.false_ne_true z]
    exact qb e M1 L1 σ H1 Q r1 q
  · exact False.elim q
theorem dt_not {x : Expr} {da : DenE} {pos : Pos} (ha : DT F X W x da) : DT F X W (.UnaryOp .Not x pos) (unD notF da) := by
  obtain ⟨ta, pa, qa⟩ := ha
  refine ⟨_, pt_not pa, fun e M L σ H Q sr p => qa e M L σ H _ sr (PostG.bind (fun d M1 L1 H1 v s1 r1 rv q => ?_) p)⟩
  unfold notF at q
  split at q
  · rename_i b
    obtain ⟨b', hb, hq⟩ := q.ok r1 rfl
    cases hb
    exact ⟨b, rv, hq⟩
  · exact False.elim q
abbrev DenA := Env → Store → RD (List D)
def nilA : DenA := fun _ M => ok [] M
def consA (da : DenE) (dr : DenA) : DenA := fun e M => bindE (da e M) fun d M1 => bindE (dr e M1) fun ds M2 => ok (d :: ds) M2
theorem da_nil : DA F X W [] nilA := ⟨_, pa_nil, fun e M L σ H Q sr p => p.ok sr (rfl : ([] : List V) = [])⟩
theorem da_cons {x : Expr} {xs : List Expr} {da : DenE} {dr : DenA} (ha : DE F X W x da) (hr : DA F X W xs dr) (hs : starEach (x :: xs) X.env = (false, eval x X.env) :: starEach xs X.env := by rfl) : DA F X W (x :: xs) (consA da dr) := by
  obtain ⟨ta, pa, qa⟩ := ha
  obtain ⟨tr, pr, qr⟩ := hr
  refine ⟨_, pa_cons pa pr hs, fun e M L σ H Q sr p => qa e M L σ H _ sr (PostG.bind (fun d M1 L1 H1 v s1 r1 rv q => ?_) p)⟩
  refine qr e M1 L1 σ H1 _ r1 (PostG.bind (fun ds M2 L2 H2 vs s2 r2 rvs q2 => ?_) q)
  exact q2.ok r2 ⟨v, vs, rfl, Rep.stay r1.m s2 d v rv, rvs⟩
def tupD (dr : DenA) : DenE := fun e M => bindE (dr e M) fun ds M1 => if ds.length ≤ 100000 then ok (.tup ds) M1 else none
def lstD (dr : DenA) : DenE := fun e M => bindE (dr e M) fun ds M1 => if ds.length ≤ 100000 then ok (.lst ds) M1 else none
theorem sz_ok {n : Nat} (h : n ≤ 100000) : n ≤ sizeLine := Nat.le_trans h (by decide)
theorem de_tup {xs : List Expr} {dr : DenA} {x1} {pos : Pos} (hr : DA F X W xs dr) : DE F X W (.Tuple xs x1 pos) (tupD dr) := by
  obtain ⟨tr, pr, qr⟩ := hr
  refine ⟨_, pe_tup pr, fun e M L σ H Q sr p => qr e M L σ H _ sr (PostG.bind (fun ds M1 L1 H1 vs s1 r1 rv q => ?_) p)⟩
  split at q
  · rename_i hl
    exact ⟨by rw [← reps_len rv]; exact sz_ok hl, fun p' hp => post_tup q r1 rv hp⟩
  · exact False.elim q
theorem de_lst {xs : List Expr} {dr : DenA} {pos : Pos} (hr : DA F X W xs dr) : DE F X W (.List xs pos) (lstD dr) := by
  obtain ⟨tr, pr, qr⟩ := hr
  refine ⟨_, pe_lst pr, fun e M L σ H Q sr p => qr e M L σ H _ sr (PostG.bind (fun ds M1 L1 H1 vs s1 r1 rv q => ?_) p)⟩
  split at q
  · rename_i hl
    exact ⟨by rw [← reps_len rv]; exact sz_ok hl, fun p' hp => post_lst q r1 rv hp⟩
  · exact False.elim q
def CallOk (F : Fx) (r : List V → Hp → VK → Prop) (f : List D → Store → RE) : Prop := ∀ (ds : List D) (M : Store) (L : List Addr) (H : Hp) (e : Env) (σ : St) (W : WX) (vs : List V) (Q : VK), SR F L H M e σ → Reps F L H ds vs → Post F e L H σ W Q (f ds M) → r vs H Q
def callD (f : List D → Store → RE) (dr : DenA) : DenE := fun e M => bindE (dr e M) f
theorem call_post {r : List V → Hp → VK → Prop} {f : List D → Store → RE} (hf : CallOk F r f) {dr : DenA} {t : TA}
    (hr : ∀ (e : Env) (M : Store) (L : List Addr) (σ : St) (H : Hp) (Q : List V → Hp → Prop), SR F L H M e σ → PostA F e L H σ W Q (dr e M) → t σ H Q)
    (e : Env) (M : Store) (L : List Addr) (σ : St) (H : Hp) (Q : VK) (sr : SR F L H M e σ) (p : Post F e L H σ W Q (callD f dr e M)) : tCB r t σ H Q :=
  hr e M L σ H _ sr (PostG.bind (fun ds M1 L1 H1 vs s1 r1 rv q => hf ds M1 L1 H1 e σ W vs Q r1 rv q) p)
theorem de_callB {x : Str} {p pos : Pos} {a : Expr} {as : List Expr} {dr : DenA} {id : String} {r : List V → Hp → VK → Prop} {f : List D → Store → RE} (hf : CallOk F r f) (hc : CallR X (.builtin id) r) (hm : X.mg x = none) (hr : DA F X W (a :: as) dr) (hg : Gl X x := by rfl) (hv : bootBuiltins x = some (.builtin id) := by decide +kernel) (hn : x ≠ "__name__" := by decide) (hdb : (x == ("__debug__" : Str)) = false := by decide)
    (he : starEach (a :: as) X.env = (false, eval a X.env) :: starEach as X.env := by rfl) (hpl : (backTo pos (starEach as X.env)).any (·.1) = false := by rfl) : DE F X W (.Call (.Name x p) (a :: as) [] pos) (callD f dr) := by
  obtain ⟨tr, pr, qr⟩ := hr
  exact ⟨_, pe_callB hc hg hm hv pr hn hdb he hpl, call_post hf qr⟩
theorem de_callTy {x : Str} {p pos : Pos} {a : Expr} {as : List Expr} {dr : DenA} {T : String} {r : List V → Hp → VK → Prop} {f : List D → Store → RE} (hf : CallOk F r f) (hc : CallR X (.type T) r) (hm : X.mg x = none) (hr : DA F X W (a :: as) dr) (hg : Gl X x := by rfl) (hv : bootBuiltins x = some (.type T) := by decide +kernel) (hn : x ≠ "__name__" := by decide) (hdb : (x == ("__debug__" : Str)) = false := by decide)
    (he : starEach (a :: as) X.env = (false, eval a X.env) :: starEach as X.env := by rfl) (hpl : (backTo pos (starEach as X.env)).any (·.1) = false := by rfl) : DE F X W (.Call (.Name x p) (a :: as) [] pos) (callD f dr) := by
  obtain ⟨tr, pr, qr⟩ := hr
  exact ⟨_, pe_callTy hc hg hm hv pr hn hdb he hpl, call_post hf qr⟩
theorem de_callG {x : Str} {p pos : Pos} {a : Expr} {as : List Expr} {dr : DenA} {id : String} {r : List V → Hp → VK → Prop} {f : List D → Store → RE} (hf : CallOk F r f) (hc : CallR X (.builtin id) r) (hm : X.mg x = some (.builtin id)) (hr : DA F X W (a :: as) dr) (hg : Gl X x := by rfl) (hdb : (x == ("__debug__" : Str)) = false := by decide)
    (he : starEach (a :: as) X.env = (false, eval a X.env) :: starEach as X.env := by rfl) (hpl : (backTo pos (starEach as X.env)).any (·.1) = false := by rfl) : DE F X W (.Call (.Name x p) (a :: as) [] pos) (callD f dr) := by
  obtain ⟨tr, pr, qr⟩ := hr
  exact ⟨_, pe_callBfun hc hg hm pr hdb he hpl, call_post hf qr⟩
/-- a built-in class by its name, as a value -/
theorem de_cls {x : Str} {T : String} {pos : Pos} (hm : X.mg x = none) (hg : Gl X x := by rfl) (hv : bootBuiltins x = some (.type T) := by decide +kernel) (hn : x ≠ "__name__" := by decide) (hd : (x == ("__debug__" : Str)) = false := by decide) : DE F X W (.Name x pos) (cD (.ty T)) :=
  ⟨_, pe_bltn (v := .ty T) hg hm hv rfl hn hd, fun e M L σ H Q sr p => p.ok sr rfl⟩
theorem reps1 {d : D} {vs : List V} (h : Reps F L H [d] vs) : ∃ v, vs = [v] ∧ Rep F L H d v := by
  obtain ⟨v, r, rfl, h1, h2⟩ := h
  have h3 : r = [] := h2
  exact ⟨v, by rw [h3], h1⟩
theorem reps2 {d d' : D} {vs : List V} (h : Reps F L H [d, d'] vs) : ∃ v v', vs = [v, v'] ∧ Rep F L H d v ∧ Rep F L H d' v' := by
  obtain ⟨v, r, rfl, h1, h2⟩ := h
  obtain ⟨v', rfl, h3⟩ := reps1 h2
  exact ⟨v, v', rfl, h1, h3⟩
def lenF : List D → Store → RE
  | [.tup ds], M => ok (.int (ds.length : Int)) M
  | [.str x], M => if x.length ≤ sizeLine then ok (.int (x.length : Int)) M else none
  | [d], M => match getL M d with
    | some ds => ok (.int (ds.length : Int)) M
    | none => none
  | _, _ => none
abbrev rLenD (K : PySem.W.Frag) : List V → Hp → VK → Prop := fun xs H Q => ∃ x n, xs = [x] ∧ LenV K x H n ∧ Q (.int n) H
theorem len_ok : CallOk F (rLenD F.K) lenF := fun ds M L H e σ W vs Q sr rv p => by
  unfold lenF at p
  split at p
  · obtain ⟨v, rfl, a, ws, rfl, a2, a3⟩ := reps1 rv
    exact ⟨_, _, rfl, .inr ⟨ws, a2, reps_len a3⟩, p.ok sr rfl⟩
  · rename_i x
    obtain ⟨v, rfl, h1⟩ := reps1 rv
    have q1 : v = .str x := h1
    subst q1
    split at p
    · rename_i hx
      exact ⟨_, _, rfl, ⟨hx, rfl⟩, p.ok sr rfl⟩
    · exact False.elim p
  · split at p
    · rename_i ds h1
      obtain ⟨v, rfl, h2⟩ := reps1 rv
      obtain ⟨a, ws, rfl, a2, a3⟩ := getL_sq sr.m h1 h2
      exact ⟨_, _, rfl, .inl ⟨ws, a2, reps_len a3⟩, p.ok sr rfl⟩
    · exact False.elim p
  · exact False.elim p
def absF : List D → Store → RE
  | [.int i], M => ok (.int (if i < 0 then -i else i)) M
  | _, _ => none
theorem abs_ok : CallOk F (fun xs H Q => ∃ i, xs = [.int i] ∧ Q (.int (if i < 0 then -i else i)) H) absF := fun ds M L H e σ W vs Q sr rv p => by
  unfold absF at p
  split at p
  · rename_i i
    obtain ⟨v, rfl, h1⟩ := reps1 rv
    exact ⟨i, by rw [show v = .int i from h1], p.ok sr rfl⟩
  · exact False.elim p
def int2F (g : Int → Int → Int) : List D → Store → RE
  | [.int i, .int j], M => ok (.int (g i j)) M
  | _, _ => none
theorem int2_ok {g : Int → Int → Int} : CallOk F (fun xs H Q => ∃ i j, xs = [.int i, .int j] ∧ Q (.int (g i j)) H) (int2F g) := fun ds M L H e σ W vs Q sr rv p => by
  unfold int2F at p
  split at p
  · rename_i i j
    obtain ⟨v, v', rfl, h1, h2⟩ := reps2 rv
    exact ⟨i, j, by rw [show v = .int i from h1, show v' = .int j from h2], p.ok sr rfl⟩
  · exact False.elim p
abbrev minF := int2F fun i j => if j < i then j else i
abbrev gcdF := int2F fun i j => ((Nat.gcd i.natAbs j.natAbs : Nat) : Int)
theorem gcd_ok : CallOk F rGcd gcdF := fun ds M L H e σ W vs Q sr rv p => int2_ok ds M L H e σ W vs Q sr rv p
def intcF : List D → Store → RE
  | [.int i], M => ok (.int i) M
  | [.bl b], M => ok (.int (if b then 1 else 0)) M
  | _, _ => none
theorem intc_ok : CallOk F (fun xs H Q => (∃ i, xs = [.int i] ∧ Q (.int i) H) ∨ ∃ k, xs = [.bl k] ∧ Q (.int (if k then 1 else 0)) H) intcF := fun ds M L H e σ W vs Q sr rv p => by
  unfold intcF at p
  split at p
  · rename_i i
    obtain ⟨v, rfl, h1⟩ := reps1 rv
    exact .inl ⟨i, by rw [show v = .int i from h1], p.ok sr rfl⟩
  · rename_i b
    obtain ⟨v, rfl, h1⟩ := reps1 rv
    exact .inr ⟨b, by rw [show v = .bl b from h1], p.ok sr rfl⟩
  · exact False.elim p
def strF : List D → Store → RE
  | [.int i], M => if i.natAbs.log2 < 1920 then ok (.str (toString i)) M else none
  | _, _ => none
theorem strc_ok : CallOk F (fun xs H Q => ∃ i : Int, xs = [.int i] ∧ i.natAbs.log2 < 1920 ∧ Q (.str (toString i)) H) strF := fun ds M L H e σ W vs Q sr rv p => by
  unfold strF at p
  split at p
  · rename_i i
    obtain ⟨v, rfl, h1⟩ := reps1 rv
    split at p
    · rename_i hi
      exact ⟨i, by rw [show v = .int i from h1], hi, p.ok sr rfl⟩
    · exact False.elim p
  · exact False.elim p
end
end DL
namespace DL
open PySem L2
/-- where a def's body stands: what is raised is wished as W; room for k calls; nothing is handled; no repr runs -/
structure Dc (X : Cx) (W : WX) (k : Nat) : Prop where
  tk : Takes X W
  room : Room k X.A
  calm : X.calm = true
  gd : X.A.guards = some []
  own : PassesOwn (model X.prog X.w) X.A X.env X.xe
theorem Dc.mono {X : Cx} {W : WX} {j k : Nat} (d : Dc X W k) (h : j ≤ k) : Dc X W j := ⟨d.tk, d.room.mono h, d.calm, d.gd, d.own⟩
theorem Dc.u64 {X : Cx} {W : WX} {k : Nat} (d : Dc X W k) : X.A.units + 64 < cLine := d.room.units
section
variable {F : Fx} {X : Cx} {W : WX} {L : List Addr} {H : Hp} {M : Store} {e : Env} {σ : St}
def tyN : D → Option String
  | .non => some "NoneType"
  | .bl _ => some "bool"
  | .int _ => some "int"
  | .str _ => some "str"
  | .tup _ => some "tuple"
  | .lst _ => some "list"
  | .scr _ => some "list"
  | .loc _ => some "list"
  | .emp => some "dict"
  | _ => none
/-- a value's class in the heap -/
inductive TyD (K : PySem.W.Frag) (H : Hp) : V → String → Prop
  | non : TyD K H .non "NoneType"
  | bl (b : Bool) : TyD K H (.bl b) "bool"
  | int (i : Int) : TyD K H (.int i) "int"
  | str (x : Str) : TyD K H (.str x) "str"
  | tup {a : Addr} {xs : List V} (q : SqT K H a xs) : TyD K H (.ref a) "tuple"
  | lst {a : Addr} {xs : List V} (q : SqL K H a xs) : TyD K H (.ref a) "list"
  | dic {a : Addr} {kvs : List (Key × V)} (q : H a = some (.dK kvs)) : TyD K H (.ref a) "dict"
theorem tyd_of (hm : SM F L H M) {d : D} {v : V} {T : String} (r : Rep F L H d v) (h : tyN d = some T) : TyD F.K H v T := by
  cases d with
  | non =>
    have q : v = .non := r
    cases Option.some.inj h
    rw [q]
    exact .non
  | bl b =>
    have q : v = .bl b := r
    cases Option.some.inj h
    rw [q]
    exact .bl b
  | int i =>
    have q : v = .int i := r
    cases Option.some.inj h
    rw [q]
    exact .int i
  | str x =>
    have q : v = .str x := r
    cases Option.some.inj h
    rw [q]
    exact .str x
  | tup ds =>
    obtain ⟨a, vs, rfl, e2, _⟩ := r
    cases Option.some.inj h
    exact .tup e2
  | lst ds =>
    obtain ⟨a, vs, rfl, e2, _⟩ := getL_sq (ds := ds) hm rfl r
    cases Option.some.inj h
    exact .lst e2
  | scr ns =>
    obtain ⟨a, vs, rfl, e2, _⟩ := getL_sq (ds := ns.map D.int) hm rfl r
    cases Option.some.inj h
    exact .lst e2
  | loc n =>
    cases Option.some.inj h
    obtain ⟨a, rfl, e2⟩ := r
    obtain ⟨vs, q⟩ := hm.kind (List.mem_of_getElem? e2)
    exact .lst (.inl (.inl q))
  | emp =>
    obtain ⟨a, rfl, e2, _⟩ := r
    cases Option.some.inj h
    exact .dic e2
  | exc c fs => cases h
  | ty n => cases h
  | cls n => cases h
  | clo f c q σd is ds => cases h
theorem TyD.x {K : PySem.W.Frag} {v : V} {T : String} (h : TyD K H v T) : TyX K H v (.type T) := by
  cases h with
  | non => exact .base .non
  | bl b => exact .base (.bl b)
  | int i => exact .base (.int i)
  | str x => exact .base (.str x)
  | tup q =>
    rcases q with (q | ⟨o, q⟩) | ⟨o, its, n, q1, q2, _⟩
    · exact .base (.tup q)
    · exact .fTuple q
    · exact .kTuple q1 q2
  | lst q =>
    rcases q with (q | ⟨o, q⟩) | ⟨o, its, n, q1, q2, _⟩
    · exact .base (.lst q)
    · exact .base (.frz q)
    · exact .kList q1 q2
  | dic q => exact .base (.dK q)
def rTyp (K : PySem.W.Frag) : List V → Hp → VK → Prop := fun vs H Q => ∃ v T, vs = [v] ∧ TyD K H v T ∧ Q (.ty T) H
theorem callr_type : CallR X (.type "type") (rTyp X.K) := by
  intro p₀ s₀ σ₀ H₀ vs us Q₀ I₀ r h
  obtain ⟨v, T, rfl, t, q⟩ := h
  obtain ⟨u, eu1, rx⟩ := vals1 r
  subst eu1
  have fin : EP X p₀ σ₀ Q₀ (.type T) s₀ := ⟨.ty T, H₀, I₀, rfl, q⟩
  cases t with
  | non =>
    have z : u = .none := rx
    subst z
    exact call_type_of (typeIs_none s₀) (by decide +kernel) fin
  | bl b =>
    have z : u = .bool b := rx
    subst z
    exact call_type_of (PySem.typeIs_bool s₀ b) (by decide +kernel) fin
  | int i =>
    obtain ⟨k, rfl⟩ := rx
    exact call_type_of (typeIs_int s₀ i k) (by decide +kernel) fin
  | str x =>
    obtain ⟨k, rfl⟩ := rx
    exact call_type_of (typeIs_str s₀ x k) (by decide +kernel) fin
  | tup q2 =>
    cases rx
    obtain ⟨its, rv, p2, _⟩ := I₀.tuple q2
    exact call_type_of p2.typeIs (by decide +kernel) fin
  | lst q2 =>
    cases rx
    obtain ⟨its, rv, p2, _⟩ := I₀.list q2
    exact call_type_of p2.isList.typeIs (by decide +kernel) fin
  | @dic a kvs q2 =>
    cases rx
    obtain ⟨_, _, ws, _, o, es, ep, h1, h2, _⟩ := (show ObjOk X.prog X.w H₀ s₀.heap a (.dK kvs) from I₀.hok a _ q2)
    exact call_type_of (Tx := "dict") ⟨o, h1, h2.1⟩ (by decide +kernel) fin
def typF : List D → Store → RE
  | [d], M => match tyN d with
    | some T => ok (.ty T) M
    | none => none
  | _, _ => none
theorem typ_ok : CallOk F (rTyp F.K) typF := fun ds M L H e σ W vs Q sr rv p => by
  unfold typF at p
  split at p
  · obtain ⟨v, rfl, h1⟩ := reps1 rv
    split at p
    · rename_i T hT
      exact ⟨v, T, rfl, tyd_of sr.m h1 hT, p.ok sr rfl⟩
    · exact False.elim p
  · exact False.elim p
def isiF : List D → Store → RE
  | [d, .ty S], M => match tyN d with
    | some T => (match kitB T S with
      | some b => ok (.bl b) M
      | none => none)
    | none => none
  | _, _ => none
theorem isi_ok : CallOk F (rIsi F.K) isiF := fun ds M L H e σ W vs Q sr rv p => by
  unfold isiF at p
  split at p
  · rename_i d S
    obtain ⟨v, v', rfl, h1, h2⟩ := reps2 rv
    have z : v' = .ty S := h2
    subst z
    split at p
    · rename_i T hT
      split at p
      · rename_i b hb
        exact ⟨v, .ty S, .type T, .type S, b, rfl, .ty S, (tyd_of sr.m h1 hT).x, kit_ty hb, p.ok sr rfl⟩
      · exact False.elim p
    · exact False.elim p
  · exact False.elim p
def rRep0 (K : PySem.W.Frag) : List V → Hp → VK → Prop := fun vs H Q => ∃ v d, vs = [v] ∧ Dp K H v d ∧ d.showable = true ∧ d.hasDict = false ∧ d.depth ≤ 60 ∧ d.shown.length ≤ sizeLine ∧ Q (.str d.shown) H
theorem callr_repr (hg : X.A.guards = some []) (hu : X.A.units + 64 < cLine) : CallR X (.builtin "repr") (rRep0 X.K) := by
  intro p₀ s₀ σ₀ H₀ vs us Q₀ I₀ r h
  obtain ⟨v, d, rfl, hd, h1, h2, h3, h4, q⟩ := h
  obtain ⟨u, eu1, rx⟩ := vals1 r
  subst eu1
  cases hd with
  | non =>
    have z : u = .none := rx
    subst z
    exact P.repr_of_none ⟨.str _, H₀, I₀.tok _, ⟨_, rfl⟩, q⟩
  | bl b =>
    have z : u = .bool b := rx
    subst z
    exact P.repr_of_bool ⟨.str _, H₀, I₀.tok _, ⟨_, rfl⟩, q⟩
  | int i =>
    obtain ⟨k, rfl⟩ := rx
    exact P.repr_of_int (of_decide_eq_true h1) ⟨.str _, H₀, I₀.tok _, ⟨_, rfl⟩, q⟩
  | str x =>
    obtain ⟨k, rfl⟩ := rx
    exact P.repr_of_str ⟨.str _, H₀, I₀.tok _, ⟨_, rfl⟩, q⟩ h4
  | @lst a xs ds hs ha =>
    have z : u = .ref a := rx
    subst z
    obtain ⟨as, rd⟩ := Dp.reads I₀ (.list ds) (.ref a) (.ref a) (.lst hs ha) rfl
    exact repr_of_reads' rd h1 (PyData.noDict_hsm h2) hg (by omega) (fun _ _ z => z) (fun h' u tk hk => ⟨.str _, H₀, I₀.kept (t' := tk) hk, ⟨_, rfl⟩, q⟩) h4
  | @tup a xs ds hs ha =>
    have z : u = .ref a := rx
    subst z
    obtain ⟨as, rd⟩ := Dp.reads I₀ (.tuple ds) (.ref a) (.ref a) (.tup hs ha) rfl
    exact repr_of_reads' rd h1 (PyData.noDict_hsm h2) hg (by omega) (fun _ _ z => z) (fun h' u tk hk => ⟨.str _, H₀, I₀.kept (t' := tk) hk, ⟨_, rfl⟩, q⟩) h4
def reprF : List D → Store → RE
  | [d], M => match pyV M d with
    | some p => if p.showable = true ∧ p.hasDict = false ∧ p.depth ≤ 60 ∧ p.shown.length ≤ sizeLine then ok (.str p.shown) M else none
    | none => none
  | _, _ => none
theorem repr_ok : CallOk F (rRep0 F.K) reprF := fun ds M L H e σ W vs Q sr rv p => by
  unfold reprF at p
  split at p
  · obtain ⟨v, rfl, h1⟩ := reps1 rv
    split at p
    · rename_i y hy
      split at p
      · rename_i hz
        exact ⟨v, y, rfl, dp_at sr.m h1 hy, hz.1, hz.2.1, hz.2.2.1, hz.2.2.2, p.ok sr rfl⟩
      · exact False.elim p
    · exact False.elim p
  · exact False.elim p
end
def PostF (F : Fx) (L : List Addr) (H : Hp) (Q : VK) (E : XK) : RE → Prop
  | some (.val d, M') => ∀ (L' : List Addr) (H' : Hp) (v : V), Stp L H L' H' → SM F L' H' M' → Rep F L' H' d v → Q v H'
  | some (.exc c fs, M') => ∀ (L' : List Addr) (H' : Hp) (cls : Value) (dd : Option Addr), Stp L H L' H' → SM F L' H' M' → ExR F L' H' c fs cls dd → E cls dd H'
  | none => False
abbrev DenF := List D → Store → RE
def spD (F : Fx) (den : DenF) : Sp := fun vs H Q E => ∃ L M ds, SM F L H M ∧ Reps F L H ds vs ∧ PostF F L H Q E (den ds M)
structure FnD (P : Program) (w : World) (F : Fx) (mg : Str → Option Value) (base : Heap) (k : Nat) (f : Addr) (fd : FuncData) (ps : List Str) (den : DenF) : Prop where
  run : ∀ (A : Around) (outer : List PySem.Env) (s : Shared) (H : Hp) (args : Args) (us : List Value) (vs : List V) (Q : VK) (E : XK), Room k A → A.guards = some [] → Env0 P w F.K mg base A outer s H → BindsTo s fd args (ps.zip us) → Vals vs us →
    vs.length = ps.length → spD F den vs H Q E → codeAny (model P w) A (.call (.ref f) args) (CR (L2.CX P w) outer P w H s Q E) s
theorem FnD.mono {P : Program} {w : World} {F : Fx} {mg : Str → Option Value} {base : Heap} {j k : Nat} {f : Addr} {fd : FuncData} {ps : List Str} {den : DenF} (h : FnD P w F mg base j f fd ps den) (hk : j ≤ k) : FnD P w F mg base k f fd ps den :=
  ⟨fun A outer s H args us vs Q E hr => h.run A outer s H args us vs Q E (hr.mono hk)⟩
section
variable {F : Fx} {X : Cx} {W : WX} {k : Nat} {f : Addr} {fd : FuncData} {ps : List Str} {den : DenF} {ds : List Value} {dvs : List V}
/-- f(..) with the defaults dvs behind -/
def tCallD (F : Fx) (W : WX) (den : DenF) (n : Nat) (dvs : List V) (t : TA) : TE := fun σ H Q => t σ H fun vs H1 => (vs ++ dvs).length = n ∧ spD F den (vs ++ dvs) H1 Q (WE W σ)
theorem run_fnD {p₀ : List (Addr × Obj)} {σ : St} {H : Hp} {s : Shared} {Q : VK} {us : List Value} {vs : List V} (hK : X.K = F.K) (h : FnD X.prog X.w F X.mg X.base k f fd ps den) (d : Dc X W k) (hb : Binds X.K fd ps ds) (hd : Vals dvs ds) (I : L2.Inv X p₀ σ H s) (r : Vals vs us)
    (hl : (vs ++ dvs).length = ps.length) (q : spD F den (vs ++ dvs) H Q (WE W σ)) : wpAny (model X.prog X.w) X.A (call (.ref f) us) (EP X p₀ σ Q) X.xe s := by
  have r2 := r.append hd
  have e0 := I.env0
  rw [hK] at e0
  refine wpAny_call (codeAny_mono (h.run X.A X.stack s H ⟨us, []⟩ (us ++ ds) (vs ++ dvs) Q (WE W σ) d.room d.gd e0 (hb s us I.kIn (by rw [← r2.length]; exact hl)) r2 hl q) fun res s' hq => ?_)
  cases res with
  | error y => exact passAt d.tk σ p₀ H s y s' I hq
  | ok fl =>
    cases fl with
    | ret u => exact I.after hq
    | next => exact (show False from hq).elim
    | brk => exact (show False from hq).elim
    | cont => exact (show False from hq).elim
theorem pe_callD {x : Str} {p pos : Pos} {a : Expr} {as : List Expr} {t : TA} (hK : X.K = F.K) (h : FnD X.prog X.w F X.mg X.base k f fd ps den) (d : Dc X W k) (hg : Gl X x) (hm : X.mg x = some (.ref f)) (hk : PySem.W.keepIn X.K (.ref f) = true) (hb : Binds X.K fd ps ds) (hd : Vals dvs ds)
    (ha : PA X (a :: as) t) (hdb : (x == ("__debug__" : Str)) = false := by decide) (he : starEach (a :: as) X.env = (false, eval a X.env) :: starEach as X.env := by rfl) (hpl : (backTo pos (starEach as X.env)).any (·.1) = false := by rfl) :
    PE X (.Call (.Name x p) (a :: as) [] pos) (tCallD F W den ps.length dvs t) := by
  refine ⟨fun p₀ s₀ σ₀ H₀ Q₀ I₀ h₀ => wpAny_Call_Name_kw (ld_glob I₀ hg hm ?_ hdb)⟩
  refine PySem.W.callWith_K (h₀ := X.base) I₀.ok.mod.kin hk (thn (ha.run pos p₀ s₀ σ₀ H₀ _ I₀ h₀) fun us s1 y => ?_) he hpl
  obtain ⟨vs, H1, I1, r, q1, q2⟩ := y
  exact ⟨I1.kIn, run_fnD hK h d hb hd I1 r q1 q2⟩
/-- the arguments as data, defaults dd behind -/
def fnD (den : DenF) (n : Nat) (dd : List D) (dr : DenA) : DenE := fun e M => bindE (dr e M) fun ds M1 => if (ds ++ dd).length = n then den (ds ++ dd) M1 else none
theorem post_fn {L1 : List Addr} {H1 : Hp} {M1 : Store} {e : Env} {σ : St} {Q : VK} (sr : SR F L1 H1 M1 e σ) : ∀ {r : RE}, Post F e L1 H1 σ W Q r → PostF F L1 H1 Q (WE W σ) r
  | some (.val d, M'), h => fun L' H' v s m rv => h L' H' v s (sr.stay s m) rv
  | some (.exc c fs, M'), h => fun L' H' cls dd s m rv => h L' H' cls dd s (sr.stay s m) rv
  | none, h => h
theorem call_fin {dr : DenA} {t : TA} {dd : List D} (hdd : ∀ L H, Reps F L H dd dvs)
    (hr : ∀ (e : Env) (M : Store) (L : List Addr) (σ : St) (H : Hp) (Q : List V → Hp → Prop), SR F L H M e σ → PostA F e L H σ W Q (dr e M) → t σ H Q)
    (n : Nat) (e : Env) (M : Store) (L : List Addr) (σ : St) (H : Hp) (Q : VK) (sr : SR F L H M e σ) (p : Post F e L H σ W Q (fnD den n dd dr e M)) : tCallD F W den n dvs t σ H Q := by
  refine hr e M L σ H _ sr (PostG.bind (fun ds1 M1 L1 H1 vs s1 r1 rv q => ?_) p)
  split at q
  · rename_i hn
    have ra := reps_app rv (hdd L1 H1)
    exact ⟨by rw [← reps_len ra]; exact hn, L1, M1, _, r1.m, ra, post_fn r1 q⟩
  · exact False.elim q
theorem de_call {x : Str} {p pos : Pos} {a : Expr} {as : List Expr} {dr : DenA} {dd : List D} (h : FnD X.prog X.w F X.mg X.base k f fd ps den) (d : Dc X W k) (hm : X.mg x = some (.ref f)) (hk : PySem.W.keepIn X.K (.ref f) = true) (hb : Binds X.K fd ps ds) (hd : Vals dvs ds) (hdd : ∀ L H, Reps F L H dd dvs)
    (hr : DA F X W (a :: as) dr) (hK : X.K = F.K := by rfl) (hg : Gl X x := by rfl) (hdb : (x == ("__debug__" : Str)) = false := by decide) (he : starEach (a :: as) X.env = (false, eval a X.env) :: starEach as X.env := by rfl) (hpl : (backTo pos (starEach as X.env)).any (·.1) = false := by rfl) :
    DE F X W (.Call (.Name x p) (a :: as) [] pos) (fnD den ps.length dd dr) := by
  obtain ⟨tr, pr, qr⟩ := hr
  exact ⟨_, pe_callD hK h d hg hm hk hb hd pr hdb he hpl, call_fin hdd qr ps.length⟩
end
inductive Flw where
  | nx (e : Env)
  | rt (d : D)
  | bk (e : Env)
  | ct (e : Env)
  | ex (c : String) (fs : List (Str × D)) (e : Env)
abbrev RS := Option (Flw × Store)
abbrev DenS := Env → Store → RS
def PostS (F : Fx) (L : List Addr) (H : Hp) (W : WX) (T : Ends) : RS → Prop
  | some (.nx e, M) => ∀ (L' : List Addr) (H' : Hp) (σ' : St), Stp L H L' H' → SR F L' H' M e σ' → T.nx σ' H'
  | some (.bk e, M) => ∀ (L' : List Addr) (H' : Hp) (σ' : St), Stp L H L' H' → SR F L' H' M e σ' → T.bk σ' H'
  | some (.ct e, M) => ∀ (L' : List Addr) (H' : Hp) (σ' : St), Stp L H L' H' → SR F L' H' M e σ' → T.ct σ' H'
  | some (.rt d, M) => ∀ (L' : List Addr) (H' : Hp) (v : V), Stp L H L' H' → SM F L' H' M → Rep F L' H' d v → T.rt v H'
  | some (.ex c fs e, M) => ∀ (L' : List Addr) (H' : Hp) (σ' : St) (cls : Value) (dd : Option Addr), Stp L H L' H' → SR F L' H' M e σ' → ExR F L' H' c fs cls dd → W cls dd σ' H'
  | none => False
def DS (F : Fx) (X : Cx) (W : WX) (st : Stmt) (den : DenS) : Prop :=
  ∃ t, PS X st t ∧ ∀ (e : Env) (M : Store) (L : List Addr) (σ : St) (H : Hp) (T : Ends), SR F L H M e σ → PostS F L H W T (den e M) → t T σ H
def DSs (F : Fx) (X : Cx) (W : WX) (sts : List Stmt) (den : DenS) : Prop :=
  ∃ t, PSs X sts t ∧ ∀ (e : Env) (M : Store) (L : List Addr) (σ : St) (H : Hp) (T : Ends), SR F L H M e σ → PostS F L H W T (den e M) → t T σ H
def thenS {α : Type} (r : RD α) (e : Env) (k : α → Store → RS) : RS := match r with
  | some (.val d, M) => k d M
  | some (.exc c fs, M) => some (.ex c fs e, M)
  | none => none
section
variable {F : Fx} {X : Cx} {W : WX} {L L1 : List Addr} {H H1 : Hp} {M : Store} {e : Env} {σ : St} {T : Ends}
theorem PostS.go (s : Stp L H L1 H1) : ∀ {r : RS}, PostS F L H W T r → PostS F L1 H1 W T r
  | some (.nx e, M), h => fun L' H' σ' s' r => h L' H' σ' (s.trans s') r
  | some (.bk e, M), h => fun L' H' σ' s' r => h L' H' σ' (s.trans s') r
  | some (.ct e, M), h => fun L' H' σ' s' r => h L' H' σ' (s.trans s') r
  | some (.rt d, M), h => fun L' H' v s' r rv => h L' H' v (s.trans s') r rv
  | some (.ex c fs e, M), h => fun L' H' σ' cls dd s' r x => h L' H' σ' cls dd (s.trans s') r x
  | none, h => h
theorem post_then {α β : Type} {rp : List Addr → Hp → α → β → Prop} {Q : β → Hp → Prop} {k : α → Store → RS} (kk : ∀ d M1 L1 H1 v, Stp L H L1 H1 → SR F L1 H1 M1 e σ → rp L1 H1 d v → PostS F L1 H1 W T (k d M1) → Q v H1) :
    ∀ {r : RD α}, PostS F L H W T (thenS r e k) → PostG F rp e L H σ W Q r
  | some (.val d, M1), h => fun L1 H1 v s r rv => kk d M1 L1 H1 v s r rv (PostS.go s h)
  | some (.exc c fs, M1), h => fun L' H' cls dd s' r x => h L' H' σ cls dd s' r x
  | none, h => h
theorem SR.set (sr : SR F L H M e σ) (i : Nat) {d : D} {v : V} (r : Rep F L H d v) : SR F L H M (e.set i (some d)) (σ.set i (some v)) := by
  refine ⟨by rw [List.length_set, List.length_set]; exact sr.l, sr.m, fun j d' q => ?_⟩
  by_cases hj : i = j
  · subst hj
    by_cases hl : i < e.length
    · rw [List.getElem?_set_self hl] at q
      cases q
      refine ⟨v, ?_, r⟩
      rw [List.getElem?_set_self (by rw [sr.l]; exact hl)]
    · rw [List.getElem?_eq_none (by rw [List.length_set]; omega)] at q
      cases q
  · rw [List.getElem?_set_ne hj] at q
    rw [List.getElem?_set_ne hj]
    exact sr.e j d' q
theorem SR.unset (sr : SR F L H M e σ) (i : Nat) (v : Option V) : SR F L H M (e.set i none) (σ.set i v) := by
  refine ⟨by rw [List.length_set, List.length_set]; exact sr.l, sr.m, fun j d' q => ?_⟩
  by_cases hj : i = j
  · subst hj
    by_cases hl : i < e.length
    · rw [List.getElem?_set_self hl] at q
      cases q
    · rw [List.getElem?_eq_none (by rw [List.length_set]; omega)] at q
      cases q
  · rw [List.getElem?_set_ne hj] at q
    rw [List.getElem?_set_ne hj]
    exact sr.e j d' q
def nilS : DenS := fun e M => some (.nx e, M)
def seqS (a b : DenS) : DenS := fun e M => match a e M with
  | some (.nx e', M') => b e' M'
  | r => r
theorem dss_nil : DSs F X W [] nilS := ⟨_, pss_nil, fun e M L σ H T sr p => p L H σ (Stp.refl L H) sr⟩
theorem dss_one {st : Stmt} {a : DenS} (ha : DS F X W st a) : DSs F X W [st] a := by
  obtain ⟨t, p, q⟩ := ha
  exact ⟨t, pss_one p, q⟩
theorem dss_cons {st : Stmt} {sts : List Stmt} {a b : DenS} (ha : DS F X W st a) (hb : DSs F X W sts b) : DSs F X W (st :: sts) (seqS a b) := by
  obtain ⟨t, pt, qt⟩ := ha
  obtain ⟨u, pu, qu⟩ := hb
  refine ⟨_, pss_cons pt pu, fun e M L σ H T sr p => ?_⟩
  refine qt e M L σ H _ sr ?_
  unfold seqS at p
  split at p
  · rename_i e' M' he
    rw [he]
    exact fun L' H' σ' s r => qu e' M' L' σ' H' T r (PostS.go s p)
  · rename_i r hr
    revert p
    cases q : a e M with
    | none => exact id
    | some y =>
      obtain ⟨fl, M'⟩ := y
      cases fl with
      | nx e' => exact absurd q (hr e' M')
      | bk e' => exact id
      | ct e' => exact id
      | rt d => exact id
      | ex c fs e' => exact id
def asgS (i : Nat) (da : DenE) : DenS := fun e M => thenS (da e M) e fun d M1 => some (.nx (e.set i (some d)), M1)
theorem ds_set (i : Nat) {x : Str} {y : Expr} {da : DenE} {pos pos' : Pos} (hN : X.N.Nodup) (ha : DE F X W y da) (hi : X.N[i]? = some x := by rfl) (hx : Loc X.env.scope x := by first | exact Or.inl rfl | exact Or.inr rfl) (hs : swapsWith y (some (.Name x pos')) pos.line X.env = pure false := by rfl)
    (hf : X.fn x = true ∨ X.env.scope.names.lookup x = some .local := by first | exact .inl rfl | exact .inr rfl) : DS F X W (.Assign [.Name x pos'] y pos) (asgS i da) := by
  obtain ⟨t, p, q⟩ := ha
  refine ⟨_, ps_set hN hi hx p hs hf, fun e M L σ H T sr pp => q e M L σ H _ sr (post_then (fun d M1 L1 H1 v s1 r1 rv q2 => ?_) pp)⟩
  exact q2 L1 H1 _ (Stp.refl L1 H1) (r1.set i rv)
def retS (da : DenE) : DenS := fun e M => thenS (da e M) e fun d M1 => some (.rt d, M1)
theorem ds_ret {y : Expr} {da : DenE} {pos : Pos} (ha : DE F X W y da) : DS F X W (.Return (some y) pos) (retS da) := by
  obtain ⟨t, p, q⟩ := ha
  refine ⟨_, ps_ret p, fun e M L σ H T sr pp => q e M L σ H _ sr (post_then (fun d M1 L1 H1 v s1 r1 rv q2 => ?_) pp)⟩
  exact q2 L1 H1 v (Stp.refl L1 H1) r1.m rv
def dropS (da : DenE) : DenS := fun e M => thenS (da e M) e fun _ M1 => some (.nx e, M1)
theorem ds_expr {y : Expr} {da : DenE} {pos : Pos} (ha : DE F X W y da) (hs : swapsWith y none pos.line X.env = pure false := by rfl) : DS F X W (.Expr y pos) (dropS da) := by
  obtain ⟨t, p, q⟩ := ha
  refine ⟨_, ps_expr p hs, fun e M L σ H T sr pp => q e M L σ H _ sr (post_then (fun d M1 L1 H1 v s1 r1 rv q2 => ?_) pp)⟩
  exact q2 L1 H1 σ (Stp.refl L1 H1) r1
def ifS (dc : DenE) (a b : DenS) : DenS := fun e M => thenS (dc e M) e fun d M1 => match d with
  | .bl true => a e M1
  | .bl false => b e M1
  | _ => none
theorem ds_if {c : Expr} {xs ys : List Stmt} {dc : DenE} {a b : DenS} {pos : Pos} (hc : DT F X W c dc) (ha : DSs F X W xs a) (hb : DSs F X W ys b) : DS F X W (.If c xs ys pos) (ifS dc a b) := by
  obtain ⟨tc, pc, qc⟩ := hc
  obtain ⟨ta, pa, qa⟩ := ha
  obtain ⟨tb, pb, qb⟩ := hb
  refine ⟨_, ps_if pc pa pb, fun e M L σ H T sr pp => qc e M L σ H _ sr (post_then (fun d M1 L1 H1 v s1 r1 rv q => ?_) pp)⟩
  split at q
  · refine ⟨true, rv, ?_⟩
    rw [if_pos rfl]
    exact qa e M1 L1 σ H1 T r1 q
  · refine ⟨false, rv, ?_⟩
    rw [if_neg fun z => Bool.false_ne_true z]
    exact qb e M1 L1 σ H1 T r1 q
  · exact False.elim q
end
end DL
namespace DL
open PySem L2
section
variable {F : Fx} {X : Cx} {W : WX} {L L1 : List Addr} {H H1 : Hp} {M : Store} {e : Env} {σ : St} {T : Ends} {k : Nat}
def forS (i : Nat) (body : DenS) : List D → DenS
  | [], e, M => some (.nx e, M)
  | d :: ds, e, M => match body (e.set i (some d)) M with
    | some (.nx e', M') => forS i body ds e' M'
    | some (.ct e', M') => forS i body ds e' M'
    | some (.bk e', M') => some (.nx e', M')
    | r => r
/-- the loop's rest from the items ds on is told from here -/
def ForW (F : Fx) (W : WX) (T : Ends) (i : Nat) (body : DenS) (L : List Addr) (H : Hp) (ds : List D) (σ' : St) (H' : Hp) : Prop :=
  ∃ L' e' M', Stp L H L' H' ∧ SR F L' H' M' e' σ' ∧ PostS F L' H' W T (forS i body ds e' M')
theorem for_turn {i : Nat} {body : DenS} {tb : TS} (hb : ∀ (e : Env) (M : Store) (L : List Addr) (σ : St) (H : Hp) (T : Ends), SR F L H M e σ → PostS F L H W T (body e M) → tb T σ H)
    {d : D} {ds : List D} {v : V} {σ' : St} {H' : Hp} (w : ForW F W T i body L H (d :: ds) σ' H') (rv : ∀ L', Stp L H L' H' → (∀ M' e', SR F L' H' M' e' σ' → Rep F L' H' d v)) :
    tb { T with nx := ForW F W T i body L H ds, ct := ForW F W T i body L H ds, bk := T.nx } (σ'.set i (some v)) H' := by
  obtain ⟨L', e', M', s, r, p⟩ := w
  refine hb _ M' L' _ H' _ (r.set i (rv L' s M' e' r)) ?_
  unfold forS at p
  revert p
  cases body (e'.set i (some d)) M' with
  | none => exact id
  | some y =>
    obtain ⟨fl, M2⟩ := y
    cases fl with
    | nx e2 => exact fun p L2 H2 σ2 s2 r2 => ⟨L2, e2, M2, s.trans s2, r2, PostS.go s2 p⟩
    | ct e2 => exact fun p L2 H2 σ2 s2 r2 => ⟨L2, e2, M2, s.trans s2, r2, PostS.go s2 p⟩
    | bk e2 => exact fun p L2 H2 σ2 s2 r2 => p L2 H2 σ2 s2 r2
    | rt d2 => exact id
    | ex c fs e2 => exact id
theorem for_end {i : Nat} {body : DenS} {σ' : St} {H' : Hp} (w : ForW F W T i body L H [] σ' H') : T.nx σ' H' := by
  obtain ⟨L', e', M', s, r, p⟩ := w
  exact p L' H' σ' (Stp.refl L' H') r
theorem drop_cons {α : Type} : ∀ {xs : List α} {j : Nat} {x : α}, xs[j]? = some x → xs.drop j = x :: xs.drop (j + 1)
  | [], _, _, h => by simp at h
  | a :: xs, 0, x, h => by
    have q : a = x := by simpa using h
    rw [q]
    rfl
  | a :: xs, j + 1, x, h => drop_cons (xs := xs) (j := j) (by simpa using h)
/-- a list that stays (a value; not one of the store) -/
def LstAt (K : PySem.W.Frag) (L : List Addr) (H : Hp) (a : Addr) (vs : List V) : Prop := (H a = some (.lst vs) ∧ a ∉ L) ∨ (∃ o, H a = some (.frz o (.lst vs))) ∨ KL K a vs
theorem LstAt.sq {K : PySem.W.Frag} {a : Addr} {vs : List V} (h : LstAt K L H a vs) : SqL K H a vs := by
  rcases h with ⟨h, _⟩ | ⟨o, h⟩ | h
  · exact .inl (.inl h)
  · exact .inl (.inr ⟨o, h⟩)
  · exact .inr h
theorem LstAt.stay {a : Addr} {vs : List V} (m : SM F L H M) (s : Stp L H L1 H1) (h : LstAt F.K L H a vs) : LstAt F.K L1 H1 a vs := by
  rcases h with ⟨h, n⟩ | ⟨o, h⟩ | h
  · exact .inl ⟨s.ext a _ h n fun ps z => (by cases z), s.out h n⟩
  · refine .inr (.inl ⟨o, s.ext a _ h (fun z => ?_) fun ps z => (by cases z)⟩)
    obtain ⟨ws, z⟩ := m.kind z
    rw [h] at z
    cases z
  · exact .inr (.inr h)
/-- the items of a list that is a value -/
def valL : D → Option (List D)
  | .lst ds => some ds
  | .scr ns => some (ns.map D.int)
  | _ => none
theorem valL_at {d : D} {ds : List D} {v : V} (g : valL d = some ds) (r : Rep F L H d v) : ∃ a vs, v = .ref a ∧ LstAt F.K L H a vs ∧ Reps F L H ds vs := by
  cases d with
  | lst es =>
    cases Option.some.inj g
    obtain ⟨a, vs, e1, e2, e3⟩ := r
    exact ⟨a, vs, e1, .inl e2, e3⟩
  | scr ns =>
    cases Option.some.inj g
    obtain ⟨a, e1, e2⟩ := r
    exact ⟨a, _, e1, .inr e2, reps_ints ns⟩
  | non => cases g
  | bl b => cases g
  | int i => cases g
  | str x => cases g
  | tup es => cases g
  | emp => cases g
  | loc n => cases g
  | exc c fs => cases g
  | ty n => cases g
  | cls n => cases g
  | clo f c q σd is ds => cases g
def forLS (i : Nat) (dl : DenE) (body : DenS) : DenS := fun e M => thenS (dl e M) e fun d M1 => match valL d with
  | some ds => forS i body ds e M1
  | none => none
def forTS (i : Nat) (dl : DenE) (body : DenS) : DenS := fun e M => thenS (dl e M) e fun d M1 => match d with
  | .tup ds => forS i body ds e M1
  | _ => none
def rngI (lo : Int) (n : Nat) : List D := (List.range n).map fun (j : Nat) => D.int (lo + (j : Int))
def small62 (i : Int) : Bool := decide (-(2 ^ 62) ≤ i ∧ i < 2 ^ 62)
def forR1 (i : Nat) (dr : DenA) (body : DenS) : DenS := fun e M => thenS (dr e M) e fun ds M1 => match ds with
  | [.int n] => if small62 n = true then forS i body (rngI 0 n.toNat) e M1 else none
  | _ => none
theorem ds_forL (i : Nat) {x : Str} {it : Expr} {body : List Stmt} {dl : DenE} {db : DenS} {pos pos' : Pos} (d : Dc X W k) (hN : X.N.Nodup) (hl : DE F X W it dl) (hb : DSs F X W body db) (hi : X.N[i]? = some x := by rfl) (hx : Loc X.env.scope x := by first | exact Or.inl rfl | exact Or.inr rfl)
    (hf : X.fn x = true ∨ X.env.scope.names.lookup x = some .local := by first | exact .inl rfl | exact .inr rfl) (hs : ∀ x, foldedSetIterable it X.env x = pure x := by intro _; rfl) (hK : X.K = F.K := by rfl) : DS F X W (.For (.Name x pos') it body [] pos) (forLS i dl db) := by
  obtain ⟨tl, pl, ql⟩ := hl
  obtain ⟨tb, pb, qb⟩ := hb
  refine ⟨_, ps_for d.own d.calm (pi_list pl) (pg_name hN hi hx hf) pb hs, fun e M L σ H T sr pp => ql e M L σ H _ sr (post_then (fun dv M1 L1 H1 v s1 r1 rv q => ?_) pp)⟩
  split at q
  · rename_i ds hd
    obtain ⟨a, vs, rfl, a2, a3⟩ := valL_at hd rv
    have hlen := reps_len a3
    refine ⟨a, rfl, ⟨vs, by rw [hK]; exact a2.sq⟩, for_list (xs := vs) (fun j σ' H' => ForW F W T i db L1 H1 (ds.drop j) σ' H') ⟨L1, e, M1, Stp.refl L1 H1, r1, q⟩ (fun j σ' H' _ w => ?_) (fun j y σ' H' hy w => ?_) fun σ' H' w => ?_⟩
    · obtain ⟨L', e', M', s, r, _⟩ := w
      rw [hK]
      exact (a2.stay r1.m s).sq
    · have hj : j < ds.length := by rw [hlen]; exact (List.getElem?_eq_some_iff.mp hy).1
      have hd2 : ds[j]? = some ds[j] := List.getElem?_eq_getElem hj
      obtain ⟨y', h1, h2⟩ := reps_get a3 hd2
      rw [hy] at h1
      cases Option.some.inj h1
      rw [drop_cons hd2] at w
      exact for_turn qb w fun L' s M' e' r' => Rep.stay r1.m s _ _ h2
    · rw [← hlen, List.drop_length] at w
      exact for_end w
  · exact False.elim q
theorem ds_forT (i : Nat) {x : Str} {it : Expr} {body : List Stmt} {dl : DenE} {db : DenS} {pos pos' : Pos} (d : Dc X W k) (hN : X.N.Nodup) (hl : DE F X W it dl) (hb : DSs F X W body db) (hi : X.N[i]? = some x := by rfl) (hx : Loc X.env.scope x := by first | exact Or.inl rfl | exact Or.inr rfl)
    (hf : X.fn x = true ∨ X.env.scope.names.lookup x = some .local := by first | exact .inl rfl | exact .inr rfl) (hs : ∀ x, foldedSetIterable it X.env x = pure x := by intro _; rfl) (hK : X.K = F.K := by rfl) : DS F X W (.For (.Name x pos') it body [] pos) (forTS i dl db) := by
  obtain ⟨tl, pl, ql⟩ := hl
  obtain ⟨tb, pb, qb⟩ := hb
  refine ⟨_, ps_for d.own d.calm (pi_tup pl) (pg_name hN hi hx hf) pb hs, fun e M L σ H T sr pp => ql e M L σ H _ sr (post_then (fun dv M1 L1 H1 v s1 r1 rv q => ?_) pp)⟩
  split at q
  · rename_i ds
    obtain ⟨a, vs, rfl, a2, a3⟩ := rv
    have hlen := reps_len a3
    refine ⟨a, rfl, ⟨vs, by rw [hK]; exact a2⟩, for_tup (xs := vs) (fun j σ' H' => ForW F W T i db L1 H1 (ds.drop j) σ' H') ⟨L1, e, M1, Stp.refl L1 H1, r1, q⟩ (fun j σ' H' _ w => ?_) (fun j y σ' H' hy w => ?_) fun σ' H' w => ?_⟩
    · obtain ⟨L', e', M', s, r, _⟩ := w
      rw [hK]
      exact sqt_stay r1.m s a2
    · have hj : j < ds.length := by rw [hlen]; exact (List.getElem?_eq_some_iff.mp hy).1
      have hd2 : ds[j]? = some ds[j] := List.getElem?_eq_getElem hj
      obtain ⟨y', h1, h2⟩ := reps_get a3 hd2
      rw [hy] at h1
      cases Option.some.inj h1
      rw [drop_cons hd2] at w
      exact for_turn qb w fun L' s M' e' r' => Rep.stay r1.m s _ _ h2
    · rw [← hlen, List.drop_length] at w
      exact for_end w
  · exact False.elim q
theorem rng_len (lo : Int) (n : Nat) : (rngI lo n).length = n := by
  unfold rngI
  simp only [List.length_range, List.length_map]
theorem rng_drop {lo : Int} {n j : Nat} (h : j < n) : (rngI lo n).drop j = .int (lo + (j : Int)) :: (rngI lo n).drop (j + 1) := by
  refine drop_cons ?_
  unfold rngI
  rw [List.getElem?_map, List.getElem?_range h]
  rfl
theorem rng_for {i : Nat} {db : DenS} {tb : TS} (qb : ∀ (e : Env) (M : Store) (L : List Addr) (σ : St) (H : Hp) (T : Ends), SR F L H M e σ → PostS F L H W T (db e M) → tb T σ H) {lo : Int} {n : Nat} (sr : SR F L H M e σ) (p : PostS F L H W T (forS i db (rngI lo n) e M)) :
    ∃ Wd : Nat → Nat → St → Hp → Prop, (∃ m, Wd 0 m σ H) ∧ ∀ j m σ' H', Wd j m σ' H' →
      ((Itr lo n).stop j H' ∧ T.nx σ' H') ∨ ((Itr lo n).go j H' ∧ ∃ N : St → Hp → Prop, (∀ σ2 H2, N σ2 H2 → ∃ m', m' < m ∧ Wd (j + 1) m' σ2 H2) ∧ ∀ x H2, (Itr lo n).yld j H' x H2 → gName i x σ' H2 fun σ3 H3 => tb { T with nx := N, ct := N, bk := T.nx } σ3 H3) := by
  refine for_range (fun j σ' H' => ForW F W T i db L H ((rngI lo n).drop j) σ' H') ⟨L, e, M, Stp.refl L H, sr, p⟩ (fun j σ' H' hj w => ?_) fun σ' H' w => ?_
  · rw [rng_drop hj] at w
    exact for_turn qb w fun L' s M' e' r' => rfl
  · rw [show (rngI lo n).drop n = [] from List.drop_of_length_le (by rw [rng_len]; exact Nat.le_refl _)] at w
    exact for_end w
theorem ds_forR1 (i : Nat) {x : Str} {a : Expr} {body : List Stmt} {da : DenE} {db : DenS} {p0 p1 pos pos' : Pos} (d : Dc X W k) (hm : X.mg "range" = none) (hN : X.N.Nodup) (ha : DE F X W a da) (hb : DSs F X W body db) (hg : Gl X "range" := by rfl) (hi : X.N[i]? = some x := by rfl) (hx : Loc X.env.scope x := by first | exact Or.inl rfl | exact Or.inr rfl)
    (hf : X.fn x = true ∨ X.env.scope.names.lookup x = some .local := by first | exact .inl rfl | exact .inr rfl) (hs0 : starEach [a] X.env = [(false, eval a X.env)] := by rfl) (hs : ∀ x, foldedSetIterable (.Call (.Name "range" p0) [a] [] p1) X.env x = pure x := by intro _; rfl) : DS F X W (.For (.Name x pos') (.Call (.Name "range" p0) [a] [] p1) body [] pos) (forR1 i (consA da nilA) db) := by
  obtain ⟨tl, pl, ql⟩ := da_cons ha da_nil (by rw [hs0]; rfl)
  obtain ⟨tb, pb, qb⟩ := hb
  refine ⟨_, ps_for d.own d.calm (pi_range1 hg hm pl hs0) (pg_name hN hi hx hf) pb hs, fun e M L σ H T sr pp => ql e M L σ H _ sr (post_then (fun dv M1 L1 H1 vs s1 r1 rv q => ?_) pp)⟩
  split at q
  · rename_i n
    obtain ⟨v, rfl, h1⟩ := reps1 rv
    have z : v = .int n := h1
    subst z
    split at q
    · rename_i hn
      have hn' := of_decide_eq_true hn
      exact ⟨n, rfl, hn'.1, hn'.2, rng_for qb r1 q⟩
    · exact False.elim q
  · exact False.elim q
def whileS (dt : DenE) (body : DenS) : Nat → DenS
  | 0, _, _ => none
  | n + 1, e, M => match dt e M with
    | some (.val (.bl true), M1) => (match body e M1 with
      | some (.nx e', M') => whileS dt body n e' M'
      | some (.ct e', M') => whileS dt body n e' M'
      | some (.bk e', M') => some (.nx e', M')
      | r => r)
    | some (.val (.bl false), M1) => some (.nx e, M1)
    | some (.exc c fs, M1) => some (.ex c fs e, M1)
    | _ => none
theorem ds_while {c : Expr} {body : List Stmt} {dt : DenE} {db : DenS} {pos : Pos} (fuel : Env → Store → Nat) (d : Dc X W k) (hc : DT F X W c dt) (hb : DSs F X W body db) : DS F X W (.While c body [] pos) (fun e M => whileS dt db (fuel e M) e M) := by
  obtain ⟨tc, pc, qc⟩ := hc
  obtain ⟨tb, pb, qb⟩ := hb
  refine ⟨_, ps_while d.own pc pb, fun e M L σ H T sr pp => ?_⟩
  refine ⟨fun n σ' H' => ∃ L' e' M', Stp L H L' H' ∧ SR F L' H' M' e' σ' ∧ PostS F L' H' W T (whileS dt db n e' M'), ⟨fuel e M, L, e, M, Stp.refl L H, sr, pp⟩, ?_⟩
  rintro n σ' H' ⟨L', e', M', s, r, p⟩
  cases n with
  | zero => exact False.elim p
  | succ n =>
    refine qc e' M' L' σ' H' _ r ?_
    unfold whileS at p
    revert p
    cases hd : dt e' M' with
    | none => exact id
    | some y =>
      obtain ⟨o, M1⟩ := y
      cases o with
      | exc c fs => exact fun p L2 H2 cls dd s2 r2 x => p L2 H2 σ' cls dd s2 r2 x
      | val dv =>
        intro p L2 H2 v s2 r2 rv
        revert p
        cases dv with
        | bl b =>
          cases b with
          | false =>
            intro p
            refine ⟨false, rv, ?_⟩
            rw [if_neg fun z => Bool.false_ne_true z]
            exact p L2 H2 σ' s2 r2
          | true =>
            intro p
            refine ⟨true, rv, ?_⟩
            rw [if_pos rfl]
            refine ⟨fun σ3 H3 => ∃ L' e' M', Stp L H L' H3 ∧ SR F L' H3 M' e' σ3 ∧ PostS F L' H3 W T (whileS dt db n e' M'), fun σ3 H3 z => ⟨n, Nat.lt_succ_self n, z⟩, qb e' M1 L2 σ' H2 _ r2 ?_⟩
            dsimp only at p
            revert p
            cases db e' M1 with
            | none => exact id
            | some y =>
              obtain ⟨fl, M3⟩ := y
              cases fl with
              | nx e3 => exact fun p L3 H3 σ3 s3 r3 => ⟨L3, e3, M3, (s.trans s2).trans s3, r3, PostS.go (s2.trans s3) p⟩
              | ct e3 => exact fun p L3 H3 σ3 s3 r3 => ⟨L3, e3, M3, (s.trans s2).trans s3, r3, PostS.go (s2.trans s3) p⟩
              | bk e3 => exact fun p => PostS.go s2 p
              | rt d3 => exact fun p => PostS.go s2 p
              | ex c fs e3 => exact fun p => PostS.go s2 p
        | non => exact fun p => False.elim p
        | int i => exact fun p => False.elim p
        | str i => exact fun p => False.elim p
        | tup i => exact fun p => False.elim p
        | lst i => exact fun p => False.elim p
        | scr i => exact fun p => False.elim p
        | emp => exact fun p => False.elim p
        | loc i => exact fun p => False.elim p
        | exc c i => exact fun p => False.elim p
        | ty i => exact fun p => False.elim p
        | cls i => exact fun p => False.elim p
        | clo f c q σd i ds => exact fun p => False.elim p
def ofBody (n : Nat) (den : DenS) : DenF := fun ds M => match den (ds.map some ++ List.replicate (n - ds.length) none) M with
  | some (.nx _, M') => ok .non M'
  | some (.rt d, M') => ok d M'
  | some (.ex c fs _, M') => some (.exc c fs, M')
  | _ => none
theorem start_env {ds : List D} {vs : List V} (n : Nat) (r : Reps F L H ds vs) (N : List Str) (hn : N.length = n) : EnvR F L H (ds.map some ++ List.replicate (n - ds.length) none) (L2.start N vs) ∧ (L2.start N vs).length = (ds.map some ++ List.replicate (n - ds.length) (none : Option D)).length := by
  have hl := reps_len r
  refine ⟨fun i d q => ?_, ?_⟩
  · by_cases hi : i < ds.length
    · rw [List.getElem?_append_left (by rw [List.length_map]; exact hi), List.getElem?_map] at q
      cases h : ds[i]? with
      | none => rw [h] at q; cases q
      | some d' =>
        rw [h] at q
        cases q
        obtain ⟨v, h1, h2⟩ := reps_get r h
        refine ⟨v, ?_, h2⟩
        unfold L2.start
        rw [List.getElem?_append_left (by rw [List.length_map, ← hl]; exact hi), List.getElem?_map, h1]
        rfl
    · rw [List.getElem?_append_right (by rw [List.length_map]; omega), List.getElem?_replicate] at q
      split at q
      · cases q
      · cases q
  · unfold L2.start
    rw [List.length_append, List.length_append, List.length_map, List.length_map, List.length_replicate, List.length_replicate, hn, hl]
theorem fn_mk0 {P : Program} {w : World} {mg : Str → Option Value} {base : Heap} {f : Addr} {fd : FuncData} {x qual : Str} {st : Stmt} {N ps : List Str} {den : DenS} {n : Nat} (Fn : Fun F.K x qual st f fd) (S : FnScope N ps (defScope st)) (hn : N.length = n)
    (body : ∀ (cdv : Value) (A : Around) (outer : List PySem.Env) (s : Shared) (H : Hp) (E : XK), fd.code = cdv → Dc (cxOf (L2.CX P w) P w F.K mg base N qual (defScope st) f cdv A outer s H E) (fun cls d _ H => E cls d H) k →
      DSs F (cxOf (L2.CX P w) P w F.K mg base N qual (defScope st) f cdv A outer s H E) (fun cls d _ H => E cls d H) (defBody st) den) : FnD P w F mg base (k + 1) f fd ps (ofBody n den) := by
  refine ⟨fun A outer s H args us vs Q E hr hg e0 hb hv hl sp => ?_⟩
  obtain ⟨oc, od, kV, doc, pm, an, cdv, ct, osl, rfl, lk, hcd⟩ := Fn.ex
  refine LamX.run_ofS lk hcd S hr e0 hb hv hl fun hr' => ?_
  have dc : Dc (cxOf (L2.CX P w) P w F.K mg base N qual (defScope st) f cdv A outer s H E) (fun cls d _ H => E cls d H) k := ⟨takes_of rfl rfl rfl rfl, hr', rfl, hg, passes_of rfl⟩
  obtain ⟨t, p1, p2⟩ := body cdv A outer s H E rfl dc
  obtain ⟨L, M, ds, m, r, p⟩ := sp
  obtain ⟨h1, h2⟩ := start_env n r N hn
  refine ⟨t, p1, p2 _ M L _ H _ ⟨h2, m, h1⟩ ?_⟩
  unfold ofBody at p
  revert p
  cases den (ds.map some ++ List.replicate (n - ds.length) none) M with
  | none => exact id
  | some y =>
    obtain ⟨fl, M'⟩ := y
    cases fl with
    | nx e' => exact fun p L' H' σ' s' r' => p L' H' .non s' r'.m rfl
    | rt d => exact id
    | ex c fs e' => exact fun p L' H' σ' cls dd s' r' x => p L' H' cls dd s' r'.m x
    | bk e' => exact False.elim
    | ct e' => exact False.elim
theorem fn_mk {P : Program} {w : World} {mg : Str → Option Value} {base : Heap} {f : Addr} {fd : FuncData} {x qual : Str} {st : Stmt} {N ps : List Str} {den : DenS} {n : Nat} (Fn : Fun F.K x qual st f fd) (S : FnScope N ps (defScope st)) (hn : N.length = n)
    (body : ∀ (cdv : Value) (A : Around) (outer : List PySem.Env) (s : Shared) (H : Hp) (E : XK), Dc (cxOf (L2.CX P w) P w F.K mg base N qual (defScope st) f cdv A outer s H E) (fun cls d _ H => E cls d H) k →
      DSs F (cxOf (L2.CX P w) P w F.K mg base N qual (defScope st) f cdv A outer s H E) (fun cls d _ H => E cls d H) (defBody st) den) : FnD P w F mg base (k + 1) f fd ps (ofBody n den) := fn_mk0 Fn S hn fun cdv A outer s H E _ dc => body cdv A outer s H E dc
/-- the code object told -/
theorem fn_mkC {P : Program} {w : World} {mg : Str → Option Value} {base : Heap} {f c : Addr} {fd : FuncData} {x qual : Str} {st : Stmt} {N ps : List Str} {den : DenS} {n : Nat} (Fn : Fun F.K x qual st f fd) (hc : fd.code = .ref c) (S : FnScope N ps (defScope st)) (hn : N.length = n)
    (body : ∀ (A : Around) (outer : List PySem.Env) (s : Shared) (H : Hp) (E : XK), Dc (cxOf (L2.CX P w) P w F.K mg base N qual (defScope st) f (.ref c) A outer s H E) (fun cls d _ H => E cls d H) k →
      DSs F (cxOf (L2.CX P w) P w F.K mg base N qual (defScope st) f (.ref c) A outer s H E) (fun cls d _ H => E cls d H) (defBody st) den) : FnD P w F mg base (k + 1) f fd ps (ofBody n den) := fn_mk0 Fn S hn fun cdv A outer s H E he dc => by
  have z : cdv = .ref c := he.symm.trans hc
  subst z
  exact body A outer s H E dc
end
end DL
namespace DL
open PySem L2
section
variable {F : Fx} {X : Cx} {W : WX} {L L1 : List Addr} {H H1 : Hp} {M : Store} {e : Env} {σ : St} {T : Ends} {k : Nat}
theorem nodup_at {α : Type} : ∀ {l : List α}, l.Nodup → ∀ {i j : Nat} {x : α}, l[i]? = some x → l[j]? = some x → i = j
  | [], _, _, _, _, q, _ => by simp at q
  | a :: l, n, 0, 0, _, _, _ => rfl
  | a :: l, n, 0, j + 1, x, h, q => by
    have e1 : a = x := by simpa using h
    have e2 : l[j]? = some x := by simpa using q
    rw [← e1] at e2
    exact absurd (List.mem_of_getElem? e2) (List.nodup_cons.mp n).1
  | a :: l, n, i + 1, 0, x, h, q => by
    have e1 : a = x := by simpa using q
    have e2 : l[i]? = some x := by simpa using h
    rw [← e1] at e2
    exact absurd (List.mem_of_getElem? e2) (List.nodup_cons.mp n).1
  | a :: l, n, i + 1, j + 1, x, h, q => by
    have z := nodup_at (l := l) (List.nodup_cons.mp n).2 (i := i) (j := j) (x := x) (by simpa using h) (by simpa using q)
    rw [z]
/-- the tables behind a step that touches none -/
theorem tbs_upd {p : Addr} {o : HO} (m : SM F L H M) (hp : ∀ ps, H p ≠ some (.tbl ps)) (hc : ∀ c q, H p ≠ some (LamX.CodeO c q)) : LamX.Tabs F.T (upd H p o) := by
  intro y hy
  obtain ⟨ps, h1, h2, h3⟩ := m.tbs y hy
  refine ⟨ps, ?_, h2, fun pos cv h => ?_⟩
  · rw [upd_ne (fun z => hp ps (by rw [← z]; exact h1))]
    exact h1
  · obtain ⟨c, e1, e2⟩ := h3 pos cv h
    refine ⟨c, e1, ?_⟩
    rw [upd_ne (fun z => hc c y.2 (by rw [← z]; exact e2))]
    exact e2
/-- a list of the store is changed -/
theorem SM.put (m : SM F L H M) {n : Nat} {a : Addr} {ds : List D} {vs : List V} (hn : L[n]? = some a) (r : Reps F L H ds vs) : SM F L (upd H a (.lst vs)) (M.set n (.lst ds)) ∧ Stp L H L (upd H a (.lst vs)) := by
  have ha : a ∈ L := List.mem_of_getElem? hn
  have s : Stp L H L (upd H a (.lst vs)) := Stp.put ha
  obtain ⟨ws, hw⟩ := m.kind ha
  refine ⟨⟨by rw [List.length_set]; exact m.len, m.nd, fun j b o h1 h2 => ?_, tbs_upd m (fun ps z => ?_) fun c q z => ?_⟩, s⟩
  · by_cases hj : j = n
    · subst hj
      rw [h1] at hn
      cases hn
      have hl : j < M.length := by
        rw [← m.len]
        exact (List.getElem?_eq_some_iff.mp h1).1
      rw [List.getElem?_set_self hl] at h2
      cases h2
      exact ⟨vs, upd_same, Reps.stay m s ds vs r⟩
    · rw [List.getElem?_set_ne (Ne.symm hj)] at h2
      have ne : b ≠ a := fun z => hj (nodup_at m.nd h1 (by rw [z]; exact hn))
      have q := m.obs j b o h1 h2
      cases o with
      | lst es =>
        obtain ⟨us, q1, q2⟩ := q
        exact ⟨us, by rw [upd_ne ne]; exact q1, Reps.stay m s es us q2⟩
  · rw [hw] at z
    cases z
  · rw [hw] at z
    unfold LamX.CodeO at z
    cases z
/-- a new list of the store -/
theorem SM.own (m : SM F L H M) {p : Addr} {ds : List D} {vs : List V} (hp : H p = none) (r : Reps F L H ds vs) : SM F (L ++ [p]) (upd H p (.lst vs)) (M ++ [.lst ds]) ∧ Stp L H (L ++ [p]) (upd H p (.lst vs)) := by
  have s : Stp L H (L ++ [p]) (upd H p (.lst vs)) := Stp.alloc' hp
  refine ⟨⟨by rw [List.length_append, List.length_append, m.len]; rfl, List.nodup_append.mpr ⟨m.nd, by simp, fun x hx y hy z => ?_⟩, fun j b o h1 h2 => ?_, m.tbs.ext fun b x h => by rw [upd_ne (ne_of_none h hp)]; exact h⟩, s⟩
  · have hy' : y = p := by simpa using hy
    rw [z, hy'] at hx
    exact fresh_out m hp hx
  · by_cases hj : j < L.length
    · rw [List.getElem?_append_left hj] at h1
      rw [List.getElem?_append_left (by rw [← m.len]; exact hj)] at h2
      have q := m.obs j b o h1 h2
      cases o with
      | lst es =>
        obtain ⟨us, q1, q2⟩ := q
        exact ⟨us, by rw [upd_ne (ne_of_none q1 hp)]; exact q1, Reps.stay m s es us q2⟩
    · rw [List.getElem?_append_right (by omega)] at h1
      rw [List.getElem?_append_right (by rw [← m.len]; omega)] at h2
      have hj0 : j - L.length = 0 := by
        have h3 := (List.getElem?_eq_some_iff.mp h1).1
        simp at h3
        omega
      rw [hj0] at h1
      rw [← m.len, hj0] at h2
      have e1 : p = b := by simpa using h1
      have e2 : Ob.lst ds = o := by simpa using h2
      subst e1 e2
      exact ⟨vs, upd_same, Reps.stay m s ds vs r⟩
abbrev DenG := D → DenS
def DG (F : Fx) (X : Cx) (W : WX) (tg : Expr) (den : DenG) : Prop :=
  ∃ t, PG X tg t ∧ ∀ (d : D) (v : V) (e : Env) (M : Store) (L : List Addr) (σ : St) (H : Hp) (T : Ends), SR F L H M e σ → Rep F L H d v → PostS F L H W T (den d e M) → t v σ H T.nx
def DGs (F : Fx) (X : Cx) (W : WX) (tgs : List Expr) (den : List D → DenS) : Prop :=
  ∃ t, PGs X tgs t ∧ ∀ (ds : List D) (vs : List V) (e : Env) (M : Store) (L : List Addr) (σ : St) (H : Hp) (T : Ends), SR F L H M e σ → Reps F L H ds vs → PostS F L H W T (den ds e M) → t vs σ H T.nx
def nameG (i : Nat) : DenG := fun d e M => some (.nx (e.set i (some d)), M)
theorem dg_name (i : Nat) {x : Str} {pos : Pos} (hN : X.N.Nodup) (hi : X.N[i]? = some x := by rfl) (hx : Loc X.env.scope x := by first | exact Or.inl rfl | exact Or.inr rfl) (hf : X.fn x = true ∨ X.env.scope.names.lookup x = some .local := by first | exact .inl rfl | exact .inr rfl) : DG F X W (.Name x pos) (nameG i) :=
  ⟨_, pg_name hN hi hx hf, fun d v e M L σ H T sr rv p => p L H _ (Stp.refl L H) (sr.set i rv)⟩
def nilG : List D → DenS
  | [], e, M => some (.nx e, M)
  | _, _, _ => none
def consG (g : DenG) (gs : List D → DenS) : List D → DenS
  | d :: ds, e, M => (match g d e M with
    | some (.nx e', M') => gs ds e' M'
    | _ => none)
  | _, _, _ => none
theorem dgs_nil : DGs F X W [] nilG := by
  refine ⟨_, pgs_nil, fun ds vs e M L σ H T sr rv p => ?_⟩
  cases ds with
  | nil => exact ⟨rv, p L H σ (Stp.refl L H) sr⟩
  | cons d ds => exact False.elim p
theorem dgs_cons {y : Expr} {ys : List Expr} {g : DenG} {gs : List D → DenS} (h1 : DG F X W y g) (h2 : DGs F X W ys gs) (hs : (assignEach (y :: ys) X.env).map (·.2) = assign y X.env :: (assignEach ys X.env).map (·.2) := by rfl) : DGs F X W (y :: ys) (consG g gs) := by
  obtain ⟨t, p1, q1⟩ := h1
  obtain ⟨u, p2, q2⟩ := h2
  refine ⟨_, pgs_cons p1 p2 hs, fun ds vs e M L σ H T sr rv p => ?_⟩
  cases ds with
  | nil => exact False.elim p
  | cons d ds =>
    obtain ⟨v, r, rfl, r1, r2⟩ := rv
    refine ⟨v, r, rfl, q1 d v e M L σ H { T with nx := fun σ' H' => u r σ' H' T.nx } sr r1 ?_⟩
    have p' : PostS F L H W T (match g d e M with
      | some (.nx e', M') => gs ds e' M'
      | _ => none) := p
    clear p
    revert p'
    cases g d e M with
    | none => exact id
    | some z =>
      obtain ⟨fl, M'⟩ := z
      cases fl with
      | nx e' => exact fun p L' H' σ' s r' => q2 ds r e' M' L' σ' H' T r' (Reps.stay sr.m s ds r r2) (PostS.go s p)
      | bk e' => exact False.elim
      | ct e' => exact False.elim
      | rt d' => exact False.elim
      | ex c fs e' => exact False.elim
def tupG (n : Nat) (gs : List D → DenS) : DenG := fun d e M => match d with
  | .tup ds => if ds.length = n then gs ds e M else none
  | _ => none
theorem dg_tup {ys : List Expr} {kx : Nat} {pos : Pos} {n : Nat} {gs : List D → DenS} (hc : X.calm = true) (h : DGs F X W ys gs) (hK : X.K = F.K := by rfl) (hn : (assignEach ys X.env).length = n := by rfl) (hst : (assignEach ys X.env).findIdx? (·.1) = none := by rfl) : DG F X W (.Tuple ys kx pos) (tupG n gs) := by
  obtain ⟨t, p1, q1⟩ := h
  refine ⟨_, pg_tup hc p1 hn hst, fun d v e M L σ H T sr rv p => ?_⟩
  unfold tupG at p
  split at p
  · rename_i ds
    obtain ⟨a, vs, rfl, a2, a3⟩ := rv
    split at p
    · rename_i hl
      exact ⟨a, vs, rfl, by rw [hK]; exact a2, by rw [← reps_len a3]; exact hl, q1 ds vs e M L σ H T sr a3 p⟩
    · exact False.elim p
  · exact False.elim p
/-- o[i] = .. -/
def subG (dob di : DenE) : DenG := fun d e M => thenS (dob e M) e fun o M1 => thenS (di e M1) e fun i M2 => match o, i with
  | .loc n, .int z => (match M2[n]? with
    | some (.lst ds) => (match ixN ds.length z with
      | some j => some (.nx e, M2.set n (.lst (ds.set j d)))
      | none => none)
    | none => none)
  | _, _ => none
theorem dg_sub {o i : Expr} {dob di : DenE} {pos : Pos} (ho : DE F X W o dob) (hi : DE F X W i di) (ha : ∀ v, assign (.Subscript o i pos) X.env v = (do
      let o1 ← holding [v] (eval o X.env)
      let i1 ← holding [v, o1] (eval i X.env)
      standAt pos
      holding [v, o1, i1] (setItem o1 i1 v)
      release [v, o1, i1] []) := by intro _; rfl) : DG F X W (.Subscript o i pos) (subG dob di) := by
  obtain ⟨to, p1, q1⟩ := ho
  obtain ⟨ti, p2, q2⟩ := hi
  refine ⟨_, pg_sub p1 p2 set_list ha, fun d v e M L σ H T sr rv p => ?_⟩
  refine q1 e M L σ H _ sr (post_then (fun od M1 L1 H1 ov s1 r1 rov qa => ?_) p)
  refine q2 e M1 L1 σ H1 _ r1 (post_then (fun id' M2 L2 H2 iv s2 r2 riv q => ?_) qa)
  split at q
  · rename_i n z
    split at q
    · rename_i ds hds
      split at q
      · rename_i j hj
        obtain ⟨a, rfl, ha'⟩ := Rep.stay r1.m s2 _ _ rov
        have ziv : iv = .int z := riv
        subst ziv
        obtain ⟨o2, h1, h2⟩ := r2.m.get ha'
        rw [hds] at h1
        cases h1
        obtain ⟨vs, h3, h4⟩ := h2
        have rv2 := Rep.stay r1.m s2 _ _ (Rep.stay sr.m s1 _ _ rv)
        obtain ⟨m3, s3⟩ := SM.put r2.m ha' (reps_set j h4 rv2)
        exact ⟨a, vs, z, j, rfl, rfl, h3, by rw [← reps_len h4]; exact hj, q L2 _ σ s3 (r2.stay s3 m3)⟩
      · exact False.elim q
    · exact False.elim q
  · exact False.elim q
def asgG (da : DenE) (g : DenG) : DenS := fun e M => thenS (da e M) e fun d M1 => g d e M1
theorem ds_asg {tg y : Expr} {da : DenE} {g : DenG} {pos : Pos} (ha : DE F X W y da) (hg : DG F X W tg g) (hs : swapsWithSole [tg] y pos.line X.env = pure false := by rfl) (hw : swappedStores [tg] y X.env = pure none := by rfl) (h1 : (assignEach [tg] X.env).map (·.2) = [assign tg X.env] := by rfl) : DS F X W (.Assign [tg] y pos) (asgG da g) := by
  obtain ⟨ta, p1, q1⟩ := ha
  obtain ⟨t, p2, q2⟩ := hg
  refine ⟨_, ps_asg p1 p2 hs hw h1, fun e M L σ H T sr pp => q1 e M L σ H _ sr (post_then (fun d M1 L1 H1 v s1 r1 rv q => ?_) pp)⟩
  exact q2 d v e M1 L1 σ H1 T r1 rv q
/-- a, b = x, y: two plain names -/
def parS (i j : Nat) (da db : DenE) : DenS := fun e M => thenS (da e M) e fun d M1 => thenS (db e M1) e fun d' M2 => some (.nx ((e.set i (some d)).set j (some d')), M2)
theorem ds_par (i j : Nat) {x y : Str} {a b : Expr} {da db : DenE} {px py pt pos : Pos} {kt k2 pt2} (hc : X.calm = true) (hN : X.N.Nodup) (ha : DE F X W a da) (hb : DE F X W b db) (hi : X.N[i]? = some x := by rfl) (hj : X.N[j]? = some y := by rfl) (hij : i ≠ j := by decide)
    (hx : X.env.scope.names.lookup x = some .local := by rfl) (hy : X.env.scope.names.lookup y = some .local := by rfl) (hw : swappedStores [.Tuple [.Name x px, .Name y py] kt pt] (.Tuple [a, b] k2 pt2) X.env = pure (some [x, y]) := by rfl)
    (hs : swapsWithSole [.Tuple [.Name x px, .Name y py] kt pt] (.Tuple [a, b] k2 pt2) pos.line X.env = pure false := by rfl) (h1 : starEach (a :: [b]) X.env = (false, eval a X.env) :: starEach [b] X.env := by rfl) (h2 : starEach (b :: []) X.env = (false, eval b X.env) :: starEach [] X.env := by rfl) :
    DS F X W (.Assign [.Tuple [.Name x px, .Name y py] kt pt] (.Tuple [a, b] k2 pt2) pos) (parS i j da db) := by
  obtain ⟨ta, p1, q1⟩ := ha
  obtain ⟨tb, p2, q2⟩ := hb
  refine ⟨_, ps_par hc hN hi hj hij hx hy (pa_cons p1 (pa_cons p2 pa_nil h2) h1) hw hs, fun e M L σ H T sr pp => q1 e M L σ H _ sr (post_then (fun d M1 L1 H1 v s1 r1 rv q => ?_) pp)⟩
  refine q2 e M1 L1 σ H1 _ r1 (post_then (fun d2 M2 L2 H2 v2 s2 r2 rv2 q => ?_) q)
  exact ⟨v, v2, rfl, q L2 H2 _ (Stp.refl L2 H2) ((r2.set i (Rep.stay r1.m s2 d v rv)).set j rv2)⟩
def ownS (i : Nat) (dr : DenA) : DenS := fun e M => thenS (dr e M) e fun ds M1 => if ds.length ≤ 100000 then some (.nx (e.set i (some (.loc M1.length))), M1 ++ [.lst ds]) else none
theorem ds_own (i : Nat) {x : Str} {ys : List Expr} {dr : DenA} {p2 pos pos' : Pos} (hN : X.N.Nodup) (hr : DA F X W ys dr) (hi : X.N[i]? = some x := by rfl) (hx : Loc X.env.scope x := by first | exact Or.inl rfl | exact Or.inr rfl) (hs : swapsWith (.List ys p2) (some (.Name x pos')) pos.line X.env = pure false := by rfl)
    (hf : X.fn x = true ∨ X.env.scope.names.lookup x = some .local := by first | exact .inl rfl | exact .inr rfl) : DS F X W (.Assign [.Name x pos'] (.List ys p2) pos) (ownS i dr) := by
  obtain ⟨t, p, q⟩ := hr
  refine ⟨_, ps_set hN hi hx (pe_lst p) hs hf, fun e M L σ H T sr pp => q e M L σ H _ sr (post_then (fun ds M1 L1 H1 vs s1 r1 rv q2 => ?_) pp)⟩
  split at q2
  · rename_i hl
    refine ⟨by rw [← reps_len rv]; exact sz_ok hl, fun p' hp => ?_⟩
    obtain ⟨m3, s3⟩ := SM.own r1.m hp rv
    have r3 := r1.stay s3 m3
    refine q2 _ _ _ s3 (r3.set i ⟨p', rfl, ?_⟩)
    rw [← r1.m.len, List.getElem?_append_right (Nat.le_refl _), Nat.sub_self]
    rfl
  · exact False.elim q2
/-- x.append(y) -/
def appS (dob da : DenE) : DenS := fun e M => thenS (dob e M) e fun o M1 => match o with
  | .loc n => thenS (da e M1) e fun d M2 => (match M2[n]? with
    | some (.lst ds) => if ds.length < 100000 then some (.nx e, M2.set n (.lst (ds ++ [d]))) else none
    | none => none)
  | _ => none
theorem ds_app {o y : Expr} {dob da : DenE} {apos cpos pos : Pos} (ho : DE F X W o dob) (ha : DE F X W y da) (hb : attributeBase o "append" X.env (eval o X.env) = eval o X.env := by rfl)
    (hw : ((backTo cpos (starEach (y :: []) X.env)).all (fun x => !x.1) && (backToKw cpos (keywordEach [] X.env)).all (fun x => x.1.isSome) && decide ((y :: ([] : List Expr)).length + ([] : List Keyword).length + (if ([] : List Keyword).isEmpty then 0 else 1) < 30)) = true := by rfl)
    (hl : (apos.endLine == cpos.line) = true := by rfl) (h2 : starEach (y :: []) X.env = (false, eval y X.env) :: starEach [] X.env := by rfl) (hpl : (backTo cpos (starEach [] X.env)).any (·.1) = false := by rfl) (hs : swapsWith (.Call (.Attribute o "append" apos) [y] [] cpos) none pos.line X.env = pure false := by rfl) (hK : X.K = F.K := by rfl) :
    DS F X W (.Expr (.Call (.Attribute o "append" apos) [y] [] cpos) pos) (appS dob da) := by
  obtain ⟨to, p1, q1⟩ := ho
  obtain ⟨ta, p2, q2⟩ := ha
  refine ⟨_, ps_expr (pe_bm PySem.F.plainAttrs_list PySem.F.slot_list_append PySem.F.type_list_append mt_append p1 (pa_cons p2 pa_nil h2) hb hw hl h2 hpl) hs, fun e M L σ H T sr pp => q1 e M L σ H _ sr (post_then (fun od M1 L1 H1 ov s1 r1 rov q => ?_) pp)⟩
  split at q
  · rename_i n
    obtain ⟨a, rfl, ha'⟩ := rov
    obtain ⟨ws, hw'⟩ := r1.m.kind (List.mem_of_getElem? ha')
    refine ⟨.inl ⟨rfl, ws, .inl (.inl hw')⟩, q2 e M1 L1 σ H1 _ r1 (post_then (fun d M2 L2 H2 v s2 r2 rv q => ?_) q)⟩
    split at q
    · rename_i ds hds
      obtain ⟨o2, h1, h2⟩ := r2.m.get (s2.get ha')
      rw [hds] at h1
      cases h1
      obtain ⟨vs, h3, h4⟩ := h2
      split at q
      · rename_i hz
        obtain ⟨m3, s3⟩ := SM.put r2.m (s2.get ha') (reps_snoc h4 rv)
        refine ⟨a, vs, v, rfl, rfl, h3, ?_, q L2 _ σ s3 (r2.stay s3 m3)⟩
        rw [← reps_len h4]
        exact Nat.lt_of_lt_of_le hz (by decide)
      · exact False.elim q
    · exact False.elim q
  · exact False.elim q
/-- what the text says of an own exception class without __init__ -/
structure ClsF (X : Cx) (C : Addr) (x : Str) : Prop where
  fx : ∃ (B newId initId : String) (bmB : List Value), ExcBaseFacts B newId initId bmB ∧ PySem.W.excIn X.K C bmB newId = true
  gC : X.mg x = some (.ref C)
  kC : PySem.W.keepIn X.K (.ref C) = true
  rs : Raises X (.ref C)
def raiseS (c : String) : DenS := fun e M => some (.ex c [] e, M)
theorem ds_raise {x m : Str} {j : Nat} {p p2 pos pos' : Pos} {C : Addr} (c : String) (d : Dc X W k) (hC : F.cl c = some C) (f : ClsF X C x) (hg : Gl X x := by rfl) (hdb : (x == ("__debug__" : Str)) = false := by decide) : DS F X W (.Raise (some (.Call (.Name x p) [.Constant (.str m) j p2] [] pos)) none pos') (raiseS c) := by
  obtain ⟨B, newId, initId, bmB, hF, hq⟩ := f.fx
  refine ⟨_, ps_raise d.calm d.tk (pmk_own hF hq f.gC f.kC f.rs hg hdb), fun e M L σ H T sr pp => ?_⟩
  exact pp L H σ (.ref C) none (Stp.refl L H) sr ⟨C, hC, rfl, rfl⟩
end
end DL
namespace DL
open PySem L2
/-- an exception's object as it stands, told to the abstract heap -/
def exP (C a : Addr) (dd : Option Addr) : Heap → Prop := fun h => ∃ (oe : Obj) (vs : Array Value), h.get? a = some oe ∧ oe.cls = .ref C ∧ oe.dict = dd ∧ oe.data = .fields vs
section
variable {F : Fx} {X : Cx} {W : WX} {L L1 : List Addr} {H H1 : Hp} {M : Store} {e : DL.Env} {σ : St} {T : Ends} {k : Nat} {p₀ : List (Addr × Obj)} {s : Shared}
/-- an object that nothing told of is told -/
theorem inv_track {a : Addr} {oe : Obj} {vs : Array Value} {φ : Heap → Prop} (I : L2.Inv X p₀ σ H s) (ha : s.heap.get? a = some oe) (hd : oe.data = .fields vs) (na : H a = none) (nL : a ≠ X.env.locals) (n0 : X.s_0.heap.get? a = none) (np : ∀ p ∈ X.pn ++ p₀, p.1 ≠ a) (hφ : φ s.heap)
    (st : ∀ h1 h2 : Heap, φ h1 → (∀ o, h1.get? a = some o → h2.get? a = some o) → φ h2) : L2.Inv X p₀ σ (upd H a (.ext φ)) s := by
  have old : ∀ b o, X.s_0.heap.get? b = some o → b ≠ a := fun b o q z => by
    rw [z, n0] at q
    cases q
  have other : ∀ b (o : HO), H b = some o → upd H a (.ext φ) b = some o := fun b o q => by
    rw [upd_ne (ne_of_none q na)]
    exact q
  refine ⟨I.ok, I.os, I.bare, ⟨I.base.keep, I.base.slot, fun b o q n hx => ?_, I.base.there, fun b xs q => other b _ (I.base.tups b xs q), fun b o u q => other b _ (I.base.frzs b o u q), fun b ps q => ?_⟩, I.loc, I.cell, ?_, fun x c q => ?_, fun p hp => ?_, fun b o q => ?_, I.len⟩
  · rw [upd_ne (old b o q)]
    exact I.base.free b o q n hx
  · obtain ⟨more, z⟩ := I.base.tbls b ps q
    exact ⟨more, other b _ z⟩
  · rw [upd_ne (Ne.symm nL)]
    exact I.free
  · have ne : c ≠ a := fun z => by
      obtain ⟨v, oc, ho, hdc⟩ := I.cell x c q
      rw [z, ha] at ho
      cases ho
      rw [hd] at hdc
      cases hdc
    rw [upd_ne ne]
    exact I.freeC x c q
  · obtain ⟨q1, q2, q3⟩ := I.pin p hp
    refine ⟨q1, ?_, q3⟩
    rw [upd_ne (np p hp)]
    exact q2
  · by_cases hb : b = a
    · subst hb
      rw [upd_same] at q
      cases q
      exact ⟨hφ, ⟨oe, ha⟩, st⟩
    · rw [upd_ne hb] at q
      exact (I.hok b o q).stay (fun c u _ z => z) (fun c z => other c _ z) fun c xs z => other c _ z
theorem flying_keep {B h h' : Heap} {l : List PySem.Env} {a : Addr} {Z : Obj → Prop} (fl : HandSPX.FlyingZ B l a Z h) (kp : ∀ b o, h.get? b = some o → h'.get? b = some o) : HandSPX.FlyingZ B l a Z h' := by
  obtain ⟨k1, k2, k3, oe, vs, T', oT, ts, q1, q2, q3, q4, q5, q6, q7, q8, q9⟩ := fl
  exact ⟨fun b o q => kp b o (k1 b o q), k2, PySem.Heap.FunFrames.of_keeps (fun b o q _ => ⟨o, kp b o q, rfl⟩) k3, oe, vs, T', oT, ts, kp _ _ q1, q2, q3, q4, q5, q6, kp _ _ q7, q8, q9⟩
/-- the classes that a clause names, looked at -/
def Cla (X : Cx) (te : Expr) (ct : Value → Bool) : Prop := ∀ (a : Addr) (pn p₁ : List (Addr × Obj)) (σ : St) (H : Hp) (s : Shared) (cls : Value) (Q : Bool → Shared → Prop) (E : Value → Shared → Prop), L2.Inv (X.suite a pn) p₁ σ H s →
  (∃ oe, s.heap.get? a = some oe ∧ oe.cls = cls) → ct cls = true → (∀ s' : Shared, (∀ b o, s.heap.get? b = some o → s'.heap.get? b = some o) → s'.os = s.os → PyProof.Rows.AllBare s'.gens → Q true s') →
  wpAny (model X.prog X.w) (X.A.mark (some (.ref a))) (eval te X.env) (fun c s₁ => wpAny (model X.prog X.w) (X.A.mark (some (.ref a))) (excMatches (.ref a) c) Q E s₁) E s
theorem ld_cls {a : Addr} {pn p₁ : List (Addr × Obj)} {x : Str} {c : Value} {p : Pos} {Q : Value → Shared → Prop} {E : Value → Shared → Prop} (hc : Names X x c) (I : L2.Inv (X.suite a pn) p₁ σ H s) (q : Q c s) : wpAny (model X.prog X.w) (X.A.mark (some (.ref a))) (eval (.Name x p) X.env) Q E s := by
  obtain ⟨hg, hdb, hm | ⟨hm, hv, hn⟩⟩ := hc
  · exact ld_glob (X := X.suite a pn) I hg hm q hdb
  · exact ld_blt (X := X.suite a pn) I hg hm hv q hn hdb
theorem looks_at {M : Model} {h : Heap} {a : Addr} {oe : Obj} {cls : Value} (ha : h.get? a = some oe) (hc : oe.cls = cls) : PySem.W.Looks M h (typeOf (.ref a)) cls := fun A Q E s k q => wpAny_typeOf_ref (k _ _ ha) (by rw [hc]; exact q)
theorem cla_tup3 {x1 x2 x3 : Str} {C1 C2 C3 : Addr} {p1 p2 p3 p : Pos} {kx : Nat} {ct : Value → Bool} (n1 : Gl X x1 ∧ X.mg x1 = some (.ref C1)) (n2 : Gl X x2 ∧ X.mg x2 = some (.ref C2)) (n3 : Gl X x3 ∧ X.mg x3 = some (.ref C3)) (h : ∀ cls, ct cls = true → PySem.W.exmAny X.K cls [.ref C1, .ref C2, .ref C3] = some true)
    (d1 : (x1 == ("__debug__" : Str)) = false := by decide) (d2 : (x2 == ("__debug__" : Str)) = false := by decide) (d3 : (x3 == ("__debug__" : Str)) = false := by decide)
    (s1 : starEach [.Name x1 p1, .Name x2 p2, .Name x3 p3] X.env = (false, eval (.Name x1 p1) X.env) :: starEach [.Name x2 p2, .Name x3 p3] X.env := by rfl) (s2 : starEach [.Name x2 p2, .Name x3 p3] X.env = (false, eval (.Name x2 p2) X.env) :: starEach [.Name x3 p3] X.env := by rfl)
    (s3 : starEach [.Name x3 p3] X.env = (false, eval (.Name x3 p3) X.env) :: starEach [] X.env := by rfl) : Cla X (.Tuple [.Name x1 p1, .Name x2 p2, .Name x3 p3] kx p) ct := by
  intro a pn p₁ σ H s cls Q E I hcls hct q
  obtain ⟨oe, h1, h2⟩ := hcls
  refine wpAny_Tuple_spliced ?_
  rw [s1]
  show wpAny _ _ (spliced ((false, eval (.Name x1 p1) X.env) :: backTo p (starEach [.Name x2 p2, .Name x3 p3] X.env))) _ _ s
  refine Calls.spliced_cons (ld_cls ⟨n1.1, d1, .inl n1.2⟩ I ?_)
  rw [s2]
  show wpAny _ _ (spliced ((false, eval (.Name x2 p2) X.env) :: backTo p (starEach [.Name x3 p3] X.env))) _ _ s
  refine Calls.spliced_cons (ld_cls ⟨n2.1, d2, .inl n2.2⟩ I ?_)
  rw [s3]
  show wpAny _ _ (spliced ((false, eval (.Name x3 p3) X.env) :: backTo p (starEach [] X.env))) _ _ s
  refine Calls.spliced_cons (ld_cls ⟨n3.1, d3, .inl n3.2⟩ I ?_)
  refine Calls.spliced_nil ⟨by show 3 ≤ sizeLine; decide, ?_⟩
  have kp : ∀ b o, s.heap.get? b = some o → (s.heap.push { cls := .type "tuple", data := .seq [Value.ref C1, .ref C2, .ref C3].toArray }).get? b = some o := fun b o z => Heap.get?_push_of_some _ z
  have LM := PySem.W.exm_tup3 (M := model X.prog X.w) (h := s.heap.push { cls := .type "tuple", data := .seq [Value.ref C1, .ref C2, .ref C3].toArray }) (I.kIn.keeps kp) (looks_at (kp _ _ h1) h2) (Heap.get?_push_size _ rfl) (h cls hct)
  exact LM.here (q { s with heap := s.heap.push { cls := .type "tuple", data := .seq [Value.ref C1, .ref C2, .ref C3].toArray } } kp rfl I.bare)
/-- behind the body's exception: the suite with the error at i, then i is empty -/
def sufS (i : Nat) (su : DenS) (c : String) (fs : List (Str × D)) (e' : DL.Env) (M' : Store) : RS := match su (e'.set i (some (.exc c fs))) M' with
  | some (.nx e2, M2) => some (.nx (e2.set i none), M2)
  | some (.bk e2, M2) => some (.bk (e2.set i none), M2)
  | some (.ct e2, M2) => some (.ct (e2.set i none), M2)
  | some (.rt d, M2) => some (.rt d, M2)
  | _ => none
def tryS (i : Nat) (ct : String → Bool) (db su : DenS) : DenS := fun e M => match db e M with
  | some (.ex c fs e', M') => if ct c = true then sufS i su c fs e' M' else none
  | r => r
theorem ds_try {te : Expr} {n : Str} {b₀ : Stmt} {suite body : List Stmt} {pos pos' : Pos} {db su : DenS} {cv : Value → Bool} (i : Nat) (ct : String → Bool) (d : Dc X W k) (hs : X.stack = X.env :: X.outer) (hf : X.env.frame = some X.env.locals) (hex : X.ex = []) (hN : X.N.Nodup) (hi : X.N[i]? = some n) (hln : X.env.kindOf n = some .local)
    (hc : Cla X te cv) (hcv : ∀ c C, F.cl c = some C → ct c = true → cv (.ref C) = true)
    (hb : ∀ (W' : WX) (pn : List (Addr × Obj)) (xe : Value → Shared → Prop), Dc (X.tr pn xe) W' k → DSs F (X.tr pn xe) W' body db)
    (hsu : ∀ (a : Addr) (pn : List (Addr × Obj)), DSs F (X.suite a pn) (fun _ _ _ _ => False) (b₀ :: suite) su) :
    DS F X W (.Try body [.ExceptHandler (some te) (some n) (b₀ :: suite) pos'] [] [] pos) (tryS i ct db su) := by
  refine ⟨fun T σ H => ∃ (e : DL.Env) (M : Store) (L : List Addr), SR F L H M e σ ∧ PostS F L H W T (tryS i ct db su e M), ⟨fun p₁ s₁ σ₁ H₁ T₁ I₁ h₁ => ?_⟩, fun e M L σ H T sr pp => ⟨e, M, L, sr, pp⟩⟩
  obtain ⟨e, M, L, sr, pp⟩ := h₁
  have okk := I₁.ok
  have hfr : X.A.frames = some (X.env :: X.outer) := by rw [okk.frames, hs]
  have lcn : Loc X.env.scope n := .inl hln
  -- the wish about the body's exceptions
  let W' : WX := fun cls dd σ' H' => ∃ (c : String) (fs : List (Str × D)) (e' : DL.Env) (M' : Store) (L' : List Addr), SR F L' H' M' e' σ' ∧ ExR F L' H' c fs cls dd ∧ ct c = true ∧ PostS F L' H' W T₁ (sufS i su c fs e' M')
  let xe' : Value → Shared → Prop := fun u s1 => wpAny (model X.prog X.w) X.A (noteFrame u X.env) (fun _ s2 => wpAny (model X.prog X.w) X.A (setFlight u none) (fun _ s3 => wpAny (model X.prog X.w) X.A (handleBy u X.env [.ExceptHandler (some te) (some n) (b₀ :: suite) pos']) (SP X p₁ T₁) X.xe s3) X.xe s2) X.xe s1
  have tk' : Takes (X.tr (X.pn ++ p₁) xe') W' := by
    intro u s' xx
    obtain ⟨a, B, sI, pins', σ', H', cls, dd, rfl, J', nb, up, sky, na, os, ag, c, fs, e', M', L', sr', hx', hct, pp'⟩ := xx
    have J : L2.Inv X p₁ σ' H' sI := J'.ofTry okk
    have sky' : Sky B (X.env :: X.outer) a (Zc cls dd) X.env.locals s'.heap := by rw [← hs]; exact sky
    show wpAny _ X.A (noteFrame (.ref a) X.env) _ _ _
    have Bn : B.get? a = none := by
      rcases sky' with ⟨_, z, _⟩ | z | z
      · exact z
      · exact z.2.1
      · exact z.2.1
    refine Sky.land Zc.steady hfr hf sky' fun hh ff uu => ?_
    have JL : L2.Inv X p₁ σ' H' { s' with heap := hh } := J.landed nb ff.1 (up.trans uu) os ag
    obtain ⟨ox, xs9, eo, zo, od9⟩ := ff.there
    have nfr : a ∉ frs (X.env :: X.outer) := fun hm => by
      obtain ⟨_, o', e2, hnf⟩ := ff.2.2.1.mem hm
      rw [eo] at e2
      cases e2
      exact hnf _ od9
    have nl1 : a ≠ X.env.locals := fun z => nfr (List.mem_filterMap.mpr ⟨X.env, List.mem_cons_self, by rw [hf, z]⟩)
    have nf1 : a ∉ X.fs := fun hm => by
      obtain ⟨env', he, q⟩ := List.mem_filterMap.mp hm
      exact nfr (List.mem_filterMap.mpr ⟨env', List.mem_cons_of_mem _ he, q⟩)
    have sIn : sI.heap.get? a = none := by
      cases z : sI.heap.get? a with
      | none => rfl
      | some o =>
        have z2 := nb a o z (by rw [hs]; exact nfr)
        rw [Bn] at z2
        cases z2
    have s0n : X.s_0.heap.get? a = none := by
      cases z : X.s_0.heap.get? a with
      | none => rfl
      | some o =>
        obtain ⟨o', z2⟩ := J.base.there a o z (by rw [hex]; simp)
        rw [sIn] at z2
        cases z2
    have np : ∀ p ∈ X.pn ++ p₁, p.1 ≠ a := fun p hp z => by
      obtain ⟨q1, _⟩ := J.pin p hp
      rw [z, sIn] at q1
      cases q1
    have SU := JL.suite eo od9 na nl1 nf1
    refine wpAny_handleBy_cons (codeAny_handlers_test ?_) fun q => nomatch q
    obtain ⟨C, hC, rfl, hfd⟩ := hx'
    refine hc a _ [] σ' H' _ (.ref C) _ _ SU ⟨ox, eo, zo.1⟩ (hcv c C hC hct) fun s4 k4 o4 b4 => ?_
    apply codeAny_handlers_suite_as
    have fl4 : HandSPX.FlyingZ B (X.env :: X.outer) a (Zc (.ref C) dd) s4.heap := flying_keep ff k4
    refine HandSPX.lands_againZ fl4 fun h5 fl5 up5 => ?_
    have up4 : hh.UpToSlots s4.heap := Heap.UpToSlots.of_keeps k4
    have J5 : L2.Inv X p₁ σ' H' { s4 with heap := h5 } := J.landed nb fl5.1 (((up.trans uu).trans up4).trans up5) (o4.trans os) b4
    obtain ⟨oe5, vs5, he5, hz5, hd5⟩ := fl5.there
    have J6 : L2.Inv X p₁ σ' (upd H' a (.ext (exP C a dd))) { s4 with heap := h5 } := inv_track J5 he5 hd5 na nl1 s0n np ⟨oe5, vs5, he5, hz5.1, hz5.2, hd5⟩ fun h1 h2 ⟨o1, w1, q1, q2, q3, q4⟩ kk => ⟨o1, w1, kk _ q1, q2, q3, q4⟩
    have S6 : L2.Inv (X.suite a (X.pn ++ p₁)) [] σ' (upd H' a (.ext (exP C a dd))) { s4 with heap := h5 } :=
      ⟨J6.ok.suite _ _, J6.os, J6.bare, J6.base, J6.loc, J6.cell, J6.free, J6.freeC, fun p hp => J6.pin p (by rw [List.append_nil] at hp; exact hp), J6.hok, J6.len⟩
    have stp : Stp L' H' L' (upd H' a (.ext (exP C a dd))) := Stp.alloc na
    have sr6 : SR F L' (upd H' a (.ext (exP C a dd))) M' e' σ' := sr'.stay stp (sr'.m.alloc na)
    have rep6 : Rep F L' (upd H' a (.ext (exP C a dd))) (.exc c fs) (.ref a) := by
      refine ⟨a, C, dd, rfl, hC, ⟨_, upd_same, fun h z => z⟩, fresh_out sr'.m na, ?_⟩
      cases dd with
      | none => exact hfd
      | some x =>
        obtain ⟨ws, q1, q2, q3⟩ := hfd
        exact ⟨ws, by rw [upd_ne (ne_of_none q1 na)]; exact q1, q2, RepF.stay sr'.m stp fs ws q3⟩
    have back : ∀ {σ7 : L2.St} {H7 : Hp} {s7 : Shared}, L2.Inv (X.suite a (X.pn ++ p₁)) [] σ7 H7 s7 → L2.Inv X p₁ σ7 H7 s7 := fun {σ7 H7 s7} J7 =>
      ⟨okk, J7.os, J7.bare, J7.base, J7.loc, J7.cell, J7.free, J7.freeC, fun p hp => J7.pin p (by rw [List.append_nil]; exact hp), J7.hok, J7.len⟩
    refine store_ok (X := X.suite a (X.pn ++ p₁)) (v := .ref a) S6 hN hi lcn rfl (fun s7 S7 => ?_) (.inr hln)
    obtain ⟨tu, pu, qu⟩ := hsu a (X.pn ++ p₁)
    let T6 : Ends := { nx := fun σ' H' => T₁.nx (σ'.set i none) H', rt := T₁.rt, bk := fun σ' H' => T₁.bk (σ'.set i none) H', ct := fun σ' H' => T₁.ct (σ'.set i none) H' }
    have ps6 : PostS F L' (upd H' a (.ext (exP C a dd))) (fun _ _ _ _ => False) T6 (su (e'.set i (some (.exc c fs))) M') := by
      have pp6 := PostS.go stp pp'
      unfold sufS at pp6
      revert pp6
      cases su (e'.set i (some (.exc c fs))) M' with
      | none => exact id
      | some y =>
        obtain ⟨fl, M7⟩ := y
        cases fl with
        | nx e7 => exact fun q L7 H7 σ7 s7 r7 => q L7 H7 _ s7 (r7.unset i none)
        | bk e7 => exact fun q L7 H7 σ7 s7 r7 => q L7 H7 _ s7 (r7.unset i none)
        | ct e7 => exact fun q L7 H7 σ7 s7 r7 => q L7 H7 _ s7 (r7.unset i none)
        | rt d7 => exact id
        | ex c7 fs7 e7 => exact fun q => (show False from q).elim
    refine wpAny_mono (pu.run [] s7 _ _ T6 S7 (qu _ M' L' _ _ T6 (sr6.set i rep6) ps6)) (fun f s8 hsp => ?_) (fun _ _ z => (show False from z).elim)
    have fin : ∀ {σ8 : L2.St} {H8 : Hp} {Q : Shared → Prop}, L2.Inv (X.suite a (X.pn ++ p₁)) [] σ8 H8 s8 → (∀ s9, L2.Inv X p₁ (σ8.set i none) H8 s9 → Q s9) →
        wpAny (model X.prog X.w) X.A (do bindName X.env n .none; unbindBehindTheSuite X.env n pos') (fun _ s9 => Q s9) X.xe s8 := fun {σ8 H8 Q} S8 hq => gone_ok (back S8) hN hi hln hq
    cases f with
    | next =>
      obtain ⟨σ8, H8, S8, q8⟩ := hsp
      exact fin S8 fun s9 J9 => ⟨_, _, J9, q8⟩
    | brk =>
      obtain ⟨σ8, H8, S8, q8⟩ := hsp
      exact fin S8 fun s9 J9 => ⟨_, _, J9, q8⟩
    | cont =>
      obtain ⟨σ8, H8, S8, q8⟩ := hsp
      exact fin S8 fun s9 J9 => ⟨_, _, J9, q8⟩
    | ret u =>
      obtain ⟨v8, σ8, H8, S8, r8, q8⟩ := hsp
      exact fin S8 fun s9 J9 => ⟨_, _, _, J9, r8, q8⟩
  have dc' : Dc (X.tr (X.pn ++ p₁) xe') W' k := ⟨tk', d.room, d.calm, d.gd, PassesOwn.looking⟩
  obtain ⟨tb, pb, qb⟩ := hb W' (X.pn ++ p₁) xe' dc'
  refine wpAny_Try_except ?_
  have psb : PostS F L H₁ W' T₁ (db e M) := by
    unfold tryS at pp
    revert pp
    cases db e M with
    | none => exact id
    | some y =>
      obtain ⟨fl, M7⟩ := y
      cases fl with
      | nx e7 => exact id
      | bk e7 => exact id
      | ct e7 => exact id
      | rt d7 => exact id
      | ex c7 fs7 e7 =>
        intro q L7 H7 σ7 cls dd s7 r7 x7
        dsimp only at q
        split at q
        · rename_i hct
          exact ⟨c7, fs7, e7, M7, L7, r7, x7, hct, PostS.go s7 q⟩
        · exact False.elim q
  refine wpAny_mono (pb.run [] s₁ σ₁ H₁ T₁ (I₁.toTry _) (qb e M L σ₁ H₁ T₁ sr psb)) (fun f s2 hsp => ?_) (fun u s2 he => he)
  cases f with
  | next =>
    obtain ⟨σ', H', J', q⟩ := hsp
    exact wpAny_execs_nil ⟨σ', H', J'.ofTry okk, q⟩
  | brk =>
    obtain ⟨σ', H', J', q⟩ := hsp
    exact ⟨σ', H', J'.ofTry okk, q⟩
  | cont =>
    obtain ⟨σ', H', J', q⟩ := hsp
    exact ⟨σ', H', J'.ofTry okk, q⟩
  | ret u =>
    obtain ⟨v, σ', H', J', rv9, q⟩ := hsp
    exact ⟨v, σ', H', J'.ofTry okk, rv9, q⟩
end
end DL
namespace DL
open PySem L2
open PySem.W PySem.Spec PySem.Calls PyProof.Rows in
theorem exc_cls {P₁ : Program} {w₁ : World} {A₁ : Around} {E₁ : Value → Shared → Prop} {st : Shared} {K₁ : Frag} {y Dc₁ : Addr} {oy : Obj} {od : Option Obj} {Q₁ : Option Value → Shared → Prop} (ec : L2.ExcC K₁ Dc₁)
    (KX : K₁.In st.heap) (IA : InstAt st.heap y oy Dc₁ od) (fin : Q₁ (some (.ref Dc₁)) { st with toks := st.toks + 1 }) : wpAny (model P₁ w₁) A₁ (getAttr? (.ref y) "__class__") Q₁ E₁ st := by
  have ff : findObj K₁ Dc₁ od "__class__" = some (.bind (.builtin "getset_descriptor.__get__") (.builtin "object.__class__")) := by
    obtain ⟨cdd, hcd, _⟩ := any_some ec.hd
    unfold findObj
    rw [hcd, Option.bind_some, ec.ha, Option.bind_some]
    simp [ec.hn, ec.ht]
  obtain ⟨hp₁, g₁, d₁, t₁, os₁⟩ := st
  have M0 := IA.type (M := model P₁ w₁)
  have M1 := looks_findIn (M := model P₁ w₁) KX ec.hg
  have M2 := looks_findIn (M := model P₁ w₁) KX ec.hk
  have M3 := looks_find (M := model P₁ w₁) KX IA ff
  have isb : Looks (model P₁ w₁) hp₁ (isInstance (.ref y) (.type "BaseException")) true := M0.andThen (looks_subIn KX ec.hs)
  have nb0 : (false && onTheHeap (Value.builtin "BaseException.__getattribute__")) = false := by rfl
  have nb1 : (onTheHeap (Value.ref Dc₁) && Value.builtin "BaseException.__getattribute__" == Value.builtin "object.__getattribute__") = false := by
    rw [show (Value.builtin "BaseException.__getattribute__" == Value.builtin "object.__getattribute__") = false by decide +kernel]
    rfl
  unfold getAttr? getAttrBy?
  unfold getAttrBy
  refine wpAny_bind (wpAny_mkText (wpAny_bind (wpAny_attempt (wpAny_holding (wpAny_bind (M0.at (wpAny_bind (M1.at ?_))))))))
  show wpAny _ _ (if (onTheHeap (Value.ref Dc₁) && Value.builtin "BaseException.__getattribute__" == Value.builtin "object.__getattribute__") = true then _ else _) _ _ _
  rw [nb1, if_neg Bool.false_ne_true]
  unfold getAttrByItsOwn
  unfold hookBefore
  refine wpAny_bind ?_
  rw [if_pos (by rfl : onTheHeap (Value.ref Dc₁) = true)]
  refine M2.at (wpAny_bind (wpAny_attempt (wpAny_holding ?_)))
  unfold callGetattribute
  rw [nb0, if_neg Bool.false_ne_true]
  unfold boundAndCalled
  rw [PySem.F.excAttr_ValueError.ga.bind (.ref y)]
  refine wpAny_bind ?_
  refine wpAny_pure ?_
  show wpAny _ _ (call (.builtin "BaseException.__getattribute__") [.ref y, .str "__class__" t₁]) _ _ _
  refine wpAny_call ?_
  apply codeAny_call_builtin PySem.F.excAttr_ValueError.ga.plain PySem.F.entry_bexc_ga
  refine @check_slot (model P₁ w₁) _ _ ⟨hp₁, g₁, d₁, t₁ + 1, os₁⟩ "BaseException.__getattribute__" "BaseException" "__getattribute__" (.ref y) [.str "__class__" t₁] [] _ (by decide +kernel) (by decide +kernel) isb (PySem.F.args_bexc_ga (.ref y) (.str "__class__" t₁)) ?_
  delta Builtin.«object.__getattribute__»
  refine wpAny_bind (wpAny_of_eq (a := ((Value.ref y : Value), [Value.str "__class__" t₁])) (by first | rfl | (simp only [slotArgs]; rfl)) ?_)
  refine wpAny_bind (wpAny_pure (wpAny_bind (M0.at (wpAny_bind (M3.at ?_)))))
  show wpAny _ _ (holding [Value.builtin "object.__class__"] (call (.builtin "getset_descriptor.__get__") [.builtin "object.__class__", .ref y, .ref Dc₁]) >>= ret) _ _ _
  refine wpAny_bind (wpAny_holding (wpAny_call (class_get (s := ⟨hp₁, g₁, d₁, t₁ + 1, os₁⟩) (ox := oy) (od := od) KX IA ec.hm ?_)))
  refine wpAny_pure ?_
  show wpAny _ _ (handedOut (.ref Dc₁)) _ _ _
  rw [handedOut_of (v := .ref Dc₁) rfl]
  first
    | exact wpAny_pure (wpAny_pure fin)
    | exact wpAny_pure fin
    | exact wpAny_pure (wpAny_bind (wpAny_pure (wpAny_pure fin)))
open PySem.W PySem.Spec PySem.Calls PyProof.Rows in
theorem exc_kit {K₁ : Frag} {y Dc₁ : Addr} {oy : Obj} {od : Option Obj} (ec : L2.ExcC K₁ Dc₁) : KitX K₁ (.ref y) (.ref Dc₁) (fun h => InstAt h y oy Dc₁ od) where
  ty := fun _ _ _ IA => IA.type
  it := fun _ _ KX _ => by
    obtain ⟨cdd, hcd, _⟩ := any_some ec.hd
    unfold clsIn at hcd
    split at hcd
    · rename_i hob
      intro A₂ Q₂ E₂ s₂ kk qq
      unfold isType loadHead
      exact wpAny_bind (wpAny_loadPart (kk _ _ (KX _ _ hob)) (wpAny_pure qq))
    · cases hcd
  ne := fun h tp dd its n sl KX htp => by
    obtain ⟨cdd, hcd, _⟩ := any_some ec.hd
    refine Bool.eq_false_iff.mpr fun qq => ?_
    have ee : Dc₁ = tp := Value.ref.inj (beq_iff_eq.mp qq)
    subst ee
    unfold clsIn at hcd
    split at hcd
    · rename_i hob
      have zz := (KX _ _ hob).symm.trans htp
      cases zz
    · cases hcd
  ca := fun KX IA k => exc_cls ec KX IA k
section
variable {F : Fx} {X : Cx} {W : WX} {L L1 : List Addr} {H H1 : Hp} {M : Store} {e : DL.Env} {σ : L2.St} {T : Ends} {k : Nat} {p₀ : List (Addr × Obj)} {s : Shared}
/-- an own class by its name -/
theorem de_own {x : Str} {pos : Pos} {C : Addr} (c : String) (hC : F.cl c = some C) (hm : X.mg x = some (.ref C)) (hg : Gl X x := by rfl) (hd : (x == ("__debug__" : Str)) = false := by decide) : DE F X W (.Name x pos) (cD (.cls c)) :=
  ⟨_, pe_glob (v := .ref C) hg hm rfl hd, fun e M L σ H Q sr p => p.ok sr ⟨C, rfl, hC⟩⟩
/-- a class as a value: what stands for it -/
def clsU (F : Fx) : D → Option Value
  | .ty S => some (.type S)
  | .cls c => (F.cl c).map .ref
  | _ => none
/-- isinstance, of an error that was kept or of data -/
def isiA (sub : String → D → Option Bool) : List D → Store → RE
  | [.exc c _, t], M => match sub c t with
    | some b => ok (.bl b) M
    | none => none
  | [d, t], M => isiF [d, t] M
  | _, _ => none
def rIsiX (K : PySem.W.Frag) : List V → Hp → VK → Prop := fun vs H Q => ∃ (a C : Addr) (c : V) (u : Value) (b : Bool), vs = [.ref a, c] ∧ ClsV c u ∧ (∃ dd, ExAt H C a dd ∧ ∀ x, dd = some x → ∃ ws, H x = some (.xd ws)) ∧ L2.ExcC K C ∧ PySem.W.kitOne K (.ref C) u = some b ∧ Q (.bl b) H
theorem callr_isiX : CallR X (.builtin "isinstance") (rIsiX X.K) := by
  intro p₀ s₀ σ₀ H₀ vs us Q₀ I₀ r h
  obtain ⟨a, C, c, u, b, rfl, hc, hx, ec, hk, q⟩ := h
  obtain ⟨u1, u2, eu2, r1, r2⟩ := vals2 r
  subst eu2
  cases r1
  have e2 := hc.eq r2
  subst e2
  obtain ⟨dd, ⟨φ, h1, h2⟩, hdd⟩ := hx
  obtain ⟨hφ, _, _⟩ := (show ObjOk X.prog X.w H₀ s₀.heap a (.ext φ) from I₀.hok a _ h1)
  obtain ⟨oe, ws, g1, g2, g3, g4⟩ := h2 _ hφ
  have J : ∃ od, PySem.W.InstAt s₀.heap a oe C od := by
    obtain ⟨ocl, od, oda, osl⟩ := oe
    dsimp only at g2 g3 g4
    subst g2 g3 g4
    cases od with
    | none => exact ⟨none, g1, rfl, rfl, trivial⟩
    | some x =>
      obtain ⟨ws, hx⟩ := hdd x rfl
      obtain ⟨mA, ⟨ob, _, _, hob, hrest⟩, _⟩ := (show ObjOk X.prog X.w H₀ s₀.heap x (.xd ws) from I₀.hok x _ hx)
      exact ⟨some ob, g1, rfl, rfl, hob⟩
  obtain ⟨od, J⟩ := J
  exact PySem.W.kia_one (exc_kit ec) I₀.kIn J hk (fun z => nomatch z) fun tk => ⟨.bl b, H₀, I₀.kept (t' := tk) fun _ _ z => z, rfl, q⟩
theorem orC {g : Value} {r r' : List V → Hp → VK → Prop} (h : CallR X g r) (h' : CallR X g r') : CallR X g (fun vs H Q => r vs H Q ∨ r' vs H Q) := by
  intro p₀ s₀ σ₀ H₀ vs us Q₀ I₀ rv q
  rcases q with q | q
  · exact h p₀ s₀ σ₀ H₀ vs us Q₀ I₀ rv q
  · exact h' p₀ s₀ σ₀ H₀ vs us Q₀ I₀ rv q
theorem callr_isi : CallR X (.builtin "isinstance") (fun vs H Q => rIsiX X.K vs H Q ∨ rIsi X.K vs H Q) := orC callr_isiX call_isi
theorem isiA_ok {sub : String → D → Option Bool} (hs : ∀ c t b C u, F.cl c = some C → clsU F t = some u → sub c t = some b → L2.ExcC F.K C ∧ PySem.W.kitOne F.K (.ref C) u = some b) (hu : ∀ c t b, sub c t = some b → ∃ u, clsU F t = some u) :
    CallOk F (fun vs H Q => rIsiX F.K vs H Q ∨ rIsi F.K vs H Q) (isiA sub) := fun ds M L H e σ W vs Q sr rv p => by
  unfold isiA at p
  split at p
  · rename_i c _ t
    obtain ⟨v, v', rfl, h1, h2⟩ := reps2 rv
    obtain ⟨a, C, dd, rfl, hC, hx, _, hdd⟩ := h1
    have hd0 : ∀ x, dd = some x → ∃ ws, H x = some (.xd ws) := fun x z => by
      subst z
      obtain ⟨ws, q1, _⟩ := hdd
      exact ⟨ws, q1⟩
    split at p
    · rename_i b hb
      obtain ⟨u, hu'⟩ := hu c t b hb
      obtain ⟨ec, hk⟩ := hs c t b C u hC hu' hb
      have hcv : ClsV v' u := by
        cases t with
        | ty S =>
          have z : v' = .ty S := h2
          cases Option.some.inj hu'
          rw [z]
          exact .ty S
        | cls c2 =>
          obtain ⟨C2, rfl, hC2⟩ := h2
          have z : (F.cl c2).map Value.ref = some u := hu'
          rw [hC2] at z
          cases Option.some.inj z
          exact .own C2
        | _ => cases hu'
      exact .inl ⟨a, C, v', u, b, rfl, hcv, ⟨dd, hx, hd0⟩, ec, hk, p.ok sr rfl⟩
    · exact False.elim p
  · exact .inr (isi_ok _ M L H e σ W vs Q sr rv p)
  · exact False.elim p
end
end DL
namespace DL
open PySem L2
/-- the values that a lambda may read: their slots, themselves -/
def capI : Nat → DL.Env → List Nat
  | _, [] => []
  | n, some _ :: e => n :: capI (n + 1) e
  | n, none :: e => capI (n + 1) e
def capD : DL.Env → List D
  | [] => []
  | some d :: e => d :: capD e
  | none :: e => capD e
section
variable {F : Fx} {L : List Addr} {H : Hp} {σ : L2.St}
theorem cap_of : ∀ (e : DL.Env) (n : Nat), (∀ (i : Nat) (d : D), e[i]? = some (some d) → ∃ v, σ[n + i]? = some (some v) ∧ Rep F L H d v) →
    ∃ vs, (∀ (j i : Nat), (capI n e)[j]? = some i → ∃ w, vs[j]? = some w ∧ σ[i]? = some (some w)) ∧ Reps F L H (capD e) vs
  | [], n, _ => ⟨[], fun j i h => by simp [capI] at h, rfl⟩
  | some d :: e, n, h => by
    obtain ⟨v, h1, h2⟩ := h 0 d rfl
    obtain ⟨vs, h3, h4⟩ := cap_of e (n + 1) fun i d' q => by
      obtain ⟨v', q1, q2⟩ := h (i + 1) d' (by simpa using q)
      exact ⟨v', by rw [show n + 1 + i = n + (i + 1) by omega]; exact q1, q2⟩
    refine ⟨v :: vs, fun j i q => ?_, v, vs, rfl, h2, h4⟩
    cases j with
    | zero =>
      have q' : n = i := by simpa [capI] using q
      rw [← q']
      exact ⟨v, rfl, h1⟩
    | succ j => exact h3 j i (by simpa [capI] using q)
  | none :: e, n, h => by
    obtain ⟨vs, h3, h4⟩ := cap_of e (n + 1) fun i d' q => by
      obtain ⟨v', q1, q2⟩ := h (i + 1) d' (by simpa using q)
      exact ⟨v', by rw [show n + 1 + i = n + (i + 1) by omega]; exact q1, q2⟩
    exact ⟨vs, h3, h4⟩
theorem cap_to : ∀ (e : DL.Env) (n : Nat) (vs : List V), (∀ (j i : Nat), (capI n e)[j]? = some i → ∃ w, vs[j]? = some w ∧ σ[i]? = some (some w)) → Reps F L H (capD e) vs →
    ∀ (i : Nat) (d : D), e[i]? = some (some d) → ∃ v, σ[n + i]? = some (some v) ∧ Rep F L H d v
  | [], _, _, _, _, i, d, h => by simp at h
  | some d' :: e, n, vs, h1, h2, i, d, h => by
    obtain ⟨v, r, rfl, h3, h4⟩ := h2
    cases i with
    | zero =>
      have q : d' = d := by simpa using h
      subst q
      obtain ⟨w, q1, q2⟩ := h1 0 n rfl
      have q3 : v = w := by simpa using q1
      subst q3
      exact ⟨v, q2, h3⟩
    | succ i =>
      obtain ⟨w, q1, q2⟩ := cap_to e (n + 1) r (fun j i' q => h1 (j + 1) i' (by simpa [capI] using q)) h4 i d (by simpa using h)
      exact ⟨w, by rw [show n + (i + 1) = n + 1 + i by omega]; exact q1, q2⟩
  | none :: e, n, vs, h1, h2, i, d, h => by
    cases i with
    | zero => simp at h
    | succ i =>
      obtain ⟨w, q1, q2⟩ := cap_to e (n + 1) vs h1 h2 i d (by simpa using h)
      exact ⟨w, by rw [show n + (i + 1) = n + 1 + i by omega]; exact q1, q2⟩
end
/-- what raises nothing -/
def valOnly : RE → RE
  | some (.val d, M) => some (.val d, M)
  | _ => none
open Classical in
/-- the call of what stands in slot i, where that is cl -/
noncomputable def callC (i : Nat) (cl : D) (cden : Store → RE) : DenE := fun e M => match e[i]? with
  | some (some d) => if d = cl then cden M else none
  | _ => none
section
variable {F : Fx} {X : Cx} {W : WX} {L L1 : List Addr} {H H1 : Hp} {M : Store} {e : DL.Env} {σ : L2.St} {k : Nat}
theorem stp_extn (m : SM F L H M) (eN : LamX.ExtN H H1) (T1 : LamX.Tabs F.T H1) : Stp L H L H1 ∧ SM F L H1 M := by
  have s : Stp L H L H1 := ⟨fun a o h _ n => eN a o h n, ⟨[], (List.append_nil L).symm, fun x hx => absurd hx (by simp)⟩, fun a o h n => ⟨o, eN a o h n, n⟩⟩
  refine ⟨s, m.len, m.nd, fun n a ob h1 h2 => ?_, T1⟩
  have r := m.obs n a ob h1 h2
  cases ob with
  | lst ds =>
    obtain ⟨vs, h3, h4⟩ := r
    exact ⟨vs, eN a _ h3 (fun ps z => nomatch z), Reps.stay m s ds vs h4⟩
abbrev ZCx (X : Cx) (Ng : List Str) (x : Str) (sg : Scope) (g : Addr) (cdg : Value) (s : Shared) (H : Hp) : Cx := cxOf (L2.CX X.prog X.w) X.prog X.w X.K X.mg X.base Ng x sg g cdg X.A X.stack s H E0
theorem qual_cx {cx : CXT} {P : Program} {w : World} {K : PySem.W.Frag} {mg : Str → Option Value} {base : Heap} {N : List Str} {q : Str} {sg : Scope} {g : Addr} {cd : Value} {A : Around} {outer : List PySem.Env} {s : Shared} {H : Hp} {E : XK} : (cxOf cx P w K mg base N q sg g cd A outer s H E).env.qual = q ++ ".<locals>." := rfl
theorem de_lam {x a : Str} {g c P : Addr} {fd : FuncData} {st : Stmt} {Ng : List Str} {n : Nat} {params : Arguments} {body : Expr} {scope : Scope} {p lpos pos : Pos} {db : DenE} {gS : D → (Store → RE) → DenS} {gden : (Store → RE) → Store → RE}
    (d : Dc X W (k + 3)) (hm : X.mg x = some (.ref g)) (Fg : Fun X.K x x st g fd) (hb : Binds X.K fd [a] []) (Sg : FnScope Ng [a] (defScope st)) (hn : Ng.length = n)
    (TB : LamX.TabB X.base X.mg c P) (hcode : X.env.code = .ref c) {qual : Str} (hq : X.env.qual = qual) (hmT : (P, qual ++ "<lambda>") ∈ F.T) (hu : ∀ y ∈ F.T, y.1 = P → y.2 = qual ++ "<lambda>") (Ls : LamX.LamS X.env.scope scope)
    (hbody : ∀ (A : Around) (outer : List PySem.Env) (s : Shared) (H : Hp) (E : XK) (f c' : Addr), Dc (LamX.lamCx X A outer s H E scope f c') (fun cls d _ H => E cls d H) k → DE F (LamX.lamCx X A outer s H E scope f c') (fun cls d _ H => E cls d H) body db)
    (hG : ∀ (cdg : Value) (s : Shared) (H : Hp) (cl : D) (cden : Store → RE), Dc (ZCx X Ng x (defScope st) g cdg s H) (fun cls d _ H => E0 cls d H) (k + 2) →
      (∀ (W' : WX) (pn : List (Addr × Obj)) (xe : Value → Shared → Prop) (p1 p2 : Pos), Dc ((ZCx X Ng x (defScope st) g cdg s H).tr pn xe) W' (k + 2) → DE F ((ZCx X Ng x (defScope st) g cdg s H).tr pn xe) W' (.Call (.Name a p1) [] [] p2) (callC 0 cl cden)) →
      DSs F (ZCx X Ng x (defScope st) g cdg s H) (fun cls d _ H => E0 cls d H) (defBody st) (gS cl cden))
    (hden : ∀ (cl : D) (cden : Store → RE) (M : Store), gden cden M = none ∨ ofBody n (gS cl cden) [cl] M = gden cden M)
    (hbind : ∀ (qn : Str) (cells : List (Str × Addr)) (pmv cv ctv : Value), bindArgs (PySem.W.kla_fn "<lambda>" qn params body scope cells pmv cv ctv) ⟨[], []⟩ = pure [])
    (hK : X.K = F.K := by rfl) (hg : Gl X x := by rfl) (hNg : Ng[0]? = some a := by rfl) (hva : Vis (defScope st) a := by first | exact Or.inl rfl | exact Or.inr (Or.inl rfl)) (hdef : defaultsOf params X.env = ([], []) := by rfl)
    (hdb : (x == ("__debug__" : Str)) = false := by decide) (hd1 : (a == ("__debug__" : Str)) = false := by decide) (hd2 : (a == ("__classdict__" : Str)) = false := by decide) :
    DE F X W (.Call (.Name x p) [.Lambda params body scope lpos] [] pos) (fun e M => valOnly (gden (fun M' => db e M') M)) := by
  subst hq
  refine ⟨fun σ H Q => ∃ (e : DL.Env) (M : Store) (L : List Addr), SR F L H M e σ ∧ Post F e L H σ W Q (valOnly (gden (fun M' => db e M') M)), ⟨fun p₀ s₀ σ H Q I₀ h₀ => ?_⟩, fun e M L σ H Q sr pp => ⟨e, M, L, sr, pp⟩⟩
  obtain ⟨e, M, L, sr, pp⟩ := h₀
  refine wpAny_Call_Name_kw (ld_glob I₀ hg hm ?_ hdb)
  refine PySem.W.callWith_K (h₀ := X.base) I₀.ok.mod.kin Fg.kp ?_ (by rfl) (by rfl)
  show wpAny _ _ (spliced ((false, eval (.Lambda params body scope lpos) X.env) :: backTo pos (starEach [] X.env))) _ _ s₀
  refine Calls.spliced_cons (LamX.lam_make2 I₀ TB hcode hmT hu sr.m.tbs hdef (Ls.has I₀.ok) fun f c' pm ctv H1 s1 I1 eN T1 hf hfn hfr hco => ?_)
  refine Calls.spliced_nil (And.intro I1.kIn ?_)
  obtain ⟨stp1, m1⟩ := stp_extn sr.m eN T1
  have sr1 : SR F L H1 M e σ := sr.stay stp1 m1
  obtain ⟨oc, od, kV, doc, pmg, an, cdv, ct, osl, hfd, lk, hcd⟩ := Fg.ex
  subst hfd
  obtain ⟨cvs, hc1, hc2⟩ := cap_of (F := F) (L := L) (H := H1) (σ := σ) e 0 fun i dd q => by
    rw [Nat.zero_add]
    exact sr1.e i dd q
  have rcl : Rep F L H1 (.clo f c' (X.env.qual ++ "<lambda>") σ (capI 0 e) (capD e)) (.ref f) := ⟨⟨rfl, hco⟩, cvs, hc1, hc2⟩
  generalize hcl : D.clo f c' (X.env.qual ++ "<lambda>") σ (capI 0 e) (capD e) = cl at rcl
  have rc : codeAny (model X.prog X.w) X.A (.call (.ref g) ⟨[.ref f], []⟩) (CR (L2.CX X.prog X.w) X.stack X.prog X.w H1 s1 Q E0) s1 := by
    refine LamX.run_ofS (N := Ng) (ps := [a]) (us := [.ref f]) (vs := [.ref f]) lk hcd Sg d.room I1.env0 (hb s1 [.ref f] I1.kIn rfl) (.cons rfl .nil) rfl fun hr' => ?_
    have dcZ : Dc (ZCx X Ng x (defScope st) g cdv s1 H1) (fun cls d _ H => E0 cls d H) (k + 2) := ⟨takes_of rfl rfl rfl rfl, hr', rfl, d.gd, passes_of rfl⟩
    obtain ⟨tz, pz, qz⟩ := hG cdv s1 H1 cl (fun M' => db e M') dcZ fun W' pn xe p1 p2 dct => by
      refine ⟨fun σZ HZ QZ => ∃ (eZ : DL.Env) (MZ : Store) (LZ : List Addr), SR F LZ HZ MZ eZ σZ ∧ Post F eZ LZ HZ σZ W' QZ (callC 0 cl (fun M' => db e M') eZ MZ), ⟨fun pZ sZ σZ HZ QZ IZ hZ => ?_⟩, fun eZ MZ LZ σZ HZ QZ sr pp => ⟨eZ, MZ, LZ, sr, pp⟩⟩
      obtain ⟨eZ, MZ, LZ, srZ, ppZ⟩ := hZ
      unfold callC at ppZ
      split at ppZ
      · rename_i dz hdz
        split at ppZ
        · rename_i hz
          subst hz
          obtain ⟨vz, hv1, hv2⟩ := srZ.e 0 dz hdz
          subst hcl
          obtain ⟨⟨rfl, hco2⟩, ws, hw1, hw2⟩ := hv2
          have srD : SR F LZ HZ MZ e σ := ⟨sr.l, srZ.m, fun i dd q => by
            obtain ⟨v, q1, q2⟩ := cap_to (F := F) (L := LZ) (H := HZ) (σ := σ) e 0 ws hw1 hw2 i dd q
            rw [Nat.zero_add] at q1
            exact ⟨v, q1, q2⟩⟩
          refine wpAny_Call_Name_kw (thn ((pe_var (X := (ZCx X Ng x (defScope st) g cdv s1 H1).tr pn xe) (pos := p1) (i := 0) hNg hva hd1 hd2).run pZ sZ σZ HZ (fun v H2 => v = .ref f ∧ H2 = HZ) IZ ⟨.ref f, hv1, rfl, rfl⟩) fun u s2 y => ?_)
          obtain ⟨v, H2, I2, r2, ev, eH⟩ := y
          subst ev
          rw [eH] at I2
          obtain rfl : u = Value.ref f := r2
          have fob := I2.base.keep f _ hf hfn hfr (fun z => nomatch (show f ∈ ([] : List Addr) from z))
          refine PySem.W.callWith_F0 ⟨_, _, _, _, fob⟩ ?_
          have unZ : Un (frs X.stack) [] H1 HZ s1.heap s2.heap := I2.base
          obtain ⟨⟨oc2, vs2, tk2, hoc, hdc, hvc⟩, _, _⟩ := I2.hok c' _ hco2
          have rcl2 : codeAny (model X.prog X.w) (X.A.deeper (PyProof.Rows.envOfC x (defScope st) s1.heap.objs.size g cdv)) (.call (.ref f) ⟨[], []⟩) (CR (L2.CX X.prog X.w) (PyProof.Rows.envOfC x (defScope st) s1.heap.objs.size g cdv :: X.stack) X.prog X.w HZ s2 QZ (WE W' σZ)) s2 := by
            refine PySem.W.kla_callFunE hr'.depth fob rfl Ls.co Ls.gen rfl ⟨c', oc2, vs2, tk2, rfl, hoc, hdc, hvc⟩ ?_
            rw [hbind]
            refine wpAny_pure (wpAny_newFunctionEnv (fun y hy => (Ls.own y hy).2) (fun y hy => absurd hy (by simp)) (fun h₁ hns hsb => ⟨I2.nolimit.fresh _ hsb, ?_⟩) Ls.kind)
            show codeAny _ _ (.expr body (LamX.lamEnv X scope s2.heap.objs.size f c')) _ _
            have kp2 : ∀ b o, s2.heap.get? b = some o → h₁.get? b = some o := fun b o z => hsb.extBut b o (Nat.ne_of_lt (Heap.lt_size z)) (Heap.get?_push_of_some _ z)
            have J : L2.Inv (LamX.lamCx X (X.A.deeper (PyProof.Rows.envOfC x (defScope st) s1.heap.objs.size g cdv)) (PyProof.Rows.envOfC x (defScope st) s1.heap.objs.size g cdv :: X.stack) s2 HZ (WE W' σZ) scope f c') [] σ HZ { s2 with heap := h₁, toks := s2.toks + ([] : List (Str × Value)).length } :=
              LamX.lam_start2 I1 Ls I2.env0 hr'.hd unZ hns kp2
            obtain ⟨tb, pb, qb⟩ := hbody _ _ s2 HZ (WE W' σZ) f c' ⟨takes_of rfl rfl rfl rfl, ((hr'.mono (by omega : k + 1 ≤ k + 2)).deeper _), rfl, d.gd, passes_of rfl⟩
            have key : ∀ r : RE, Post F eZ LZ HZ σZ W' QZ r → Post F e LZ HZ σ (fun cls d _ H => WE W' σZ cls d H) QZ r := fun r => by
              cases r with
              | none => exact id
              | some y =>
                obtain ⟨oo, M5⟩ := y
                cases oo with
                | val d5 => exact fun q L5 H5 v5 s5 r5 rv5 => q L5 H5 v5 s5 (srZ.stay s5 r5.m) rv5
                | exc c5 fs5 => exact fun q L5 H5 cls5 dd5 s5 r5 x5 => q L5 H5 cls5 dd5 s5 (srZ.stay s5 r5.m) x5
            have ppD := key _ ppZ
            refine PySem.W.kla_codeExpr (wpAny_mono (pb.run [] _ _ HZ QZ J (qb e MZ LZ σ HZ QZ srD ppD)) (fun v s3 hq => ?_) fun y s3 hq => hq)
            obtain ⟨v3, H3, J3, rv3, q3⟩ := hq
            exact ⟨v3, H3, J3.os, J3.bare, J3.base, J3.hok, rv3, q3⟩
          refine wpAny_call (codeAny_mono rcl2 fun res s3 hq => ?_)
          cases res with
          | error y => exact passAt dct.tk σZ pZ HZ s2 y s3 I2 hq
          | ok fl =>
            cases fl with
            | ret u => exact I2.after hq
            | next => exact (show False from hq).elim
            | brk => exact (show False from hq).elim
            | cont => exact (show False from hq).elim
        · exact False.elim ppZ
      · exact False.elim ppZ
    have rl : Reps F L H1 [cl] [.ref f] := ⟨.ref f, [], rfl, rcl, rfl⟩
    obtain ⟨se1, se2⟩ := start_env n rl Ng hn
    refine ⟨tz, pz, qz _ M L _ H1 _ ⟨se2, m1, se1⟩ ?_⟩
    have pp1 := PostG.go stp1 pp
    rcases hden cl (fun M' => db e M') M with zn | zn
    · rw [zn] at pp1
      exact (show False from pp1).elim
    rw [← zn] at pp1
    unfold ofBody at pp1
    revert pp1
    cases gS cl (fun M' => db e M') (List.map some [cl] ++ List.replicate (n - [cl].length) none) M with
    | none => exact id
    | some y =>
      obtain ⟨fl, M'⟩ := y
      cases fl with
      | nx e' => exact fun q L' H' σ' s' r' => q L' H' .non s' (sr1.stay s' r'.m) rfl
      | rt d' => exact fun q L' H' v s' r' rv => q L' H' v s' (sr1.stay s' r') rv
      | ex c5 fs5 e' => exact fun q => (show False from q).elim
      | bk e' => exact False.elim
      | ct e' => exact False.elim
  refine wpAny_call (codeAny_mono rc fun res s2 hq => ?_)
  cases res with
  | error y => exact passL p₀ σ H1 s1 y s2 I1 hq
  | ok fl =>
    cases fl with
    | ret u => exact I1.after hq
    | next => exact (show False from hq).elim
    | brk => exact (show False from hq).elim
    | cont => exact (show False from hq).elim
end
end DL
namespace DL
open PySem L2
/-- what stands at the law's call: the script at a, empty tables of code -/
structure Ent (K : PySem.W.Frag) (mg : Str → Option Value) (s : Shared) (cs : List (Addr × Addr)) (a : Addr) (us : List Value) (ns : List Int) : Prop where
  kin : K.In s.heap
  glob : s.heap.Ns mainGlobals mg
  blt : ∃ mb, s.heap.Ns builtinsNs mb ∧ ∀ x : Str, x ≠ "__name__" → mb x = bootBuiltins x
  lim : s.heap.NoLimit
  gens : s.gens = #[]
  tab : ∀ p ∈ cs, s.heap.get? p.2 = some { cls := .none, data := .fields #[] }
  tabK : ∀ p ∈ cs, K.lookup p.2 = none
  code : ∀ p ∈ cs, PySem.W.CodeHd s.heap p.1 p.2
  bm : ∃ (m : Addr) (o : Obj), mg "__builtins__" = some (.ref m) ∧ m ≠ builtinsNs ∧ s.heap.get? m = some o ∧ o.cls = .type "module" ∧ o.dict = some builtinsNs ∧ o.data = .plain
  scr : s.heap.get? a = some { cls := .type "list", data := .seq us.toArray }
  isc : PyProof.Rows.IntsAre us ns
  len : ns.length ≤ sizeLine
section
variable {P : Program} {w : World} {F : Fx} {mg : Str → Option Value} {s : Shared} {cs : List (Addr × Addr)} {a : Addr} {us : List Value} {ns : List Int}
theorem Ent.tabAt (e : Ent F.K mg s cs a us ns) {b : Addr} (hb : b ∈ cs.map (·.2)) : s.heap.get? b = some { cls := .none, data := .fields #[] } := by
  obtain ⟨y, h1, h2⟩ := List.mem_map.mp hb
  rw [← h2]
  exact e.tab y h1
theorem Ent.out (e : Ent F.K mg s cs a us ns) : a ∉ cs.map (·.2) := fun hb => by
  have z := e.tabAt hb
  rw [e.scr] at z
  have z2 := congrArg Obj.data (Option.some.inj z)
  cases z2
/-- the abstract heap at the call -/
def entH (cs : List (Addr × Addr)) (u : Option (Addr × HO)) : Hp := fun b => match u with
  | some (a, o) => if b = a then some o else if b ∈ cs.map (·.2) then some (.tbl #[]) else none
  | none => if b ∈ cs.map (·.2) then some (.tbl #[]) else none
/-- what an abstract heap at the call is -/
structure EntH (e : Ent F.K mg s cs a us ns) (H : Hp) : Prop where
  tb : ∀ b ∈ cs.map (·.2), H b = some (.tbl #[])
  known : ∀ b o, H b = some o → (b ∈ cs.map (·.2) ∧ o = .tbl #[]) ∨ (b = a ∧ F.K.lookup a = none ∧ o = .frz { cls := .type "list", data := .seq us.toArray } (.lst (ns.map V.int)))
  rep : ∀ L, Rep F L H (.scr ns) (.ref a)
theorem ent_ok (e : Ent F.K mg s cs a us ns) {H : Hp} (h : EntH e H) : HOk P w H s.heap := fun b o q => by
  rcases h.known b o q with ⟨h1, rfl⟩ | ⟨rfl, _, rfl⟩
  · exact e.tabAt h1
  · refine ⟨e.scr, ?_, us, _, vals_ints e.isc, e.scr⟩
    rw [List.length_map]
    exact e.len
theorem ent_plain (e : Ent F.K mg s cs a us ns) {H : Hp} (h : EntH e H) {b : Addr} {ob : Obj} (hb : s.heap.get? b = some ob) (n1 : ∀ z n, ob.data ≠ .seq z n) (n2 : ob.data ≠ .fields #[]) : H b = none := by
  cases q : H b with
  | none => rfl
  | some o =>
    exfalso
    rcases h.known b o q with ⟨h1, _⟩ | ⟨rfl, _⟩
    · rw [e.tabAt h1] at hb
      cases hb
      exact n2 rfl
    · rw [e.scr] at hb
      cases hb
      exact n1 _ _ rfl
theorem ent_ns (e : Ent F.K mg s cs a us ns) {H : Hp} (h : EntH e H) {b : Addr} {m : Str → Option Value} (hb : s.heap.Ns b m) : (hidT s.heap H).Ns b m := by
  obtain ⟨ob, es, ep, h1, h2, h3⟩ := hb
  refine ⟨ob, es, ep, hidT_get h1 (ent_plain e h h1 (fun z n q => ?_) fun q => ?_), h2, h3⟩
  · rw [h2] at q
    cases q
  · rw [h2] at q
    cases q
theorem ent_k (e : Ent F.K mg s cs a us ns) {H : Hp} (h : EntH e H) : F.K.In (hidT s.heap H) := fun b ob q => by
  refine hidT_get (e.kin b ob q) ?_
  cases z : H b with
  | none => rfl
  | some o =>
    exfalso
    rcases h.known b o z with ⟨h1, _⟩ | ⟨rfl, h1, _⟩
    · obtain ⟨y, y1, y2⟩ := List.mem_map.mp h1
      rw [← y2, e.tabK y y1] at q
      cases q
    · rw [h1] at q
      cases q
theorem ent_tb (e : Ent F.K mg s cs a us ns) {H : Hp} (h : EntH e H) : ∀ p ∈ cs, LamX.TabB (hidT s.heap H) mg p.1 p.2 := fun p hp => by
  have htp := e.tab p hp
  obtain ⟨og, esg, epg, hg1, hg2, _⟩ := id e.glob
  refine ⟨?_, ?_, fun z => ?_⟩
  · obtain ⟨o, vs, file, tf, flags, tg, inF, text, tt, c1, c2, c3, c4⟩ := e.code p hp
    refine ⟨o, vs, file, tf, flags, tg, inF, text, tt, hidT_get c1 (ent_plain e h c1 (fun z n q => ?_) fun q => ?_), c2, c3, c4⟩
    · rw [c3] at q
      cases q
    · rw [c3] at q
      cases q
      have z := c4.1
      simp at z
  · obtain ⟨m, o, b1, b2, b3, b4, b5, b6⟩ := e.bm
    refine ⟨m, o, b1, b2, fun q => ?_, fun q => ?_, hidT_get b3 (ent_plain e h b3 (fun z n q => ?_) fun q => ?_), b4, b5, b6⟩
    · rw [q, hg1] at b3
      cases b3
      rw [hg2] at b6
      cases b6
    · rw [q, htp] at b3
      cases b3
      cases b6
    · rw [b6] at q
      cases q
    · rw [b6] at q
      cases q
  · rw [z, htp] at hg1
    cases hg1
    cases hg2
/-- the abstract heap at the call is there -/
theorem ent_ex (e : Ent F.K mg s cs a us ns) : ∃ H, EntH e H := by
  have rv := vals_ints e.isc
  cases hk : F.K.lookup a with
  | some o =>
    have z := e.kin a o hk
    rw [e.scr] at z
    cases z
    refine ⟨entH cs none, fun b hb => if_pos hb, fun b o q => ?_, fun L => ⟨a, rfl, .inr ⟨_, us.toArray, _, hk, rfl, rfl, rfl, ?_, rv⟩⟩⟩
    · rcases Classical.em (b ∈ cs.map (·.2)) with hb | hb
      · exact .inl ⟨hb, (Option.some.inj ((if_pos hb).symm.trans q)).symm⟩
      · have z := (if_neg hb).symm.trans q
        cases z
    · rw [List.size_toArray, ← rv.length, List.length_map]
      exact e.len
  | none =>
    refine ⟨entH cs (some (a, .frz { cls := .type "list", data := .seq us.toArray } (.lst (ns.map V.int)))), fun b hb => ?_, fun b o q => ?_, fun L => ⟨a, rfl, .inl ⟨_, if_pos rfl⟩⟩⟩
    · refine (if_neg (fun z => ?_)).trans (if_pos hb)
      rw [z] at hb
      exact e.out hb
    · by_cases hb : b = a
      · subst hb
        exact .inr ⟨rfl, hk, (Option.some.inj ((if_pos rfl).symm.trans q)).symm⟩
      · have z := (if_neg hb).symm.trans q
        rcases Classical.em (b ∈ cs.map (·.2)) with hb2 | hb2
        · exact .inl ⟨hb2, (Option.some.inj ((if_pos hb2).symm.trans z)).symm⟩
        · have z2 := (if_neg hb2).symm.trans z
          cases z2
/-- THE CALL: the law's promise gives its end -/
theorem ent_call {k : Nat} {fa : Addr} {fd : FuncData} {x : Str} {den : DenF} (e : Ent F.K mg s cs a us ns) (hr : Room k callerA) (hT : ∀ y ∈ F.T, y.1 ∈ cs.map (·.2)) (hb : ∀ (s : Shared) (u : Value), BindsTo s fd ⟨[u], []⟩ [(x, u)])
    (hF : ∀ base : Heap, F.K.In base → base.Ns mainGlobals mg → (∀ p ∈ cs, LamX.TabB base mg p.1 p.2) → FnD P w F mg base k fa fd [x] den) (hden : ∃ M, den [.scr ns] [] = some (.val (.bl true), M)) :
    codeAny (model P w) callerA (.call (.ref fa) ⟨[.ref a], []⟩) (fun r s' => r = .ok (.ret (.bool true)) ∧ OldK s.heap s'.heap ∧ s'.os = s.os ∧ PyProof.Rows.AllBare s'.gens) s := by
  obtain ⟨H, h⟩ := ent_ex e
  obtain ⟨M, hM⟩ := hden
  obtain ⟨mb, hb1, hb2⟩ := e.blt
  obtain ⟨ml, hl1, hl2⟩ := id e.lim
  have md : L2.Mod F.K mg (hidT s.heap H) := ⟨ent_k e h, ent_ns e h e.glob, ⟨mb, ent_ns e h hb1, hb2⟩, ⟨ml, ent_ns e h hl1, hl2⟩⟩
  have e0 : Env0 P w F.K mg (hidT s.heap H) callerA [] s H := by
    refine ⟨rfl, md, fun b o z => of_hidT z, Nat.le_of_eq (hidT_size _ _), trivial, fun b z => ?_, ent_ok e h, .of_eq e.gens⟩
    exact absurd (show b ∈ ([] : List Addr) from z) (by simp)
  have sp : spD F den [.ref a] H (fun v _ => v = .bl true) fun _ _ _ => False := by
    refine ⟨[], [], [.scr ns], ⟨rfl, List.nodup_nil, fun n b o z => by simp at z, fun y hy => LamX.TabS.nil (h.tb _ (hT y hy))⟩, ⟨.ref a, [], rfl, h.rep [], rfl⟩, ?_⟩
    rw [hM]
    exact fun L' H' v _ _ rv => rv
  refine codeAny_mono ((hF _ (ent_k e h) (ent_ns e h e.glob) (ent_tb e h)).run callerA [] s H ⟨[.ref a], []⟩ [.ref a] [.ref a] _ _ hr rfl e0 (hb s (.ref a)) (.cons rfl .nil) rfl sp) fun r s' q => ?_
  cases r with
  | error y =>
    obtain ⟨_, _, _, _, _, _, _, _, _, _, _, _, z⟩ := q
    exact z.elim
  | ok fl =>
    cases fl with
    | next => exact (show False from q).elim
    | brk => exact (show False from q).elim
    | cont => exact (show False from q).elim
    | ret u =>
      obtain ⟨v, H', ho, hba, un, hok', rv, hv⟩ := q
      have hv' : v = .bl true := hv
      subst hv'
      obtain rfl : u = Value.bool true := rv
      have same : ∀ b o, b ∉ cs.map (·.2) → s.heap.get? b = some o → s'.heap.get? b = some o := fun b o nb z => by
        cases q2 : H b with
        | none => exact un.keep b o z q2 (by intro y; exact absurd (show b ∈ ([] : List Addr) from y) (by simp)) (by simp)
        | some u2 =>
          rcases h.known b u2 q2 with ⟨h1, _⟩ | ⟨rfl, _, rfl⟩
          · exact absurd h1 nb
          · rw [e.scr] at z
            cases z
            exact (hok' _ _ (un.frzs _ _ _ q2)).1
      have more : ∀ b ∈ cs.map (·.2), ∃ m : Array Value, s'.heap.get? b = some { cls := .none, data := .fields m } := fun b hb => by
        obtain ⟨m, z⟩ := un.tbls b #[] (h.tb b hb)
        exact ⟨_, hok' b _ z⟩
      refine ⟨rfl, ⟨fun b o z => ?_, fun b o z => ?_⟩, ho, hba⟩
      · by_cases hb3 : b ∈ cs.map (·.2)
        · obtain ⟨m, hm⟩ := more b hb3
          obtain ⟨y, y1, y2⟩ := List.mem_map.mp hb3
          subst y2
          rw [e.tab y y1] at z
          cases z
          exact .inr (.inl ⟨((e.code y y1).tab (e.tab y y1)).isCodeTable, rfl, #[], m, rfl, by rw [Array.empty_append]; exact hm⟩)
        · exact .inl (same b o hb3 z)
      · by_cases hb3 : b ∈ cs.map (·.2)
        · obtain ⟨m, hm⟩ := more b hb3
          exact ⟨_, hm⟩
        · exact ⟨o, same b o hb3 z⟩
end
end DL
namespace DL
open PySem L2
section
variable {F : Fx} {X : Cx} {W : WX} {k : Nat}
abbrev DenO := DL.Env → Store → RD (Option Int)
def noneO : DenO := fun _ M => ok none M
def someO (da : DenE) : DenO := fun e M => bindE (da e M) fun d M1 => match d with
  | .int i => ok (some i) M1
  | _ => none
theorem do_no : DO F X W none noneO := do_none
theorem do_so {x : Expr} {da : DenE} (ha : DE F X W x da) : DO F X W (some x) (someO da) := do_some ha
def slD (da : DenE) (dl dh dt : DenO) : DenE := fun e M => bindE (da e M) fun d M1 => bindE (dl e M1) fun l M2 => bindE (dh e M2) fun h M3 => bindE (dt e M3) fun t M4 => slcF d l h t M4
theorem de_sl {x : Expr} {lo hi st : Option Expr} {da : DenE} {dl dh dt : DenO} {pos p2 : Pos} (ha : DE F X W x da) (hl : DO F X W lo dl) (hh : DO F X W hi dh) (ht : DO F X W st dt) (hK : X.K = F.K := by rfl) : DE F X W (.Subscript x (.Slice lo hi st p2) pos) (slD da dl dh dt) := de_slice3 ha hl hh ht hK
def tstD (da : DenE) : DenE := fun e M => bindE (da e M) asT
theorem dt_v {x : Expr} {da : DenE} (ha : DE F X W x da) (hK : X.K = F.K := by rfl) (he : ∀ whole, isTrue x X.env whole = (do let v ← whole; standAt x.pos; holding [v] (truthy v)) := by intro _; rfl) : DT F X W x (tstD da) := dt_val hK ha he
def empD : DenE := fun _ M => ok .emp M
theorem de_emp {pos : Pos} : DE F X W (.Dict [] [] pos) empD := by
  refine ⟨_, pe_dnewK, fun e M L σ H Q sr p => fun p' hp => ?_⟩
  have s : Stp L H L (upd H p' (.dK [])) := Stp.alloc hp
  exact p L _ (.ref p') s (sr.stay s (sr.m.alloc hp)) ⟨p', rfl, upd_same, fresh_out sr.m hp⟩
def lamD (gden : (Store → RE) → Store → RE) (db : DenE) : DenE := fun e M => valOnly (gden (fun M' => db e M') M)
def wlS (fuel : DL.Env → Store → Nat) (dt : DenE) (db : DenS) : DenS := fun e M => whileS dt db (fuel e M) e M
theorem ds_wl {c : Expr} {body : List Stmt} {dt : DenE} {db : DenS} {pos : Pos} (fuel : DL.Env → Store → Nat) (d : Dc X W k) (hc : DT F X W c dt) (hb : DSs F X W body db) : DS F X W (.While c body [] pos) (wlS fuel dt db) := ds_while fuel d hc hb
theorem FnD.stuck {P : Program} {w : World} {mg : Str → Option Value} {base : Heap} {f : Addr} {fd : FuncData} {ps : List Str} : FnD P w F mg base k f fd ps (fun _ _ => none) :=
  ⟨fun A outer s H args us vs Q E hr hg e0 hb hv hl sp => by
    obtain ⟨L, M, ds, _, _, p⟩ := sp
    exact False.elim p⟩
end
end DL
namespace DL
open PySem L2 PyProof.Rows
/-- what is known at the head's heap of the law's def at fa -/
def DEnd (P : Program) (w : World) (K : PySem.W.Frag) (q : Program) (k n : Nat) (x : Str) (mg : Str → Option Value) (fa : Addr) : Prop :=
  ∃ (F : Fx) (fd : FuncData) (xs : List (Str × Addr × Addr)) (den : DenF), F.K = K ∧
    (∀ y ∈ xs, (∃ d, (recsOf q).find? (fun e => e.name == y.1) = some d) ∧ PySem.W.tabIn K y.1 = some y.2 ∧ K.lookup y.2.2 = none) ∧
    (∀ y ∈ F.T, y.1 ∈ (xs.map (·.2)).map (·.2)) ∧ (∀ (s : Shared) (u : Value), BindsTo s fd ⟨[u], []⟩ [(x, u)]) ∧
    (∀ base : Heap, F.K.In base → base.Ns mainGlobals mg → (∀ p ∈ xs.map (·.2), LamX.TabB base mg p.1 p.2) → FnD P w F mg base k fa fd [x] den) ∧
    ∀ ns : List Int, ns.length ≤ n → (∀ z ∈ ns, Builtin.Int.intBits z ≤ 1048576) → ∃ M, den [.scr ns] [] = some (.val (.bl true), M)
theorem walk_D {l : PySem.W.OpenLaw} {n k : Nat} {q : Program} {loose : List Str} {XP : (Str → Option Value) → Heap → Prop} {YP : World → Heap → Prop} {d : DefRec} {K : Params → PySem.W.Frag} {x : Str} (hn : l.most = some n) (hn2 : n ≤ sizeLine) (hdf : d.params.defaults = [])
    (hr : Room k callerA) (hY : ∀ (w : World) (h : Heap), YP w h → (K w.params).In h) (F : ∀ (w : World) (mg : Str → Option Value) (fa : Addr) (h : Heap), YP w h → (K w.params).In h → h.Ns mainGlobals mg → mg d.name = some (.ref fa) → DEnd l.prog w (K w.params) q k n x mg fa) :
    PySem.W.WalkO q loose XP YP l.row.toRowW d [] (fun g ws => PySem.call g ws) := by
  refine Att.attach_callB hn hdf fun w s₀ s₁ mg mb fa ob pmd cdv dcv a vs ns G Y ho hd hcd hmg hobj hints hlen hbits hg => ?_
  have KX := hY w _ Y
  obtain ⟨F0, fd, xs, den, hK, hx, hT, hb, hF, hden⟩ := F w mg fa _ Y KX G.T.g hmg
  rw [← hK] at KX hx
  have hc : ∀ p ∈ xs.map (·.2), PySem.W.CodeHd s₁.heap p.1 p.2 ∧ s₁.heap.get? p.2 = some { cls := .none, data := .fields #[] } := fun p hp => by
    obtain ⟨y, hy, rfl⟩ := List.mem_map.mp hp
    obtain ⟨⟨dd, h1⟩, h2, h3⟩ := hx y hy
    exact PySem.W.tab_of G.T KX h1 h2
  have e : Ent F0.K mg s₁ (xs.map (·.2)) a vs ns := ⟨KX, G.T.g, ⟨mb, G.T.b, G.T.builtins⟩, G.T.nolimit, hg, fun p hp => (hc p hp).2, fun p hp => by
    obtain ⟨y, hy, rfl⟩ := List.mem_map.mp hp
    exact (hx y hy).2.2, fun p hp => (hc p hp).1, G.T.bmain, hobj, hints, Nat.le_trans hlen hn2⟩
  exact ent_call e hr hT hb hF (hden ns hlen hbits)
theorem tabIn_of {K : PySem.W.Frag} {x : Str} {f c P : Addr} {oc oc2 : Value} {od od2 : Option Addr} {fd : FuncData} {sl sl2 : Array (Option Value)} {vs : Array Value} (h1 : PySem.W.nsIn K mainGlobals x = some (some (.ref f))) (h2 : K.lookup f = some ⟨oc, od, .func fd, sl⟩) (h3 : fd.code = .ref c) (h4 : K.lookup c = some ⟨oc2, od2, .fields vs, sl2⟩) (h5 : (vs[11]? : Option Value) = some (.ref P)) :
    PySem.W.tabIn K x = some (c, P) := by
  unfold PySem.W.tabIn
  rw [h1]
  dsimp only
  rw [h2]
  dsimp only
  rw [h3]
  dsimp only
  rw [h4]
  dsimp only
  rw [h5]
end DL
namespace K01
open PySem L2 DL
def topS (i : Nat) : Stmt := PySem.Challenge.pw_hollowrise_k01_fractions.main.body.getD i (.Pass ⟨0, 0, 0, 0⟩)
abbrev s_is_whole : Stmt := topS 8
theorem sc_is_whole : FnScope ["thing"] ["thing"] (defScope s_is_whole) := ⟨rfl, rfl, rfl, by decide +kernel, rfl, by decide +kernel, by decide +kernel⟩
abbrev s_is_tuple_of : Stmt := topS 9
theorem sc_is_tuple_of : FnScope ["thing", "many"] ["thing", "many"] (defScope s_is_tuple_of) := ⟨rfl, rfl, rfl, by decide +kernel, rfl, by decide +kernel, by decide +kernel⟩
abbrev s_is_fraction : Stmt := topS 11
theorem sc_is_fraction : FnScope ["thing", "above", "below"] ["thing"] (defScope s_is_fraction) := ⟨rfl, rfl, rfl, by decide +kernel, rfl, by decide +kernel, by decide +kernel⟩
abbrev s_fraction : Stmt := topS 12
theorem sc_fraction : FnScope ["above", "below", "shared"] ["above", "below"] (defScope s_fraction) := ⟨rfl, rfl, rfl, by decide +kernel, rfl, by decide +kernel, by decide +kernel⟩
abbrev s_plus : Stmt := topS 13
theorem sc_plus : FnScope ["one", "other", "above", "below", "other_above", "other_below", "shared", "part", "whole", "common"] ["one", "other"] (defScope s_plus) := ⟨rfl, rfl, rfl, by decide +kernel, rfl, by decide +kernel, by decide +kernel⟩
abbrev s_less : Stmt := topS 14
theorem sc_less : FnScope ["one", "other"] ["one", "other"] (defScope s_less) := ⟨rfl, rfl, rfl, by decide +kernel, rfl, by decide +kernel, by decide +kernel⟩
abbrev s_times : Stmt := topS 15
theorem sc_times : FnScope ["one", "other", "above", "below", "other_above", "other_below", "first", "second"] ["one", "other"] (defScope s_times) := ⟨rfl, rfl, rfl, by decide +kernel, rfl, by decide +kernel, by decide +kernel⟩
abbrev s_by : Stmt := topS 16
theorem sc_by : FnScope ["one", "other", "above", "below"] ["one", "other"] (defScope s_by) := ⟨rfl, rfl, rfl, by decide +kernel, rfl, by decide +kernel, by decide +kernel⟩
abbrev s__whole_power : Stmt := topS 18
theorem sc__whole_power : FnScope ["base", "number", "product"] ["base", "number"] (defScope s__whole_power) := ⟨rfl, rfl, rfl, by decide +kernel, rfl, by decide +kernel, by decide +kernel⟩
abbrev s_power : Stmt := topS 17
theorem sc_power : FnScope ["one", "number", "above", "below"] ["one", "number"] (defScope s_power) := ⟨rfl, rfl, rfl, by decide +kernel, rfl, by decide +kernel, by decide +kernel⟩
abbrev s__law_cell : Stmt := topS 20
theorem sc__law_cell : FnScope ["cells", "spot", "k", "base", "own", "turn"] ["cells", "spot"] (defScope s__law_cell) := ⟨rfl, rfl, rfl, by decide +kernel, rfl, by decide +kernel, by decide +kernel⟩
abbrev s__law_low : Stmt := topS 21
theorem sc__law_low : FnScope ["above", "below", "one", "other", "part"] ["above", "below"] (defScope s__law_low) := ⟨rfl, rfl, rfl, by decide +kernel, rfl, by decide +kernel, by decide +kernel⟩
abbrev s__law_plus : Stmt := topS 22
theorem sc__law_plus : FnScope ["one", "other"] ["one", "other"] (defScope s__law_plus) := ⟨rfl, rfl, rfl, by decide +kernel, rfl, by decide +kernel, by decide +kernel⟩
abbrev s__law_times : Stmt := topS 23
theorem sc__law_times : FnScope ["one", "other"] ["one", "other"] (defScope s__law_times) := ⟨rfl, rfl, rfl, by decide +kernel, rfl, by decide +kernel, by decide +kernel⟩
abbrev s__law_by : Stmt := topS 24
theorem sc__law_by : FnScope ["one", "other"] ["one", "other"] (defScope s__law_by) := ⟨rfl, rfl, rfl, by decide +kernel, rfl, by decide +kernel, by decide +kernel⟩
abbrev s__law_number : Stmt := topS 25
theorem sc__law_number : FnScope ["cells", "spot", "n", "far", "great"] ["cells", "spot"] (defScope s__law_number) := ⟨rfl, rfl, rfl, by decide +kernel, rfl, by decide +kernel, by decide +kernel⟩
abbrev s__law_power : Stmt := topS 26
theorem sc__law_power : FnScope ["one", "number", "found", "turn"] ["one", "number"] (defScope s__law_power) := ⟨rfl, rfl, rfl, by decide +kernel, rfl, by decide +kernel, by decide +kernel⟩
abbrev s__law_refused : Stmt := topS 27
theorem sc__law_refused : FnScope ["deed", "wrong", "error", "kinds"] ["deed"] (defScope s__law_refused) := ⟨rfl, rfl, rfl, by decide +kernel, rfl, by decide +kernel, by decide +kernel⟩
abbrev s__law_is_one : Stmt := topS 28
theorem sc__law_is_one : FnScope ["thing", "part"] ["thing"] (defScope s__law_is_one) := ⟨rfl, rfl, rfl, by decide +kernel, rfl, by decide +kernel, by decide +kernel⟩
abbrev s__law_things : Stmt := topS 29
theorem sc__law_things : FnScope ["one", "n", "above", "below", "some"] ["one", "n"] (defScope s__law_things) := ⟨rfl, rfl, rfl, by decide +kernel, rfl, by decide +kernel, by decide +kernel⟩
abbrev s__law_pair_right : Stmt := topS 30
theorem sc__law_pair_right : FnScope ["one", "other", "number", "told", "size", "due", "is_by"] ["one", "other", "number"] (defScope s__law_pair_right) := ⟨rfl, rfl, rfl, by decide +kernel, rfl, by decide +kernel, by decide +kernel⟩
abbrev s_law : Stmt := topS 31
theorem sc_law : FnScope ["script", "spot", "turn", "a", "b", "c", "d", "n", "one", "other", "thing", "told"] ["script"] (defScope s_law) := ⟨rfl, rfl, rfl, by decide +kernel, rfl, by decide +kernel, by decide +kernel⟩
/-- where things stand -/
structure Tx where
  K : PySem.W.Frag
  mg : Str → Option Value
  a_is_whole : Addr
  fd_is_whole : FuncData
  a_is_tuple_of : Addr
  fd_is_tuple_of : FuncData
  a_is_fraction : Addr
  fd_is_fraction : FuncData
  a_fraction : Addr
  fd_fraction : FuncData
  a_plus : Addr
  fd_plus : FuncData
  a_less : Addr
  fd_less : FuncData
  a_times : Addr
  fd_times : FuncData
  a_by : Addr
  fd_by : FuncData
  a__whole_power : Addr
  fd__whole_power : FuncData
  a_power : Addr
  fd_power : FuncData
  a__law_cell : Addr
  fd__law_cell : FuncData
  a__law_low : Addr
  fd__law_low : FuncData
  a__law_plus : Addr
  fd__law_plus : FuncData
  a__law_times : Addr
  fd__law_times : FuncData
  a__law_by : Addr
  fd__law_by : FuncData
  a__law_number : Addr
  fd__law_number : FuncData
  a__law_power : Addr
  fd__law_power : FuncData
  a__law_refused : Addr
  fd__law_refused : FuncData
  a__law_is_one : Addr
  fd__law_is_one : FuncData
  a__law_things : Addr
  fd__law_things : FuncData
  a__law_pair_right : Addr
  fd__law_pair_right : FuncData
  a_law : Addr
  fd_law : FuncData
  C_HollowError : Addr
  C_BadFraction : Addr
  C_BadRule : Addr
  C_DeedError : Addr
  C_BookError : Addr
  c__law_pair_right : Addr
  P__law_pair_right : Addr
  c_law : Addr
  P_law : Addr
def Tx.cl (t : Tx) : String → Option Addr
  | "HollowError" => some t.C_HollowError
  | "BadFraction" => some t.C_BadFraction
  | "BadRule" => some t.C_BadRule
  | "DeedError" => some t.C_DeedError
  | "BookError" => some t.C_BookError
  | _ => none
def Tx.fx (t : Tx) : Fx := ⟨t.K, t.cl, [(t.P__law_pair_right, "_law_pair_right" ++ ".<locals>." ++ "<lambda>"), (t.P_law, "law" ++ ".<locals>." ++ "<lambda>")]⟩
structure TxOk (t : Tx) : Prop where
  g_is_whole : t.mg "is_whole" = some (.ref t.a_is_whole)
  F_is_whole : Fun t.K "is_whole" "is_whole" s_is_whole t.a_is_whole t.fd_is_whole
  b_is_whole : Binds t.K t.fd_is_whole ["thing"] []
  g_is_tuple_of : t.mg "is_tuple_of" = some (.ref t.a_is_tuple_of)
  F_is_tuple_of : Fun t.K "is_tuple_of" "is_tuple_of" s_is_tuple_of t.a_is_tuple_of t.fd_is_tuple_of
  b_is_tuple_of : Binds t.K t.fd_is_tuple_of ["thing", "many"] []
  g_is_fraction : t.mg "is_fraction" = some (.ref t.a_is_fraction)
  F_is_fraction : Fun t.K "is_fraction" "is_fraction" s_is_fraction t.a_is_fraction t.fd_is_fraction
  b_is_fraction : Binds t.K t.fd_is_fraction ["thing"] []
  g_fraction : t.mg "fraction" = some (.ref t.a_fraction)
  F_fraction : Fun t.K "fraction" "fraction" s_fraction t.a_fraction t.fd_fraction
  b_fraction : Binds t.K t.fd_fraction ["above", "below"] []
  g_plus : t.mg "plus" = some (.ref t.a_plus)
  F_plus : Fun t.K "plus" "plus" s_plus t.a_plus t.fd_plus
  b_plus : Binds t.K t.fd_plus ["one", "other"] []
  g_less : t.mg "less" = some (.ref t.a_less)
  F_less : Fun t.K "less" "less" s_less t.a_less t.fd_less
  b_less : Binds t.K t.fd_less ["one", "other"] []
  g_times : t.mg "times" = some (.ref t.a_times)
  F_times : Fun t.K "times" "times" s_times t.a_times t.fd_times
  b_times : Binds t.K t.fd_times ["one", "other"] []
  g_by : t.mg "by" = some (.ref t.a_by)
  F_by : Fun t.K "by" "by" s_by t.a_by t.fd_by
  b_by : Binds t.K t.fd_by ["one", "other"] []
  g__whole_power : t.mg "_whole_power" = some (.ref t.a__whole_power)
  F__whole_power : Fun t.K "_whole_power" "_whole_power" s__whole_power t.a__whole_power t.fd__whole_power
  b__whole_power : Binds t.K t.fd__whole_power ["base", "number"] []
  g_power : t.mg "power" = some (.ref t.a_power)
  F_power : Fun t.K "power" "power" s_power t.a_power t.fd_power
  b_power : Binds t.K t.fd_power ["one", "number"] []
  g__law_cell : t.mg "_law_cell" = some (.ref t.a__law_cell)
  F__law_cell : Fun t.K "_law_cell" "_law_cell" s__law_cell t.a__law_cell t.fd__law_cell
  b__law_cell : Binds t.K t.fd__law_cell ["cells", "spot"] []
  g__law_low : t.mg "_law_low" = some (.ref t.a__law_low)
  F__law_low : Fun t.K "_law_low" "_law_low" s__law_low t.a__law_low t.fd__law_low
  b__law_low : Binds t.K t.fd__law_low ["above", "below"] []
  g__law_plus : t.mg "_law_plus" = some (.ref t.a__law_plus)
  F__law_plus : Fun t.K "_law_plus" "_law_plus" s__law_plus t.a__law_plus t.fd__law_plus
  b__law_plus : Binds t.K t.fd__law_plus ["one", "other"] []
  g__law_times : t.mg "_law_times" = some (.ref t.a__law_times)
  F__law_times : Fun t.K "_law_times" "_law_times" s__law_times t.a__law_times t.fd__law_times
  b__law_times : Binds t.K t.fd__law_times ["one", "other"] []
  g__law_by : t.mg "_law_by" = some (.ref t.a__law_by)
  F__law_by : Fun t.K "_law_by" "_law_by" s__law_by t.a__law_by t.fd__law_by
  b__law_by : Binds t.K t.fd__law_by ["one", "other"] []
  g__law_number : t.mg "_law_number" = some (.ref t.a__law_number)
  F__law_number : Fun t.K "_law_number" "_law_number" s__law_number t.a__law_number t.fd__law_number
  b__law_number : Binds t.K t.fd__law_number ["cells", "spot"] []
  g__law_power : t.mg "_law_power" = some (.ref t.a__law_power)
  F__law_power : Fun t.K "_law_power" "_law_power" s__law_power t.a__law_power t.fd__law_power
  b__law_power : Binds t.K t.fd__law_power ["one", "number"] []
  g__law_refused : t.mg "_law_refused" = some (.ref t.a__law_refused)
  F__law_refused : Fun t.K "_law_refused" "_law_refused" s__law_refused t.a__law_refused t.fd__law_refused
  b__law_refused : Binds t.K t.fd__law_refused ["deed"] []
  g__law_is_one : t.mg "_law_is_one" = some (.ref t.a__law_is_one)
  F__law_is_one : Fun t.K "_law_is_one" "_law_is_one" s__law_is_one t.a__law_is_one t.fd__law_is_one
  b__law_is_one : Binds t.K t.fd__law_is_one ["thing"] []
  g__law_things : t.mg "_law_things" = some (.ref t.a__law_things)
  F__law_things : Fun t.K "_law_things" "_law_things" s__law_things t.a__law_things t.fd__law_things
  b__law_things : Binds t.K t.fd__law_things ["one", "n"] []
  g__law_pair_right : t.mg "_law_pair_right" = some (.ref t.a__law_pair_right)
  F__law_pair_right : Fun t.K "_law_pair_right" "_law_pair_right" s__law_pair_right t.a__law_pair_right t.fd__law_pair_right
  b__law_pair_right : Binds t.K t.fd__law_pair_right ["one", "other", "number"] []
  g_law : t.mg "law" = some (.ref t.a_law)
  F_law : Fun t.K "law" "law" s_law t.a_law t.fd_law
  b_law : Binds t.K t.fd_law ["script"] []
  m_ValueError : t.mg "ValueError" = none
  m_abs : t.mg "abs" = none
  m_bool : t.mg "bool" = none
  m_gcd : t.mg "gcd" = some (.builtin "math.gcd")
  m_int : t.mg "int" = none
  m_isinstance : t.mg "isinstance" = none
  m_len : t.mg "len" = none
  m_min : t.mg "min" = none
  m_range : t.mg "range" = none
  m_repr : t.mg "repr" = none
  m_str : t.mg "str" = none
  m_tuple : t.mg "tuple" = none
  m_type : t.mg "type" = none
  g_HollowError : t.mg "HollowError" = some (.ref t.C_HollowError)
  g_BadFraction : t.mg "BadFraction" = some (.ref t.C_BadFraction)
  g_BadRule : t.mg "BadRule" = some (.ref t.C_BadRule)
  g_DeedError : t.mg "DeedError" = some (.ref t.C_DeedError)
  g_BookError : t.mg "BookError" = some (.ref t.C_BookError)
  code__law_pair_right : t.fd__law_pair_right.code = .ref t.c__law_pair_right
  code_law : t.fd_law.code = .ref t.c_law
  xc_BadFraction : PySem.W.excIn t.K t.C_BadFraction [.type "ValueError", .type "Exception", .type "BaseException", .type "object"] "ValueError.__new__" = true
  kc_BadFraction : PySem.W.keepIn t.K (.ref t.C_BadFraction) = true
  bc_BadFraction : PySem.W.subIn t.K (.ref t.C_BadFraction) (.type "BaseException") = some true
  tc_BadFraction : PySem.W.typeIn t.K (.ref t.C_BadFraction) = some (.type "type")
  ec_BadFraction : L2.ExcC t.K t.C_BadFraction
  ki_BadFraction_BadFraction : PySem.W.kitOne t.K (.ref t.C_BadFraction) (.ref t.C_BadFraction) = some true
  ki_BadFraction_ValueError : PySem.W.kitOne t.K (.ref t.C_BadFraction) (.type "ValueError") = some true
  ki_BadFraction_BadRule : PySem.W.kitOne t.K (.ref t.C_BadFraction) (.ref t.C_BadRule) = some false
  ex_BadFraction : PySem.W.exmAny t.K (.ref t.C_BadFraction) [.ref t.C_HollowError, .ref t.C_DeedError, .ref t.C_BookError] = some true
  neT__law_pair_right_law : t.P__law_pair_right ≠ t.P_law
theorem TxOk.h_cl_BadFraction {x : Tx} (_ : TxOk x) : x.fx.cl "BadFraction" = some x.C_BadFraction := rfl
theorem TxOk.h_cl_BadRule {x : Tx} (_ : TxOk x) : x.fx.cl "BadRule" = some x.C_BadRule := rfl
theorem TxOk.cf_BadFraction {x : Tx} (t : TxOk x) (X : Cx) (hK : X.K = x.K := by rfl) (hm : X.mg = x.mg := by rfl) : ClsF X x.C_BadFraction "BadFraction" := ⟨⟨_, _, _, _, PySem.F.excBase_ValueError, by rw [hK]; exact t.xc_BadFraction⟩, by rw [hm]; exact t.g_BadFraction, by rw [hK]; exact t.kc_BadFraction, raises_own (by rw [hK]; exact t.bc_BadFraction) (by rw [hK]; exact t.tc_BadFraction)⟩
def catT : String → Bool
  | "BadFraction" => true
  | _ => false
def subT : String → D → Option Bool
  | "BadFraction", .cls "BadFraction" => some true
  | "BadFraction", .ty "ValueError" => some true
  | "BadFraction", .cls "BadRule" => some false
  | _, _ => none
structure Tb (x : Tx) (base : Heap) : Prop where
  b__law_pair_right : LamX.TabB base x.mg x.c__law_pair_right x.P__law_pair_right
  b_law : LamX.TabB base x.mg x.c_law x.P_law
theorem TxOk.inT__law_pair_right {x : Tx} (t : TxOk x) : (x.P__law_pair_right, ("_law_pair_right" ++ ".<locals>." ++ "<lambda>" : Str)) ∈ x.fx.T := by simp [Tx.fx]
theorem TxOk.uniq__law_pair_right {x : Tx} (t : TxOk x) : ∀ y ∈ x.fx.T, y.1 = x.P__law_pair_right → y.2 = ("_law_pair_right" ++ ".<locals>." ++ "<lambda>" : Str) := by
  intro y hy e
  simp only [Tx.fx, List.mem_cons, or_false, List.not_mem_nil] at hy
  rcases hy with rfl | rfl
  · rfl
  · exact absurd e.symm t.neT__law_pair_right_law
theorem TxOk.inT_law {x : Tx} (t : TxOk x) : (x.P_law, ("law" ++ ".<locals>." ++ "<lambda>" : Str)) ∈ x.fx.T := by simp [Tx.fx]
theorem TxOk.uniq_law {x : Tx} (t : TxOk x) : ∀ y ∈ x.fx.T, y.1 = x.P_law → y.2 = ("law" ++ ".<locals>." ++ "<lambda>" : Str) := by
  intro y hy e
  simp only [Tx.fx, List.mem_cons, or_false, List.not_mem_nil] at hy
  rcases hy with rfl | rfl
  · exact absurd e t.neT__law_pair_right_law
  · rfl
def Tx.cv (x : Tx) (u : Value) : Bool := decide (PySem.W.exmAny x.K u [.ref x.C_HollowError, .ref x.C_DeedError, .ref x.C_BookError] = some true)
theorem TxOk.hcat {x : Tx} (t : TxOk x) : ∀ c C, x.fx.cl c = some C → catT c = true → x.cv (.ref C) = true := by
  intro c C h1 h2
  unfold catT at h2
  split at h2
  · obtain rfl := Option.some.inj h1
    exact decide_eq_true t.ex_BadFraction
  · cases h2
theorem TxOk.h_sub {x : Tx} (t : TxOk x) : ∀ (c : String) (d : D) (b : Bool) (C : Addr) (u : Value), x.fx.cl c = some C → clsU x.fx d = some u → subT c d = some b → L2.ExcC x.fx.K C ∧ PySem.W.kitOne x.fx.K (.ref C) u = some b := by
  intro c d b C u h1 h2 h3
  unfold subT at h3
  split at h3
  · obtain rfl := Option.some.inj h1
    obtain rfl := Option.some.inj h2
    obtain rfl := Option.some.inj h3
    exact ⟨t.ec_BadFraction, t.ki_BadFraction_BadFraction⟩
  · obtain rfl := Option.some.inj h1
    obtain rfl := Option.some.inj h2
    obtain rfl := Option.some.inj h3
    exact ⟨t.ec_BadFraction, t.ki_BadFraction_ValueError⟩
  · obtain rfl := Option.some.inj h1
    obtain rfl := Option.some.inj h2
    obtain rfl := Option.some.inj h3
    exact ⟨t.ec_BadFraction, t.ki_BadFraction_BadRule⟩
  · cases h3
theorem TxOk.sub_cls {x : Tx} (t : TxOk x) : ∀ (c : String) (d : D) (b : Bool), subT c d = some b → ∃ u, clsU x.fx d = some u := by
  intro c d b h3
  unfold subT at h3
  split at h3
  · exact ⟨_, rfl⟩
  · exact ⟨_, rfl⟩
  · exact ⟨_, rfl⟩
  · cases h3
end K01
namespace K01
open PySem L2 DL
/-- fuel: one more than the number at slot i -/
def fuelN (i : Nat) : DL.Env → Store → Nat := fun e _ => match e[i]? with
  | some (some (.int n)) => n.natAbs + 1
  | _ => 0
def den_is_whole : DenS := retS (binD (isF false) (callD (typF) (consA (nameD 0) (nilA))) (cD (.ty "int")))
def m_is_whole : DenF := ofBody 1 den_is_whole
theorem ok_is_whole {x : Tx} (t : TxOk x) {P : Program} {w : World} {base : Heap} (tb : Tb x base) : FnD P w x.fx x.mg base 1 x.a_is_whole x.fd_is_whole ["thing"] m_is_whole := by
  have sc := sc_is_whole
  exact fn_mk (k := 0) t.F_is_whole sc rfl fun cdv A outer s H E dc => (dss_one (ds_ret (de_cmp is_ok opr_is (de_callTy typ_ok callr_type t.m_type (da_cons (de_name 0) da_nil)) (de_cls t.m_int) (nomark _))))
def den_is_tuple_of : DenS := retS (andD (binD (isF false) (callD (typF) (consA (nameD 0) (nilA))) (cD (.ty "tuple"))) (binD (eqF) (callD (lenF) (consA (nameD 0) (nilA))) (nameD 1)))
def m_is_tuple_of : DenF := ofBody 2 den_is_tuple_of
theorem ok_is_tuple_of {x : Tx} (t : TxOk x) {P : Program} {w : World} {base : Heap} (tb : Tb x base) : FnD P w x.fx x.mg base 1 x.a_is_tuple_of x.fd_is_tuple_of ["thing", "many"] m_is_tuple_of := by
  have sc := sc_is_tuple_of
  exact fn_mk (k := 0) t.F_is_tuple_of sc rfl fun cdv A outer s H E dc => (dss_one (ds_ret (de_and (de_cmp is_ok opr_is (de_callTy typ_ok callr_type t.m_type (da_cons (de_name 0) da_nil)) (de_cls t.m_tuple) (nomark _)) (de_one (de_cmp eq_ok (opr_eq dc.u64) (de_callB len_ok call_len t.m_len (da_cons (de_name 0) da_nil)) (de_name 1) (nomark _))))))
def den_is_fraction : DenS := seqS (ifS (unD notF (tstD (fnD m_is_tuple_of 2 [] (consA (nameD 0) (consA (cD (.int 2)) (nilA)))))) (retS (cD (.bl false))) (nilS)) (seqS (asgG (nameD 0) (tupG 2 (consG (nameG 1) (consG (nameG 2) (nilG))))) (seqS (ifS (orD (unD notF (tstD (fnD m_is_whole 1 [] (consA (nameD 1) (nilA))))) (unD notF (tstD (fnD m_is_whole 1 [] (consA (nameD 2) (nilA)))))) (retS (cD (.bl false))) (nilS)) (retS (andD (binD (geF) (nameD 2) (cD (.int 1))) (binD (eqF) (callD gcdF (consA (nameD 1) (consA (nameD 2) (nilA)))) (cD (.int 1)))))))
def m_is_fraction : DenF := ofBody 3 den_is_fraction
theorem ok_is_fraction {x : Tx} (t : TxOk x) {P : Program} {w : World} {base : Heap} (tb : Tb x base) : FnD P w x.fx x.mg base 2 x.a_is_fraction x.fd_is_fraction ["thing"] m_is_fraction := by
  have sc := sc_is_fraction
  exact fn_mk (k := 1) t.F_is_fraction sc rfl fun cdv A outer s H E dc => (dss_cons (ds_if (dt_not (dt_v (de_call (k := 1) (ps := ["thing", "many"]) (ok_is_tuple_of t tb) (dc.mono (by decide)) t.g_is_tuple_of t.F_is_tuple_of.kp t.b_is_tuple_of .nil (fun _ _ => rfl) (da_cons (de_name 0) (da_cons de_int da_nil))))) (dss_one (ds_ret de_bl)) dss_nil) (dss_cons (ds_asg (de_name 0) (dg_tup dc.calm (dgs_cons (dg_name 1 sc.nd) (dgs_cons (dg_name 2 sc.nd) dgs_nil)))) (dss_cons (ds_if (DW.dt (dw_or (dt_not (dt_v (de_call (k := 1) (ps := ["thing"]) (ok_is_whole t tb) (dc.mono (by decide)) t.g_is_whole t.F_is_whole.kp t.b_is_whole .nil (fun _ _ => rfl) (da_cons (de_name 1) da_nil)))) (dw_or1 (dt_not (dt_v (de_call (k := 1) (ps := ["thing"]) (ok_is_whole t tb) (dc.mono (by decide)) t.g_is_whole t.F_is_whole.kp t.b_is_whole .nil (fun _ _ => rfl) (da_cons (de_name 2) da_nil))))))) (dss_one (ds_ret de_bl)) dss_nil) (dss_one (ds_ret (de_and (de_cmp ge_ok op_ge (de_name 2) de_int (nomark _)) (de_one (de_cmp eq_ok (opr_eq dc.u64) (de_callG gcd_ok cr_gcd t.m_gcd (da_cons (de_name 1) (da_cons (de_name 2) da_nil))) de_int (nomark _)))))))))
def den_fraction : DenS := seqS (ifS (binD (eqF) (nameD 1) (cD (.int 0))) (raiseS "BadFraction") (nilS)) (seqS (ifS (binD (ltF) (nameD 1) (cD (.int 0))) (parS 0 1 (unD negF (nameD 0)) (unD negF (nameD 1))) (nilS)) (seqS (asgS 2 (callD gcdF (consA (nameD 0) (consA (nameD 1) (nilA))))) (retS (tupD (consA (binD fdivF (nameD 0) (nameD 2)) (consA (binD fdivF (nameD 1) (nameD 2)) (nilA)))))))
def m_fraction : DenF := ofBody 3 den_fraction
theorem ok_fraction {x : Tx} (t : TxOk x) {P : Program} {w : World} {base : Heap} (tb : Tb x base) : FnD P w x.fx x.mg base 1 x.a_fraction x.fd_fraction ["above", "below"] m_fraction := by
  have sc := sc_fraction
  exact fn_mk (k := 0) t.F_fraction sc rfl fun cdv A outer s H E dc => (dss_cons (ds_if (dt_cmp eq_ok (opr_eq dc.u64) (de_name 1) de_int (nomark _)) (dss_one (ds_raise "BadFraction" dc t.h_cl_BadFraction (t.cf_BadFraction _))) dss_nil) (dss_cons (ds_if (dt_cmp lt_ok op_lt (de_name 1) de_int (nomark _)) (dss_one (ds_par 0 1 dc.calm sc.nd (de_un neg_ok un_neg (de_name 0)) (de_un neg_ok un_neg (de_name 1)))) dss_nil) (dss_cons (ds_set 2 sc.nd (de_callG gcd_ok cr_gcd t.m_gcd (da_cons (de_name 0) (da_cons (de_name 1) da_nil)))) (dss_one (ds_ret (de_tup (da_cons (de_bin fdiv_ok opr_fdiv (de_name 0) (de_name 2)) (da_cons (de_bin fdiv_ok opr_fdiv (de_name 1) (de_name 2)) da_nil))))))))
def den_plus : DenS := seqS (asgG (nameD 0) (tupG 2 (consG (nameG 2) (consG (nameG 3) (nilG))))) (seqS (asgG (nameD 1) (tupG 2 (consG (nameG 4) (consG (nameG 5) (nilG))))) (seqS (asgS 6 (callD gcdF (consA (nameD 3) (consA (nameD 5) (nilA))))) (seqS (ifS (binD (eqF) (nameD 6) (cD (.int 1))) (retS (tupD (consA (binD addF (binD mulF (nameD 2) (nameD 5)) (binD mulF (nameD 4) (nameD 3))) (consA (binD mulF (nameD 3) (nameD 5)) (nilA))))) (nilS)) (seqS (asgS 7 (binD fdivF (nameD 3) (nameD 6))) (seqS (asgS 8 (binD addF (binD mulF (nameD 2) (binD fdivF (nameD 5) (nameD 6))) (binD mulF (nameD 4) (nameD 7)))) (seqS (asgS 9 (callD gcdF (consA (nameD 8) (consA (nameD 6) (nilA))))) (retS (tupD (consA (binD fdivF (nameD 8) (nameD 9)) (consA (binD mulF (nameD 7) (binD fdivF (nameD 5) (nameD 9))) (nilA)))))))))))
def m_plus : DenF := ofBody 10 den_plus
theorem ok_plus {x : Tx} (t : TxOk x) {P : Program} {w : World} {base : Heap} (tb : Tb x base) : FnD P w x.fx x.mg base 1 x.a_plus x.fd_plus ["one", "other"] m_plus := by
  have sc := sc_plus
  exact fn_mk (k := 0) t.F_plus sc rfl fun cdv A outer s H E dc => (dss_cons (ds_asg (de_name 0) (dg_tup dc.calm (dgs_cons (dg_name 2 sc.nd) (dgs_cons (dg_name 3 sc.nd) dgs_nil)))) (dss_cons (ds_asg (de_name 1) (dg_tup dc.calm (dgs_cons (dg_name 4 sc.nd) (dgs_cons (dg_name 5 sc.nd) dgs_nil)))) (dss_cons (ds_set 6 sc.nd (de_callG gcd_ok cr_gcd t.m_gcd (da_cons (de_name 3) (da_cons (de_name 5) da_nil)))) (dss_cons (ds_if (dt_cmp eq_ok (opr_eq dc.u64) (de_name 6) de_int (nomark _)) (dss_one (ds_ret (de_tup (da_cons (de_bin add_ok opr_add (de_bin mul_ok opr_mul (de_name 2) (de_name 5)) (de_bin mul_ok opr_mul (de_name 4) (de_name 3))) (da_cons (de_bin mul_ok opr_mul (de_name 3) (de_name 5)) da_nil))))) dss_nil) (dss_cons (ds_set 7 sc.nd (de_bin fdiv_ok opr_fdiv (de_name 3) (de_name 6))) (dss_cons (ds_set 8 sc.nd (de_bin add_ok opr_add (de_bin mul_ok opr_mul (de_name 2) (de_bin fdiv_ok opr_fdiv (de_name 5) (de_name 6))) (de_bin mul_ok opr_mul (de_name 4) (de_name 7)))) (dss_cons (ds_set 9 sc.nd (de_callG gcd_ok cr_gcd t.m_gcd (da_cons (de_name 8) (da_cons (de_name 6) da_nil)))) (dss_one (ds_ret (de_tup (da_cons (de_bin fdiv_ok opr_fdiv (de_name 8) (de_name 9)) (da_cons (de_bin mul_ok opr_mul (de_name 7) (de_bin fdiv_ok opr_fdiv (de_name 5) (de_name 9))) da_nil))))))))))))
def den_less : DenS := retS (fnD m_plus 2 [] (consA (nameD 0) (consA (tupD (consA (unD negF (binD ixF (nameD 1) (cD (.int 0)))) (consA (binD ixF (nameD 1) (cD (.int 1))) (nilA)))) (nilA))))
def m_less : DenF := ofBody 2 den_less
theorem ok_less {x : Tx} (t : TxOk x) {P : Program} {w : World} {base : Heap} (tb : Tb x base) : FnD P w x.fx x.mg base 2 x.a_less x.fd_less ["one", "other"] m_less := by
  have sc := sc_less
  exact fn_mk (k := 1) t.F_less sc rfl fun cdv A outer s H E dc => (dss_one (ds_ret (de_call (k := 1) (ps := ["one", "other"]) (ok_plus t tb) (dc.mono (by decide)) t.g_plus t.F_plus.kp t.b_plus .nil (fun _ _ => rfl) (da_cons (de_name 0) (da_cons (de_tup (da_cons (de_un neg_ok un_neg (de_ix (de_name 1) de_int)) (da_cons (de_ix (de_name 1) de_int) da_nil))) da_nil)))))
def den_times : DenS := seqS (asgG (nameD 0) (tupG 2 (consG (nameG 2) (consG (nameG 3) (nilG))))) (seqS (asgG (nameD 1) (tupG 2 (consG (nameG 4) (consG (nameG 5) (nilG))))) (seqS (asgS 6 (callD gcdF (consA (nameD 2) (consA (nameD 5) (nilA))))) (seqS (asgS 7 (callD gcdF (consA (nameD 4) (consA (nameD 3) (nilA))))) (retS (tupD (consA (binD mulF (binD fdivF (nameD 2) (nameD 6)) (binD fdivF (nameD 4) (nameD 7))) (consA (binD mulF (binD fdivF (nameD 3) (nameD 7)) (binD fdivF (nameD 5) (nameD 6))) (nilA))))))))
def m_times : DenF := ofBody 8 den_times
theorem ok_times {x : Tx} (t : TxOk x) {P : Program} {w : World} {base : Heap} (tb : Tb x base) : FnD P w x.fx x.mg base 1 x.a_times x.fd_times ["one", "other"] m_times := by
  have sc := sc_times
  exact fn_mk (k := 0) t.F_times sc rfl fun cdv A outer s H E dc => (dss_cons (ds_asg (de_name 0) (dg_tup dc.calm (dgs_cons (dg_name 2 sc.nd) (dgs_cons (dg_name 3 sc.nd) dgs_nil)))) (dss_cons (ds_asg (de_name 1) (dg_tup dc.calm (dgs_cons (dg_name 4 sc.nd) (dgs_cons (dg_name 5 sc.nd) dgs_nil)))) (dss_cons (ds_set 6 sc.nd (de_callG gcd_ok cr_gcd t.m_gcd (da_cons (de_name 2) (da_cons (de_name 5) da_nil)))) (dss_cons (ds_set 7 sc.nd (de_callG gcd_ok cr_gcd t.m_gcd (da_cons (de_name 4) (da_cons (de_name 3) da_nil)))) (dss_one (ds_ret (de_tup (da_cons (de_bin mul_ok opr_mul (de_bin fdiv_ok opr_fdiv (de_name 2) (de_name 6)) (de_bin fdiv_ok opr_fdiv (de_name 4) (de_name 7))) (da_cons (de_bin mul_ok opr_mul (de_bin fdiv_ok opr_fdiv (de_name 3) (de_name 7)) (de_bin fdiv_ok opr_fdiv (de_name 5) (de_name 6))) da_nil)))))))))
def den_by : DenS := seqS (asgG (nameD 1) (tupG 2 (consG (nameG 2) (consG (nameG 3) (nilG))))) (seqS (ifS (binD (eqF) (nameD 2) (cD (.int 0))) (raiseS "BadFraction") (nilS)) (seqS (ifS (binD (ltF) (nameD 2) (cD (.int 0))) (retS (fnD m_times 2 [] (consA (nameD 0) (consA (tupD (consA (unD negF (nameD 3)) (consA (unD negF (nameD 2)) (nilA)))) (nilA))))) (nilS)) (retS (fnD m_times 2 [] (consA (nameD 0) (consA (tupD (consA (nameD 3) (consA (nameD 2) (nilA)))) (nilA)))))))
def m_by : DenF := ofBody 4 den_by
theorem ok_by {x : Tx} (t : TxOk x) {P : Program} {w : World} {base : Heap} (tb : Tb x base) : FnD P w x.fx x.mg base 2 x.a_by x.fd_by ["one", "other"] m_by := by
  have sc := sc_by
  exact fn_mk (k := 1) t.F_by sc rfl fun cdv A outer s H E dc => (dss_cons (ds_asg (de_name 1) (dg_tup dc.calm (dgs_cons (dg_name 2 sc.nd) (dgs_cons (dg_name 3 sc.nd) dgs_nil)))) (dss_cons (ds_if (dt_cmp eq_ok (opr_eq dc.u64) (de_name 2) de_int (nomark _)) (dss_one (ds_raise "BadFraction" dc t.h_cl_BadFraction (t.cf_BadFraction _))) dss_nil) (dss_cons (ds_if (dt_cmp lt_ok op_lt (de_name 2) de_int (nomark _)) (dss_one (ds_ret (de_call (k := 1) (ps := ["one", "other"]) (ok_times t tb) (dc.mono (by decide)) t.g_times t.F_times.kp t.b_times .nil (fun _ _ => rfl) (da_cons (de_name 0) (da_cons (de_tup (da_cons (de_un neg_ok un_neg (de_name 3)) (da_cons (de_un neg_ok un_neg (de_name 2)) da_nil))) da_nil))))) dss_nil) (dss_one (ds_ret (de_call (k := 1) (ps := ["one", "other"]) (ok_times t tb) (dc.mono (by decide)) t.g_times t.F_times.kp t.b_times .nil (fun _ _ => rfl) (da_cons (de_name 0) (da_cons (de_tup (da_cons (de_name 3) (da_cons (de_name 2) da_nil))) da_nil))))))))
def den__whole_power : DenS := seqS (asgS 2 (cD (.int 1))) (seqS (wlS (fuelN 1) (binD (gtF) (nameD 1) (cD (.int 0))) (seqS (ifS (tstD (binD andF (nameD 1) (cD (.int 1)))) (asgS 2 (binD mulF (nameD 2) (nameD 0))) (nilS)) (seqS (asgS 1 (binD shrF (nameD 1) (cD (.int 1)))) (ifS (binD (gtF) (nameD 1) (cD (.int 0))) (asgS 0 (binD mulF (nameD 0) (nameD 0))) (nilS))))) (retS (nameD 2)))
def m__whole_power : DenF := ofBody 3 den__whole_power
theorem ok__whole_power {x : Tx} (t : TxOk x) {P : Program} {w : World} {base : Heap} (tb : Tb x base) : FnD P w x.fx x.mg base 1 x.a__whole_power x.fd__whole_power ["base", "number"] m__whole_power := by
  have sc := sc__whole_power
  exact fn_mk (k := 0) t.F__whole_power sc rfl fun cdv A outer s H E dc => (dss_cons (ds_set 2 sc.nd de_int) (dss_cons (ds_wl (fuelN 1) dc (dt_cmp gt_ok op_gt (de_name 1) de_int (nomark _)) (dss_cons (ds_if (dt_v (de_bin and_ok op_and (de_name 1) de_int)) (dss_one (ds_set 2 sc.nd (de_bin mul_ok opr_mul (de_name 2) (de_name 0)))) dss_nil) (dss_cons (ds_set 1 sc.nd (de_bin shr_ok op_shr (de_name 1) de_int)) (dss_one (ds_if (dt_cmp gt_ok op_gt (de_name 1) de_int (nomark _)) (dss_one (ds_set 0 sc.nd (de_bin mul_ok opr_mul (de_name 0) (de_name 0)))) dss_nil))))) (dss_one (ds_ret (de_name 2)))))
def den_power (rec : DenF) : DenS := seqS (ifS (binD (ltF) (nameD 1) (cD (.int 0))) (retS (fnD rec 2 [] (consA (fnD m_by 2 [] (consA (tupD (consA (cD (.int 1)) (consA (cD (.int 1)) (nilA)))) (consA (nameD 0) (nilA)))) (consA (unD negF (nameD 1)) (nilA))))) (nilS)) (seqS (asgG (nameD 0) (tupG 2 (consG (nameG 2) (consG (nameG 3) (nilG))))) (retS (tupD (consA (fnD m__whole_power 2 [] (consA (nameD 2) (consA (nameD 1) (nilA)))) (consA (fnD m__whole_power 2 [] (consA (nameD 3) (consA (nameD 1) (nilA)))) (nilA))))))
def m_power_ : Nat → DenF
  | 0 => fun _ _ => none
  | n + 1 => ofBody 4 (den_power (m_power_ n))
def m_power : DenF := m_power_ 2
theorem ok_power_ {x : Tx} (t : TxOk x) {P : Program} {w : World} {base : Heap} (tb : Tb x base) (n : Nat) : FnD P w x.fx x.mg base (3 + n) x.a_power x.fd_power ["one", "number"] (m_power_ n) := by
  induction n with
  | zero => exact FnD.stuck
  | succ n ih =>
    have sc := sc_power
    exact fn_mk (k := 3 + n) t.F_power sc rfl fun cdv A outer s H E dc => by
      have hrec := ih
      exact (dss_cons (ds_if (dt_cmp lt_ok op_lt (de_name 1) de_int (nomark _)) (dss_one (ds_ret (de_call (ps := ["one", "number"]) (hrec) dc t.g_power t.F_power.kp t.b_power .nil (fun _ _ => rfl) (da_cons (de_call (k := 2) (ps := ["one", "other"]) (ok_by t tb) (dc.mono (by omega)) t.g_by t.F_by.kp t.b_by .nil (fun _ _ => rfl) (da_cons (de_tup (da_cons de_int (da_cons de_int da_nil))) (da_cons (de_name 0) da_nil))) (da_cons (de_un neg_ok un_neg (de_name 1)) da_nil))))) dss_nil) (dss_cons (ds_asg (de_name 0) (dg_tup dc.calm (dgs_cons (dg_name 2 sc.nd) (dgs_cons (dg_name 3 sc.nd) dgs_nil)))) (dss_one (ds_ret (de_tup (da_cons (de_call (k := 1) (ps := ["base", "number"]) (ok__whole_power t tb) (dc.mono (by omega)) t.g__whole_power t.F__whole_power.kp t.b__whole_power .nil (fun _ _ => rfl) (da_cons (de_name 2) (da_cons (de_name 1) da_nil))) (da_cons (de_call (k := 1) (ps := ["base", "number"]) (ok__whole_power t tb) (dc.mono (by omega)) t.g__whole_power t.F__whole_power.kp t.b__whole_power .nil (fun _ _ => rfl) (da_cons (de_name 3) (da_cons (de_name 1) da_nil))) da_nil)))))))
theorem ok_power {x : Tx} (t : TxOk x) {P : Program} {w : World} {base : Heap} (tb : Tb x base) : FnD P w x.fx x.mg base 5 x.a_power x.fd_power ["one", "number"] m_power := ok_power_ t tb 2
def den__law_cell : DenS := seqS (asgG (binD addF (binD ixF (nameD 1) (cD (.int 0))) (cD (.int 1))) (subG (nameD 1) (cD (.int 0)))) (seqS (asgS 2 (binD ixF (nameD 1) (cD (.int 0)))) (seqS (asgS 3 (binD addF (binD mulF (binD mulF (cD (.int 31)) (nameD 2)) (nameD 2)) (binD mulF (cD (.int 7919)) (nameD 2)))) (seqS (ifS (andD (binD (gtF) (callD (lenF) (consA (nameD 0) (nilA))) (cD (.int 0))) (andD (binD (geF) (binD ixF (nameD 0) (binD fmodF (nameD 2) (callD (lenF) (consA (nameD 0) (nilA))))) (binD powF (cD (.int 10)) (cD (.int 18)))) (binD (ltF) (binD fdivF (nameD 2) (callD (lenF) (consA (nameD 0) (nilA)))) (cD (.int 60))))) (seqS (asgS 4 (binD ixF (nameD 0) (binD fmodF (nameD 2) (callD (lenF) (consA (nameD 0) (nilA)))))) (seqS (forR1 5 (consA (binD fdivF (nameD 2) (callD (lenF) (consA (nameD 0) (nilA)))) (nilA)) (asgS 4 (binD fdivF (nameD 4) (cD (.int 306783379))))) (ifS (binD (gtF) (nameD 4) (cD (.int 0))) (retS (binD fmodF (nameD 4) (cD (.int 306783379)))) (nilS)))) (nilS)) (seqS (ifS (binD (gtF) (callD (lenF) (consA (nameD 0) (nilA))) (cD (.int 0))) (asgS 3 (binD addF (nameD 3) (binD mulF (binD fmodF (binD ixF (nameD 0) (binD fmodF (nameD 2) (callD (lenF) (consA (nameD 0) (nilA))))) (cD (.int 2147483629))) (binD addF (cD (.int 1)) (binD fdivF (nameD 2) (callD (lenF) (consA (nameD 0) (nilA)))))))) (nilS)) (retS (binD fdivF (binD fmodF (binD powF (binD fmodF (nameD 3) (cD (.int 2147483647))) (cD (.int 5))) (cD (.int 2147483647))) (cD (.int 7))))))))
def m__law_cell : DenF := ofBody 6 den__law_cell
theorem ok__law_cell {x : Tx} (t : TxOk x) {P : Program} {w : World} {base : Heap} (tb : Tb x base) : FnD P w x.fx x.mg base 1 x.a__law_cell x.fd__law_cell ["cells", "spot"] m__law_cell := by
  have sc := sc__law_cell
  exact fn_mk (k := 0) t.F__law_cell sc rfl fun cdv A outer s H E dc => (dss_cons (ds_asg (de_bin add_ok opr_add (de_ix (de_name 1) de_int) de_int) (dg_sub (de_name 1) de_int)) (dss_cons (ds_set 2 sc.nd (de_ix (de_name 1) de_int)) (dss_cons (ds_set 3 sc.nd (de_bin add_ok opr_add (de_bin mul_ok opr_mul (de_bin mul_ok opr_mul de_int (de_name 2)) (de_name 2)) (de_bin mul_ok opr_mul de_int (de_name 2)))) (dss_cons (ds_if (DW.dt (dw_and (dt_cmp gt_ok op_gt (de_callB len_ok call_len t.m_len (da_cons (de_name 0) da_nil)) de_int (nomark _)) (dw_and (dt_cmp ge_ok op_ge (de_ix (de_name 0) (de_bin fmod_ok op_modN (de_name 2) (de_callB len_ok call_len t.m_len (da_cons (de_name 0) da_nil)))) (de_bin pow_ok opr_pow de_int de_int) (nomark _)) (dw_and1 (dt_cmp lt_ok op_lt (de_bin fdiv_ok opr_fdiv (de_name 2) (de_callB len_ok call_len t.m_len (da_cons (de_name 0) da_nil))) de_int (nomark _)))))) (dss_cons (ds_set 4 sc.nd (de_ix (de_name 0) (de_bin fmod_ok op_modN (de_name 2) (de_callB len_ok call_len t.m_len (da_cons (de_name 0) da_nil))))) (dss_cons (ds_forR1 5 dc t.m_range sc.nd (de_bin fdiv_ok opr_fdiv (de_name 2) (de_callB len_ok call_len t.m_len (da_cons (de_name 0) da_nil))) (dss_one (ds_set 4 sc.nd (de_bin fdiv_ok opr_fdiv (de_name 4) de_int)))) (dss_one (ds_if (dt_cmp gt_ok op_gt (de_name 4) de_int (nomark _)) (dss_one (ds_ret (de_bin fmod_ok op_modN (de_name 4) de_int))) dss_nil)))) dss_nil) (dss_cons (ds_if (dt_cmp gt_ok op_gt (de_callB len_ok call_len t.m_len (da_cons (de_name 0) da_nil)) de_int (nomark _)) (dss_one (ds_set 3 sc.nd (de_bin add_ok opr_add (de_name 3) (de_bin mul_ok opr_mul (de_bin fmod_ok op_modN (de_ix (de_name 0) (de_bin fmod_ok op_modN (de_name 2) (de_callB len_ok call_len t.m_len (da_cons (de_name 0) da_nil)))) de_int) (de_bin add_ok opr_add de_int (de_bin fdiv_ok opr_fdiv (de_name 2) (de_callB len_ok call_len t.m_len (da_cons (de_name 0) da_nil)))))))) dss_nil) (dss_one (ds_ret (de_bin fdiv_ok opr_fdiv (de_bin fmod_ok op_modN (de_bin pow_ok opr_pow (de_bin fmod_ok op_modN (de_name 3) de_int) de_int) de_int) de_int))))))))
def den__law_low : DenS := seqS (parS 2 3 (callD (absF) (consA (nameD 0) (nilA))) (callD (absF) (consA (nameD 1) (nilA)))) (seqS (wlS (fuelN 3) (binD (neF) (nameD 3) (cD (.int 0))) (parS 2 3 (nameD 3) (binD fmodF (nameD 2) (nameD 3)))) (seqS (asgS 4 (brD (binD (gtF) (nameD 1) (cD (.int 0))) (nameD 2) (binD subF (cD (.int 0)) (nameD 2)))) (retS (tupD (consA (binD fdivF (nameD 0) (nameD 4)) (consA (binD fdivF (nameD 1) (nameD 4)) (nilA)))))))
def m__law_low : DenF := ofBody 5 den__law_low
theorem ok__law_low {x : Tx} (t : TxOk x) {P : Program} {w : World} {base : Heap} (tb : Tb x base) : FnD P w x.fx x.mg base 1 x.a__law_low x.fd__law_low ["above", "below"] m__law_low := by
  have sc := sc__law_low
  exact fn_mk (k := 0) t.F__law_low sc rfl fun cdv A outer s H E dc => (dss_cons (ds_par 2 3 dc.calm sc.nd (de_callB abs_ok call_abs t.m_abs (da_cons (de_name 0) da_nil)) (de_callB abs_ok call_abs t.m_abs (da_cons (de_name 1) da_nil))) (dss_cons (ds_wl (fuelN 3) dc (dt_cmp ne_ok (opr_ne dc.u64) (de_name 3) de_int (nomark _)) (dss_one (ds_par 2 3 dc.calm sc.nd (de_name 3) (de_bin fmod_ok op_modN (de_name 2) (de_name 3))))) (dss_cons (ds_set 4 sc.nd (de_ifExp (dt_cmp gt_ok op_gt (de_name 1) de_int (nomark _)) (de_name 2) (de_bin sub_ok op_sub de_int (de_name 2)))) (dss_one (ds_ret (de_tup (da_cons (de_bin fdiv_ok opr_fdiv (de_name 0) (de_name 4)) (da_cons (de_bin fdiv_ok opr_fdiv (de_name 1) (de_name 4)) da_nil))))))))
def den__law_plus : DenS := retS (fnD m__law_low 2 [] (consA (binD addF (binD mulF (binD ixF (nameD 0) (cD (.int 0))) (binD ixF (nameD 1) (cD (.int 1)))) (binD mulF (binD ixF (nameD 1) (cD (.int 0))) (binD ixF (nameD 0) (cD (.int 1))))) (consA (binD mulF (binD ixF (nameD 0) (cD (.int 1))) (binD ixF (nameD 1) (cD (.int 1)))) (nilA))))
def m__law_plus : DenF := ofBody 2 den__law_plus
theorem ok__law_plus {x : Tx} (t : TxOk x) {P : Program} {w : World} {base : Heap} (tb : Tb x base) : FnD P w x.fx x.mg base 2 x.a__law_plus x.fd__law_plus ["one", "other"] m__law_plus := by
  have sc := sc__law_plus
  exact fn_mk (k := 1) t.F__law_plus sc rfl fun cdv A outer s H E dc => (dss_one (ds_ret (de_call (k := 1) (ps := ["above", "below"]) (ok__law_low t tb) (dc.mono (by decide)) t.g__law_low t.F__law_low.kp t.b__law_low .nil (fun _ _ => rfl) (da_cons (de_bin add_ok opr_add (de_bin mul_ok opr_mul (de_ix (de_name 0) de_int) (de_ix (de_name 1) de_int)) (de_bin mul_ok opr_mul (de_ix (de_name 1) de_int) (de_ix (de_name 0) de_int))) (da_cons (de_bin mul_ok opr_mul (de_ix (de_name 0) de_int) (de_ix (de_name 1) de_int)) da_nil)))))
def den__law_times : DenS := retS (fnD m__law_low 2 [] (consA (binD mulF (binD ixF (nameD 0) (cD (.int 0))) (binD ixF (nameD 1) (cD (.int 0)))) (consA (binD mulF (binD ixF (nameD 0) (cD (.int 1))) (binD ixF (nameD 1) (cD (.int 1)))) (nilA))))
def m__law_times : DenF := ofBody 2 den__law_times
theorem ok__law_times {x : Tx} (t : TxOk x) {P : Program} {w : World} {base : Heap} (tb : Tb x base) : FnD P w x.fx x.mg base 2 x.a__law_times x.fd__law_times ["one", "other"] m__law_times := by
  have sc := sc__law_times
  exact fn_mk (k := 1) t.F__law_times sc rfl fun cdv A outer s H E dc => (dss_one (ds_ret (de_call (k := 1) (ps := ["above", "below"]) (ok__law_low t tb) (dc.mono (by decide)) t.g__law_low t.F__law_low.kp t.b__law_low .nil (fun _ _ => rfl) (da_cons (de_bin mul_ok opr_mul (de_ix (de_name 0) de_int) (de_ix (de_name 1) de_int)) (da_cons (de_bin mul_ok opr_mul (de_ix (de_name 0) de_int) (de_ix (de_name 1) de_int)) da_nil)))))
def den__law_by : DenS := retS (fnD m__law_low 2 [] (consA (binD mulF (binD ixF (nameD 0) (cD (.int 0))) (binD ixF (nameD 1) (cD (.int 1)))) (consA (binD mulF (binD ixF (nameD 0) (cD (.int 1))) (binD ixF (nameD 1) (cD (.int 0)))) (nilA))))
def m__law_by : DenF := ofBody 2 den__law_by
theorem ok__law_by {x : Tx} (t : TxOk x) {P : Program} {w : World} {base : Heap} (tb : Tb x base) : FnD P w x.fx x.mg base 2 x.a__law_by x.fd__law_by ["one", "other"] m__law_by := by
  have sc := sc__law_by
  exact fn_mk (k := 1) t.F__law_by sc rfl fun cdv A outer s H E dc => (dss_one (ds_ret (de_call (k := 1) (ps := ["above", "below"]) (ok__law_low t tb) (dc.mono (by decide)) t.g__law_low t.F__law_low.kp t.b__law_low .nil (fun _ _ => rfl) (da_cons (de_bin mul_ok opr_mul (de_ix (de_name 0) de_int) (de_ix (de_name 1) de_int)) (da_cons (de_bin mul_ok opr_mul (de_ix (de_name 0) de_int) (de_ix (de_name 1) de_int)) da_nil)))))
def den__law_number : DenS := seqS (asgS 2 (fnD m__law_cell 2 [] (consA (nameD 0) (consA (nameD 1) (nilA))))) (seqS (asgS 3 (binD subF (cD (.int 1)) (binD mulF (binD fmodF (binD fdivF (nameD 2) (cD (.int 7))) (cD (.int 2))) (cD (.int 2))))) (seqS (asgS 4 (binD addF (binD mulF (nameD 2) (fnD m__law_cell 2 [] (consA (nameD 0) (consA (nameD 1) (nilA))))) (cD (.int 1)))) (retS (binD mulF (binD ixF (lstD (consA (binD fmodF (nameD 2) (cD (.int 10))) (consA (binD fmodF (nameD 2) (cD (.int 1000))) (consA (nameD 2) (consA (nameD 4) (consA (binD powF (nameD 4) (cD (.int 3))) (consA (cD (.int 0)) (consA (cD (.int 1)) (nilA))))))))) (binD fmodF (nameD 2) (cD (.int 7)))) (nameD 3)))))
def m__law_number : DenF := ofBody 5 den__law_number
theorem ok__law_number {x : Tx} (t : TxOk x) {P : Program} {w : World} {base : Heap} (tb : Tb x base) : FnD P w x.fx x.mg base 2 x.a__law_number x.fd__law_number ["cells", "spot"] m__law_number := by
  have sc := sc__law_number
  exact fn_mk (k := 1) t.F__law_number sc rfl fun cdv A outer s H E dc => (dss_cons (ds_set 2 sc.nd (de_call (k := 1) (ps := ["cells", "spot"]) (ok__law_cell t tb) (dc.mono (by decide)) t.g__law_cell t.F__law_cell.kp t.b__law_cell .nil (fun _ _ => rfl) (da_cons (de_name 0) (da_cons (de_name 1) da_nil)))) (dss_cons (ds_set 3 sc.nd (de_bin sub_ok op_sub de_int (de_bin mul_ok opr_mul (de_bin fmod_ok op_modN (de_bin fdiv_ok opr_fdiv (de_name 2) de_int) de_int) de_int))) (dss_cons (ds_set 4 sc.nd (de_bin add_ok opr_add (de_bin mul_ok opr_mul (de_name 2) (de_call (k := 1) (ps := ["cells", "spot"]) (ok__law_cell t tb) (dc.mono (by decide)) t.g__law_cell t.F__law_cell.kp t.b__law_cell .nil (fun _ _ => rfl) (da_cons (de_name 0) (da_cons (de_name 1) da_nil)))) de_int)) (dss_one (ds_ret (de_bin mul_ok opr_mul (de_ix (de_lst (da_cons (de_bin fmod_ok op_modN (de_name 2) de_int) (da_cons (de_bin fmod_ok op_modN (de_name 2) de_int) (da_cons (de_name 2) (da_cons (de_name 4) (da_cons (de_bin pow_ok opr_pow (de_name 4) de_int) (da_cons de_int (da_cons de_int da_nil)))))))) (de_bin fmod_ok op_modN (de_name 2) de_int)) (de_name 3)))))))
def den__law_power : DenS := seqS (asgS 2 (tupD (consA (cD (.int 1)) (consA (cD (.int 1)) (nilA))))) (seqS (forR1 3 (consA (callD (absF) (consA (nameD 1) (nilA))) (nilA)) (asgS 2 (fnD m__law_times 2 [] (consA (nameD 2) (consA (nameD 0) (nilA)))))) (retS (brD (binD (ltF) (nameD 1) (cD (.int 0))) (fnD m__law_by 2 [] (consA (tupD (consA (cD (.int 1)) (consA (cD (.int 1)) (nilA)))) (consA (nameD 2) (nilA)))) (nameD 2))))
def m__law_power : DenF := ofBody 4 den__law_power
theorem ok__law_power {x : Tx} (t : TxOk x) {P : Program} {w : World} {base : Heap} (tb : Tb x base) : FnD P w x.fx x.mg base 3 x.a__law_power x.fd__law_power ["one", "number"] m__law_power := by
  have sc := sc__law_power
  exact fn_mk (k := 2) t.F__law_power sc rfl fun cdv A outer s H E dc => (dss_cons (ds_set 2 sc.nd (de_tup (da_cons de_int (da_cons de_int da_nil)))) (dss_cons (ds_forR1 3 dc t.m_range sc.nd (de_callB abs_ok call_abs t.m_abs (da_cons (de_name 1) da_nil)) (dss_one (ds_set 2 sc.nd (de_call (k := 2) (ps := ["one", "other"]) (ok__law_times t tb) (dc.mono (by decide)) t.g__law_times t.F__law_times.kp t.b__law_times .nil (fun _ _ => rfl) (da_cons (de_name 2) (da_cons (de_name 0) da_nil)))))) (dss_one (ds_ret (de_ifExp (dt_cmp lt_ok op_lt (de_name 1) de_int (nomark _)) (de_call (k := 2) (ps := ["one", "other"]) (ok__law_by t tb) (dc.mono (by decide)) t.g__law_by t.F__law_by.kp t.b__law_by .nil (fun _ _ => rfl) (da_cons (de_tup (da_cons de_int (da_cons de_int da_nil))) (da_cons (de_name 2) da_nil))) (de_name 2))))))
noncomputable def den__law_refused (cl : D) (cden : Store → RE) : DenS := seqS (asgS 1 (cD .non)) (seqS (tryS 2 catT (dropS (callC 0 cl cden)) (asgS 1 (nameD 2))) (seqS (asgS 3 (lstD (consA (callD (isiA subT) (consA (nameD 1) (consA (cD (.cls "BadFraction")) (nilA)))) (consA (callD (isiA subT) (consA (nameD 1) (consA (cD (.ty "ValueError")) (nilA)))) (nilA))))) (retS (andD (binD (eqF) (nameD 3) (lstD (consA (cD (.bl true)) (consA (cD (.bl true)) (nilA))))) (unD notF (callD (isiA subT) (consA (nameD 1) (consA (cD (.cls "BadRule")) (nilA)))))))))
theorem ok__law_refused {x : Tx} (t : TxOk x) {P : Program} {w : World} {base : Heap} {A : Around} {stk : List PySem.Env} {s : Shared} {H : Hp} {cdg : Value} {k : Nat} (cl : D) (cden : Store → RE) (dc : Dc (cxOf (L2.CX P w) P w x.fx.K x.mg base ["deed", "wrong", "error", "kinds"] "_law_refused" (defScope s__law_refused) x.a__law_refused cdg A stk s H E0) (fun cls d _ H => E0 cls d H) k)
    (act : ∀ (W1 : WX) (pn : List (Addr × Obj)) (xe : Value → Shared → Prop) (p1 p2 : Pos), Dc ((cxOf (L2.CX P w) P w x.fx.K x.mg base ["deed", "wrong", "error", "kinds"] "_law_refused" (defScope s__law_refused) x.a__law_refused cdg A stk s H E0).tr pn xe) W1 k → DE x.fx ((cxOf (L2.CX P w) P w x.fx.K x.mg base ["deed", "wrong", "error", "kinds"] "_law_refused" (defScope s__law_refused) x.a__law_refused cdg A stk s H E0).tr pn xe) W1 (.Call (.Name "deed" p1) [] [] p2) (callC 0 cl cden)) :
    DSs x.fx (cxOf (L2.CX P w) P w x.fx.K x.mg base ["deed", "wrong", "error", "kinds"] "_law_refused" (defScope s__law_refused) x.a__law_refused cdg A stk s H E0) (fun cls d _ H => E0 cls d H) (defBody s__law_refused) (den__law_refused cl cden) := by
  have sc := sc__law_refused
  exact (dss_cons (ds_set 1 sc.nd de_non) (dss_cons (ds_try 2 catT dc rfl rfl rfl sc.nd rfl rfl (cla_tup3 (ct := x.cv) ⟨rfl, t.g_HollowError⟩ ⟨rfl, t.g_DeedError⟩ ⟨rfl, t.g_BookError⟩ (fun _ => of_decide_eq_true)) t.hcat (fun W1 pn1 xe1 d1 => (dss_one (ds_expr (act W1 pn1 xe1 _ _ d1)))) (fun a1 pn1 => (dss_one (ds_set 1 sc.nd (de_name 2))))) (dss_cons (ds_set 3 sc.nd (de_lst (da_cons (de_callB (isiA_ok t.h_sub t.sub_cls) callr_isi t.m_isinstance (da_cons (de_name 1) (da_cons (de_own "BadFraction" (t.h_cl_BadFraction) t.g_BadFraction) da_nil))) (da_cons (de_callB (isiA_ok t.h_sub t.sub_cls) callr_isi t.m_isinstance (da_cons (de_name 1) (da_cons (de_cls t.m_ValueError) da_nil))) da_nil)))) (dss_one (ds_ret (de_and (de_cmp eq_ok (opr_eq dc.u64) (de_name 3) (de_lst (da_cons de_bl (da_cons de_bl da_nil))) (nomark _)) (de_one (de_not (de_callB (isiA_ok t.h_sub t.sub_cls) callr_isi t.m_isinstance (da_cons (de_name 1) (da_cons (de_own "BadRule" (t.h_cl_BadRule) t.g_BadRule) da_nil)))))))))))
/-- what is refused as BadFraction is well refused -/
def gd__law_refused (cden : Store → RE) (M : Store) : RE := match cden M with
  | some (.exc c [], M1) => if c = "BadFraction" then some (.val (.bl true), M1) else none
  | _ => none
theorem gd__law_refused_eq (cl : D) (cden : Store → RE) (M : Store) : gd__law_refused cden M = none ∨ ofBody 4 (den__law_refused cl cden) [cl] M = gd__law_refused cden M := by
  unfold gd__law_refused
  split
  · rename_i c M1 hc
    by_cases h : c = "BadFraction"
    · subst h
      right
      rw [if_pos rfl]
      simp [ofBody, den__law_refused, seqS, asgS, thenS, cD, ok, tryS, dropS, callC, sufS, hc]
      rfl
    · left
      rw [if_neg h]
  · left
    rfl
def den__law_is_one : DenS := seqS (ifS (orD (unD notF (tstD (callD (isiA subT) (consA (nameD 0) (consA (cD (.ty "tuple")) (nilA)))))) (binD (neF) (callD (lenF) (consA (nameD 0) (nilA))) (cD (.int 2)))) (retS (cD (.bl false))) (nilS)) (seqS (forTS 1 (nameD 0) (ifS (orD (unD notF (tstD (callD (isiA subT) (consA (nameD 1) (consA (cD (.ty "int")) (nilA)))))) (tstD (callD (isiA subT) (consA (nameD 1) (consA (cD (.ty "bool")) (nilA)))))) (retS (cD (.bl false))) (nilS))) (retS (andD (binD (gtF) (binD ixF (nameD 0) (cD (.int 1))) (cD (.int 0))) (binD (eqF) (fnD m__law_low 2 [] (consA (binD ixF (nameD 0) (cD (.int 0))) (consA (binD ixF (nameD 0) (cD (.int 1))) (nilA)))) (nameD 0)))))
def m__law_is_one : DenF := ofBody 2 den__law_is_one
theorem ok__law_is_one {x : Tx} (t : TxOk x) {P : Program} {w : World} {base : Heap} (tb : Tb x base) : FnD P w x.fx x.mg base 2 x.a__law_is_one x.fd__law_is_one ["thing"] m__law_is_one := by
  have sc := sc__law_is_one
  exact fn_mk (k := 1) t.F__law_is_one sc rfl fun cdv A outer s H E dc => (dss_cons (ds_if (DW.dt (dw_or (dt_not (dt_v (de_callB (isiA_ok t.h_sub t.sub_cls) callr_isi t.m_isinstance (da_cons (de_name 0) (da_cons (de_cls t.m_tuple) da_nil))))) (dw_or1 (dt_cmp ne_ok (opr_ne dc.u64) (de_callB len_ok call_len t.m_len (da_cons (de_name 0) da_nil)) de_int (nomark _))))) (dss_one (ds_ret de_bl)) dss_nil) (dss_cons (ds_forT 1 dc sc.nd (de_name 0) (dss_one (ds_if (DW.dt (dw_or (dt_not (dt_v (de_callB (isiA_ok t.h_sub t.sub_cls) callr_isi t.m_isinstance (da_cons (de_name 1) (da_cons (de_cls t.m_int) da_nil))))) (dw_or1 (dt_v (de_callB (isiA_ok t.h_sub t.sub_cls) callr_isi t.m_isinstance (da_cons (de_name 1) (da_cons (de_cls t.m_bool) da_nil))))))) (dss_one (ds_ret de_bl)) dss_nil))) (dss_one (ds_ret (de_and (de_cmp gt_ok op_gt (de_ix (de_name 0) de_int) de_int (nomark _)) (de_one (de_cmp eq_ok (opr_eq dc.u64) (de_call (k := 1) (ps := ["above", "below"]) (ok__law_low t tb) (dc.mono (by decide)) t.g__law_low t.F__law_low.kp t.b__law_low .nil (fun _ _ => rfl) (da_cons (de_ix (de_name 0) de_int) (da_cons (de_ix (de_name 0) de_int) da_nil))) (de_name 0) (nomark _))))))))
def den__law_things : DenS := seqS (asgG (nameD 0) (tupG 2 (consG (nameG 2) (consG (nameG 3) (nilG))))) (seqS (asgS 4 (lstD (consA (nameD 0) (consA (tupD (consA (nameD 2) (consA (binD addF (nameD 3) (cD (.int 1))) (nilA)))) (consA (tupD (consA (binD addF (nameD 2) (cD (.int 1))) (consA (nameD 3) (nilA)))) (consA (tupD (consA (binD mulF (cD (.int 2)) (nameD 2)) (consA (binD mulF (cD (.int 2)) (nameD 3)) (nilA)))) (nilA))))))) (seqS (asgS 4 (binD addF (nameD 4) (lstD (consA (tupD (consA (binD subF (cD (.int 0)) (nameD 2)) (consA (binD subF (cD (.int 0)) (nameD 3)) (nilA)))) (consA (tupD (consA (nameD 2) (consA (cD (.int 0)) (nilA)))) (consA (tupD (consA (nameD 2) (nilA))) (nilA))))))) (seqS (asgS 4 (binD addF (nameD 4) (lstD (consA (tupD (consA (nameD 2) (consA (nameD 3) (consA (cD (.int 1)) (nilA))))) (consA (lstD (consA (nameD 2) (consA (nameD 3) (nilA)))) (consA (nameD 2) (nilA))))))) (seqS (asgS 4 (binD addF (nameD 4) (lstD (consA (tupD (consA (callD (strF) (consA (nameD 2) (nilA))) (consA (nameD 3) (nilA)))) (consA (tupD (consA (nameD 2) (consA (callD (strF) (consA (nameD 3) (nilA))) (nilA)))) (nilA)))))) (seqS (asgS 4 (binD addF (nameD 4) (lstD (consA (tupD (consA (cD (.bl true)) (consA (cD (.int 1)) (nilA)))) (consA (tupD (consA (cD (.int 1)) (consA (cD (.bl true)) (nilA)))) (consA (tupD (consA (cD (.bl false)) (consA (cD (.int 1)) (nilA)))) (consA (tupD (consA (cD (.int 0)) (consA (cD (.int 1)) (nilA)))) (consA (tupD (consA (cD (.int 0)) (consA (cD (.int 2)) (nilA)))) (consA (tupD (consA (cD (.int 0)) (consA (cD (.int 0)) (nilA)))) (consA (cD .non) (consA (cD (.str "1/2")) (nilA)))))))))))) (seqS (asgS 4 (binD addF (nameD 4) (lstD (consA (empD) (consA (tupD (nilA)) (consA (tupD (consA (tupD (consA (cD (.int 1)) (consA (cD (.int 1)) (nilA)))) (consA (cD (.int 1)) (nilA)))) (consA (tupD (consA (cD .non) (consA (cD (.int 1)) (nilA)))) (nilA)))))))) (retS (binD addF (slD (nameD 4) (someO (binD fmodF (nameD 1) (cD (.int 5)))) (noneO) (someO (cD (.int 5)))) (slD (nameD 4) (noneO) (someO (cD (.int 3))) (noneO))))))))))
def m__law_things : DenF := ofBody 5 den__law_things
theorem ok__law_things {x : Tx} (t : TxOk x) {P : Program} {w : World} {base : Heap} (tb : Tb x base) : FnD P w x.fx x.mg base 1 x.a__law_things x.fd__law_things ["one", "n"] m__law_things := by
  have sc := sc__law_things
  exact fn_mk (k := 0) t.F__law_things sc rfl fun cdv A outer s H E dc => (dss_cons (ds_asg (de_name 0) (dg_tup dc.calm (dgs_cons (dg_name 2 sc.nd) (dgs_cons (dg_name 3 sc.nd) dgs_nil)))) (dss_cons (ds_set 4 sc.nd (de_lst (da_cons (de_name 0) (da_cons (de_tup (da_cons (de_name 2) (da_cons (de_bin add_ok opr_add (de_name 3) de_int) da_nil))) (da_cons (de_tup (da_cons (de_bin add_ok opr_add (de_name 2) de_int) (da_cons (de_name 3) da_nil))) (da_cons (de_tup (da_cons (de_bin mul_ok opr_mul de_int (de_name 2)) (da_cons (de_bin mul_ok opr_mul de_int (de_name 3)) da_nil))) da_nil)))))) (dss_cons (ds_set 4 sc.nd (de_bin add_ok opr_add (de_name 4) (de_lst (da_cons (de_tup (da_cons (de_bin sub_ok op_sub de_int (de_name 2)) (da_cons (de_bin sub_ok op_sub de_int (de_name 3)) da_nil))) (da_cons (de_tup (da_cons (de_name 2) (da_cons de_int da_nil))) (da_cons (de_tup (da_cons (de_name 2) da_nil)) da_nil)))))) (dss_cons (ds_set 4 sc.nd (de_bin add_ok opr_add (de_name 4) (de_lst (da_cons (de_tup (da_cons (de_name 2) (da_cons (de_name 3) (da_cons de_int da_nil)))) (da_cons (de_lst (da_cons (de_name 2) (da_cons (de_name 3) da_nil))) (da_cons (de_name 2) da_nil)))))) (dss_cons (ds_set 4 sc.nd (de_bin add_ok opr_add (de_name 4) (de_lst (da_cons (de_tup (da_cons (de_callTy strc_ok call_str_int t.m_str (da_cons (de_name 2) da_nil)) (da_cons (de_name 3) da_nil))) (da_cons (de_tup (da_cons (de_name 2) (da_cons (de_callTy strc_ok call_str_int t.m_str (da_cons (de_name 3) da_nil)) da_nil))) da_nil))))) (dss_cons (ds_set 4 sc.nd (de_bin add_ok opr_add (de_name 4) (de_lst (da_cons (de_tup (da_cons de_bl (da_cons de_int da_nil))) (da_cons (de_tup (da_cons de_int (da_cons de_bl da_nil))) (da_cons (de_tup (da_cons de_bl (da_cons de_int da_nil))) (da_cons (de_tup (da_cons de_int (da_cons de_int da_nil))) (da_cons (de_tup (da_cons de_int (da_cons de_int da_nil))) (da_cons (de_tup (da_cons de_int (da_cons de_int da_nil))) (da_cons de_non (da_cons de_str da_nil))))))))))) (dss_cons (ds_set 4 sc.nd (de_bin add_ok opr_add (de_name 4) (de_lst (da_cons de_emp (da_cons (de_tup da_nil) (da_cons (de_tup (da_cons (de_tup (da_cons de_int (da_cons de_int da_nil))) (da_cons de_int da_nil))) (da_cons (de_tup (da_cons de_non (da_cons de_int da_nil))) da_nil))))))) (dss_one (ds_ret (de_bin add_ok opr_add (de_sl (de_name 4) (do_so (de_bin fmod_ok op_modN (de_name 1) de_int)) do_no (do_so de_int)) (de_sl (de_name 4) do_no (do_so de_int) do_no)))))))))))
def den__law_pair_right : DenS := seqS (ownS 3 (consA (fnD m_plus 2 [] (consA (nameD 0) (consA (nameD 1) (nilA)))) (consA (fnD m_less 2 [] (consA (nameD 0) (consA (nameD 1) (nilA)))) (consA (fnD m_times 2 [] (consA (nameD 0) (consA (nameD 1) (nilA)))) (nilA))))) (seqS (asgS 4 (callD (absF) (consA (nameD 2) (nilA)))) (seqS (asgS 5 (lstD (consA (fnD m__law_plus 2 [] (consA (nameD 0) (consA (nameD 1) (nilA)))) (consA (fnD m__law_plus 2 [] (consA (nameD 0) (consA (tupD (consA (binD subF (cD (.int 0)) (binD ixF (nameD 1) (cD (.int 0)))) (consA (binD ixF (nameD 1) (cD (.int 1))) (nilA)))) (nilA)))) (nilA))))) (seqS (asgS 5 (binD addF (nameD 5) (lstD (consA (fnD m__law_times 2 [] (consA (nameD 0) (consA (nameD 1) (nilA)))) (consA (fnD m__law_power 2 [] (consA (nameD 0) (consA (nameD 4) (nilA)))) (nilA)))))) (seqS (appS (nameD 3) (fnD m_power 2 [] (consA (nameD 0) (consA (nameD 4) (nilA))))) (seqS (ifS (binD (neF) (callD (reprF) (consA (nameD 3) (nilA))) (callD (reprF) (consA (nameD 5) (nilA)))) (retS (cD (.bl false))) (nilS)) (seqS (ifS (binD (eqF) (binD ixF (nameD 1) (cD (.int 0))) (cD (.int 0))) (seqS (asgS 6 (lamD gd__law_refused (fnD m_by 2 [] (consA (nameD 0) (consA (nameD 1) (nilA)))))) (retS (andD (nameD 6) (lamD gd__law_refused (fnD m_power 2 [] (consA (nameD 1) (consA (binD subF (binD subF (cD (.int 0)) (cD (.int 1))) (nameD 4)) (nilA)))))))) (nilS)) (seqS (ownS 3 (consA (fnD m_by 2 [] (consA (nameD 0) (consA (nameD 1) (nilA)))) (consA (fnD m_power 2 [] (consA (nameD 1) (consA (nameD 2) (nilA)))) (nilA)))) (retS (binD (eqF) (callD (reprF) (consA (nameD 3) (nilA))) (callD (reprF) (consA (lstD (consA (fnD m__law_by 2 [] (consA (nameD 0) (consA (nameD 1) (nilA)))) (consA (fnD m__law_power 2 [] (consA (nameD 1) (consA (nameD 2) (nilA)))) (nilA)))) (nilA))))))))))))
def m__law_pair_right : DenF := ofBody 7 den__law_pair_right
theorem ok__law_pair_right {x : Tx} (t : TxOk x) {P : Program} {w : World} {base : Heap} (tb : Tb x base) : FnD P w x.fx x.mg base 10 x.a__law_pair_right x.fd__law_pair_right ["one", "other", "number"] m__law_pair_right := by
  have sc := sc__law_pair_right
  exact fn_mkC (k := 9) t.F__law_pair_right t.code__law_pair_right sc rfl fun A outer s H E dc => (dss_cons (ds_own 3 sc.nd (da_cons (de_call (k := 1) (ps := ["one", "other"]) (ok_plus t tb) (dc.mono (by decide)) t.g_plus t.F_plus.kp t.b_plus .nil (fun _ _ => rfl) (da_cons (de_name 0) (da_cons (de_name 1) da_nil))) (da_cons (de_call (k := 2) (ps := ["one", "other"]) (ok_less t tb) (dc.mono (by decide)) t.g_less t.F_less.kp t.b_less .nil (fun _ _ => rfl) (da_cons (de_name 0) (da_cons (de_name 1) da_nil))) (da_cons (de_call (k := 1) (ps := ["one", "other"]) (ok_times t tb) (dc.mono (by decide)) t.g_times t.F_times.kp t.b_times .nil (fun _ _ => rfl) (da_cons (de_name 0) (da_cons (de_name 1) da_nil))) da_nil)))) (dss_cons (ds_set 4 sc.nd (de_callB abs_ok call_abs t.m_abs (da_cons (de_name 2) da_nil))) (dss_cons (ds_set 5 sc.nd (de_lst (da_cons (de_call (k := 2) (ps := ["one", "other"]) (ok__law_plus t tb) (dc.mono (by decide)) t.g__law_plus t.F__law_plus.kp t.b__law_plus .nil (fun _ _ => rfl) (da_cons (de_name 0) (da_cons (de_name 1) da_nil))) (da_cons (de_call (k := 2) (ps := ["one", "other"]) (ok__law_plus t tb) (dc.mono (by decide)) t.g__law_plus t.F__law_plus.kp t.b__law_plus .nil (fun _ _ => rfl) (da_cons (de_name 0) (da_cons (de_tup (da_cons (de_bin sub_ok op_sub de_int (de_ix (de_name 1) de_int)) (da_cons (de_ix (de_name 1) de_int) da_nil))) da_nil))) da_nil)))) (dss_cons (ds_set 5 sc.nd (de_bin add_ok opr_add (de_name 5) (de_lst (da_cons (de_call (k := 2) (ps := ["one", "other"]) (ok__law_times t tb) (dc.mono (by decide)) t.g__law_times t.F__law_times.kp t.b__law_times .nil (fun _ _ => rfl) (da_cons (de_name 0) (da_cons (de_name 1) da_nil))) (da_cons (de_call (k := 3) (ps := ["one", "number"]) (ok__law_power t tb) (dc.mono (by decide)) t.g__law_power t.F__law_power.kp t.b__law_power .nil (fun _ _ => rfl) (da_cons (de_name 0) (da_cons (de_name 4) da_nil))) da_nil))))) (dss_cons (ds_app (de_name 3) (de_call (k := 5) (ps := ["one", "number"]) (ok_power t tb) (dc.mono (by decide)) t.g_power t.F_power.kp t.b_power .nil (fun _ _ => rfl) (da_cons (de_name 0) (da_cons (de_name 4) da_nil)))) (dss_cons (ds_if (dt_cmp ne_ok (opr_ne dc.u64) (de_callB repr_ok (callr_repr dc.gd dc.u64) t.m_repr (da_cons (de_name 3) da_nil)) (de_callB repr_ok (callr_repr dc.gd dc.u64) t.m_repr (da_cons (de_name 5) da_nil)) (nomark _)) (dss_one (ds_ret de_bl)) dss_nil) (dss_cons (ds_if (dt_cmp eq_ok (opr_eq dc.u64) (de_ix (de_name 1) de_int) de_int (nomark _)) (dss_cons (ds_set 6 sc.nd (de_lam (k := 6) (dc.mono (by decide)) t.g__law_refused t.F__law_refused t.b__law_refused sc__law_refused rfl (tb.b__law_pair_right) rfl qual_cx t.inT__law_pair_right t.uniq__law_pair_right (LamX.lamS_by (sc := defScope s__law_pair_right) (by decide +kernel)) (fun A1 outer1 s1 H1 E1 f1 c1 dl => (de_call (k := 2) (ps := ["one", "other"]) (ok_by t tb) (dl.mono (by decide)) t.g_by t.F_by.kp t.b_by .nil (fun _ _ => rfl) (da_cons (de_name 0) (da_cons (de_name 1) da_nil)))) (fun _ _ _ cl cden dcz actz => ok__law_refused t cl cden dcz actz) gd__law_refused_eq (fun _ _ _ _ _ => rfl))) (dss_one (ds_ret (de_and (de_name 6) (de_one (de_lam (k := 6) (dc.mono (by decide)) t.g__law_refused t.F__law_refused t.b__law_refused sc__law_refused rfl (tb.b__law_pair_right) rfl qual_cx t.inT__law_pair_right t.uniq__law_pair_right (LamX.lamS_by (sc := defScope s__law_pair_right) (by decide +kernel)) (fun A1 outer1 s1 H1 E1 f1 c1 dl => (de_call (k := 5) (ps := ["one", "number"]) (ok_power t tb) (dl.mono (by decide)) t.g_power t.F_power.kp t.b_power .nil (fun _ _ => rfl) (da_cons (de_name 1) (da_cons (de_bin sub_ok op_sub (de_bin sub_ok op_sub de_int de_int) (de_name 4)) da_nil)))) (fun _ _ _ cl cden dcz actz => ok__law_refused t cl cden dcz actz) gd__law_refused_eq (fun _ _ _ _ _ => rfl))))))) dss_nil) (dss_cons (ds_own 3 sc.nd (da_cons (de_call (k := 2) (ps := ["one", "other"]) (ok_by t tb) (dc.mono (by decide)) t.g_by t.F_by.kp t.b_by .nil (fun _ _ => rfl) (da_cons (de_name 0) (da_cons (de_name 1) da_nil))) (da_cons (de_call (k := 5) (ps := ["one", "number"]) (ok_power t tb) (dc.mono (by decide)) t.g_power t.F_power.kp t.b_power .nil (fun _ _ => rfl) (da_cons (de_name 1) (da_cons (de_name 2) da_nil))) da_nil))) (dss_one (ds_ret (de_cmp eq_ok (opr_eq dc.u64) (de_callB repr_ok (callr_repr dc.gd dc.u64) t.m_repr (da_cons (de_name 3) da_nil)) (de_callB repr_ok (callr_repr dc.gd dc.u64) t.m_repr (da_cons (de_lst (da_cons (de_call (k := 2) (ps := ["one", "other"]) (ok__law_by t tb) (dc.mono (by decide)) t.g__law_by t.F__law_by.kp t.b__law_by .nil (fun _ _ => rfl) (da_cons (de_name 0) (da_cons (de_name 1) da_nil))) (da_cons (de_call (k := 3) (ps := ["one", "number"]) (ok__law_power t tb) (dc.mono (by decide)) t.g__law_power t.F__law_power.kp t.b__law_power .nil (fun _ _ => rfl) (da_cons (de_name 1) (da_cons (de_name 2) da_nil))) da_nil))) da_nil)) (nomark _))))))))))))
def den_law : DenS := seqS (ownS 1 (consA (cD (.int 0)) (nilA))) (seqS (forR1 2 (consA (binD addF (cD (.int 3)) (callD (minF) (consA (cD (.int 9)) (consA (callD (lenF) (consA (nameD 0) (nilA))) (nilA))))) (nilA)) (seqS (asgG (tupD (consA (fnD m__law_number 2 [] (consA (nameD 0) (consA (nameD 1) (nilA)))) (consA (fnD m__law_number 2 [] (consA (nameD 0) (consA (nameD 1) (nilA)))) (nilA)))) (tupG 2 (consG (nameG 3) (consG (nameG 4) (nilG))))) (seqS (parS 5 6 (fnD m__law_number 2 [] (consA (nameD 0) (consA (nameD 1) (nilA)))) (fnD m__law_number 2 [] (consA (nameD 0) (consA (nameD 1) (nilA))))) (seqS (asgS 7 (fnD m__law_cell 2 [] (consA (nameD 0) (consA (nameD 1) (nilA))))) (seqS (ifS (unD notF (tstD (lamD gd__law_refused (fnD m_fraction 2 [] (consA (nameD 3) (consA (cD (.int 0)) (nilA))))))) (retS (cD (.bl false))) (nilS)) (seqS (parS 4 6 (binD addF (nameD 4) (callD (intcF) (consA (binD (eqF) (nameD 4) (cD (.int 0))) (nilA)))) (binD addF (nameD 6) (callD (intcF) (consA (binD (eqF) (nameD 6) (cD (.int 0))) (nilA))))) (seqS (parS 8 9 (fnD m__law_low 2 [] (consA (nameD 3) (consA (nameD 4) (nilA)))) (fnD m__law_low 2 [] (consA (nameD 5) (consA (nameD 6) (nilA))))) (seqS (ifS (binD (neF) (callD (reprF) (consA (lstD (consA (fnD m_fraction 2 [] (consA (nameD 3) (consA (nameD 4) (nilA)))) (consA (fnD m_fraction 2 [] (consA (nameD 5) (consA (nameD 6) (nilA)))) (nilA)))) (nilA))) (callD (reprF) (consA (lstD (consA (nameD 8) (consA (nameD 9) (nilA)))) (nilA)))) (retS (cD (.bl false))) (nilS)) (seqS (ifS (unD notF (tstD (fnD m__law_pair_right 3 [] (consA (nameD 8) (consA (nameD 9) (consA (binD subF (binD fmodF (nameD 7) (cD (.int 13))) (cD (.int 6))) (nilA))))))) (retS (cD (.bl false))) (nilS)) (seqS (ifS (unD notF (tstD (fnD m__law_pair_right 3 [] (consA (nameD 9) (consA (nameD 8) (consA (binD fmodF (binD fdivF (nameD 7) (cD (.int 13))) (cD (.int 3))) (nilA))))))) (retS (cD (.bl false))) (nilS)) (forLS 10 (fnD m__law_things 2 [] (consA (nameD 8) (consA (nameD 7) (nilA)))) (ifS (binD (neF) (callD (reprF) (consA (fnD m_is_fraction 1 [] (consA (nameD 10) (nilA))) (nilA))) (callD (reprF) (consA (fnD m__law_is_one 1 [] (consA (nameD 10) (nilA))) (nilA)))) (retS (cD (.bl false))) (nilS))))))))))))) (seqS (asgS 11 (lstD (consA (fnD m_power 2 [] (consA (tupD (consA (cD (.int 0)) (consA (cD (.int 1)) (nilA)))) (consA (cD (.int 0)) (nilA)))) (consA (fnD m_power 2 [] (consA (tupD (consA (cD (.int 0)) (consA (cD (.int 1)) (nilA)))) (consA (cD (.int 3)) (nilA)))) (consA (fnD m_power 2 [] (consA (tupD (consA (cD (.int 2)) (consA (cD (.int 3)) (nilA)))) (consA (cD (.int 200)) (nilA)))) (consA (fnD m_power 2 [] (consA (tupD (consA (cD (.int 2)) (consA (cD (.int 3)) (nilA)))) (consA (unD negF (cD (.int 200))) (nilA)))) (nilA))))))) (retS (binD (eqF) (callD (reprF) (consA (nameD 11) (nilA))) (callD (reprF) (consA (lstD (consA (tupD (consA (cD (.int 1)) (consA (cD (.int 1)) (nilA)))) (consA (tupD (consA (cD (.int 0)) (consA (cD (.int 1)) (nilA)))) (consA (tupD (consA (binD powF (binD powF (cD (.int 2)) (cD (.int 50))) (cD (.int 4))) (consA (binD powF (binD powF (cD (.int 3)) (cD (.int 50))) (cD (.int 4))) (nilA)))) (consA (tupD (consA (binD powF (binD powF (cD (.int 3)) (cD (.int 50))) (cD (.int 4))) (consA (binD powF (binD powF (cD (.int 2)) (cD (.int 50))) (cD (.int 4))) (nilA)))) (nilA)))))) (nilA)))))))
def m_law : DenF := ofBody 12 den_law
theorem ok_law {x : Tx} (t : TxOk x) {P : Program} {w : World} {base : Heap} (tb : Tb x base) : FnD P w x.fx x.mg base 11 x.a_law x.fd_law ["script"] m_law := by
  have sc := sc_law
  exact fn_mkC (k := 10) t.F_law t.code_law sc rfl fun A outer s H E dc => (dss_cons (ds_own 1 sc.nd (da_cons de_int da_nil)) (dss_cons (ds_forR1 2 dc t.m_range sc.nd (de_bin add_ok opr_add de_int (de_callB int2_ok (call_min2 dc.calm) t.m_min (da_cons de_int (da_cons (de_callB len_ok call_len t.m_len (da_cons (de_name 0) da_nil)) da_nil)))) (dss_cons (ds_asg (de_tup (da_cons (de_call (k := 2) (ps := ["cells", "spot"]) (ok__law_number t tb) (dc.mono (by decide)) t.g__law_number t.F__law_number.kp t.b__law_number .nil (fun _ _ => rfl) (da_cons (de_name 0) (da_cons (de_name 1) da_nil))) (da_cons (de_call (k := 2) (ps := ["cells", "spot"]) (ok__law_number t tb) (dc.mono (by decide)) t.g__law_number t.F__law_number.kp t.b__law_number .nil (fun _ _ => rfl) (da_cons (de_name 0) (da_cons (de_name 1) da_nil))) da_nil))) (dg_tup dc.calm (dgs_cons (dg_name 3 sc.nd) (dgs_cons (dg_name 4 sc.nd) dgs_nil)))) (dss_cons (ds_par 5 6 dc.calm sc.nd (de_call (k := 2) (ps := ["cells", "spot"]) (ok__law_number t tb) (dc.mono (by decide)) t.g__law_number t.F__law_number.kp t.b__law_number .nil (fun _ _ => rfl) (da_cons (de_name 0) (da_cons (de_name 1) da_nil))) (de_call (k := 2) (ps := ["cells", "spot"]) (ok__law_number t tb) (dc.mono (by decide)) t.g__law_number t.F__law_number.kp t.b__law_number .nil (fun _ _ => rfl) (da_cons (de_name 0) (da_cons (de_name 1) da_nil)))) (dss_cons (ds_set 7 sc.nd (de_call (k := 1) (ps := ["cells", "spot"]) (ok__law_cell t tb) (dc.mono (by decide)) t.g__law_cell t.F__law_cell.kp t.b__law_cell .nil (fun _ _ => rfl) (da_cons (de_name 0) (da_cons (de_name 1) da_nil)))) (dss_cons (ds_if (dt_not (dt_v (de_lam (k := 6) (dc.mono (by decide)) t.g__law_refused t.F__law_refused t.b__law_refused sc__law_refused rfl (tb.b_law) rfl qual_cx t.inT_law t.uniq_law (LamX.lamS_by (sc := defScope s_law) (by decide +kernel)) (fun A1 outer1 s1 H1 E1 f1 c1 dl => (de_call (k := 1) (ps := ["above", "below"]) (ok_fraction t tb) (dl.mono (by decide)) t.g_fraction t.F_fraction.kp t.b_fraction .nil (fun _ _ => rfl) (da_cons (de_name 3) (da_cons de_int da_nil)))) (fun _ _ _ cl cden dcz actz => ok__law_refused t cl cden dcz actz) gd__law_refused_eq (fun _ _ _ _ _ => rfl)))) (dss_one (ds_ret de_bl)) dss_nil) (dss_cons (ds_par 4 6 dc.calm sc.nd (de_bin add_ok opr_add (de_name 4) (de_callTy intc_ok call_int1 t.m_int (da_cons (de_cmp eq_ok (opr_eq dc.u64) (de_name 4) de_int (nomark _)) da_nil))) (de_bin add_ok opr_add (de_name 6) (de_callTy intc_ok call_int1 t.m_int (da_cons (de_cmp eq_ok (opr_eq dc.u64) (de_name 6) de_int (nomark _)) da_nil)))) (dss_cons (ds_par 8 9 dc.calm sc.nd (de_call (k := 1) (ps := ["above", "below"]) (ok__law_low t tb) (dc.mono (by decide)) t.g__law_low t.F__law_low.kp t.b__law_low .nil (fun _ _ => rfl) (da_cons (de_name 3) (da_cons (de_name 4) da_nil))) (de_call (k := 1) (ps := ["above", "below"]) (ok__law_low t tb) (dc.mono (by decide)) t.g__law_low t.F__law_low.kp t.b__law_low .nil (fun _ _ => rfl) (da_cons (de_name 5) (da_cons (de_name 6) da_nil)))) (dss_cons (ds_if (dt_cmp ne_ok (opr_ne dc.u64) (de_callB repr_ok (callr_repr dc.gd dc.u64) t.m_repr (da_cons (de_lst (da_cons (de_call (k := 1) (ps := ["above", "below"]) (ok_fraction t tb) (dc.mono (by decide)) t.g_fraction t.F_fraction.kp t.b_fraction .nil (fun _ _ => rfl) (da_cons (de_name 3) (da_cons (de_name 4) da_nil))) (da_cons (de_call (k := 1) (ps := ["above", "below"]) (ok_fraction t tb) (dc.mono (by decide)) t.g_fraction t.F_fraction.kp t.b_fraction .nil (fun _ _ => rfl) (da_cons (de_name 5) (da_cons (de_name 6) da_nil))) da_nil))) da_nil)) (de_callB repr_ok (callr_repr dc.gd dc.u64) t.m_repr (da_cons (de_lst (da_cons (de_name 8) (da_cons (de_name 9) da_nil))) da_nil)) (nomark _)) (dss_one (ds_ret de_bl)) dss_nil) (dss_cons (ds_if (dt_not (dt_v (de_call (k := 10) (ps := ["one", "other", "number"]) (ok__law_pair_right t tb) (dc.mono (by decide)) t.g__law_pair_right t.F__law_pair_right.kp t.b__law_pair_right .nil (fun _ _ => rfl) (da_cons (de_name 8) (da_cons (de_name 9) (da_cons (de_bin sub_ok op_sub (de_bin fmod_ok op_modN (de_name 7) de_int) de_int) da_nil)))))) (dss_one (ds_ret de_bl)) dss_nil) (dss_cons (ds_if (dt_not (dt_v (de_call (k := 10) (ps := ["one", "other", "number"]) (ok__law_pair_right t tb) (dc.mono (by decide)) t.g__law_pair_right t.F__law_pair_right.kp t.b__law_pair_right .nil (fun _ _ => rfl) (da_cons (de_name 9) (da_cons (de_name 8) (da_cons (de_bin fmod_ok op_modN (de_bin fdiv_ok opr_fdiv (de_name 7) de_int) de_int) da_nil)))))) (dss_one (ds_ret de_bl)) dss_nil) (dss_one (ds_forL 10 dc sc.nd (de_call (k := 1) (ps := ["one", "n"]) (ok__law_things t tb) (dc.mono (by decide)) t.g__law_things t.F__law_things.kp t.b__law_things .nil (fun _ _ => rfl) (da_cons (de_name 8) (da_cons (de_name 7) da_nil))) (dss_one (ds_if (dt_cmp ne_ok (opr_ne dc.u64) (de_callB repr_ok (callr_repr dc.gd dc.u64) t.m_repr (da_cons (de_call (k := 2) (ps := ["thing"]) (ok_is_fraction t tb) (dc.mono (by decide)) t.g_is_fraction t.F_is_fraction.kp t.b_is_fraction .nil (fun _ _ => rfl) (da_cons (de_name 10) da_nil)) da_nil)) (de_callB repr_ok (callr_repr dc.gd dc.u64) t.m_repr (da_cons (de_call (k := 2) (ps := ["thing"]) (ok__law_is_one t tb) (dc.mono (by decide)) t.g__law_is_one t.F__law_is_one.kp t.b__law_is_one .nil (fun _ _ => rfl) (da_cons (de_name 10) da_nil)) da_nil)) (nomark _)) (dss_one (ds_ret de_bl)) dss_nil)))))))))))))) (dss_cons (ds_set 11 sc.nd (de_lst (da_cons (de_call (k := 5) (ps := ["one", "number"]) (ok_power t tb) (dc.mono (by decide)) t.g_power t.F_power.kp t.b_power .nil (fun _ _ => rfl) (da_cons (de_tup (da_cons de_int (da_cons de_int da_nil))) (da_cons de_int da_nil))) (da_cons (de_call (k := 5) (ps := ["one", "number"]) (ok_power t tb) (dc.mono (by decide)) t.g_power t.F_power.kp t.b_power .nil (fun _ _ => rfl) (da_cons (de_tup (da_cons de_int (da_cons de_int da_nil))) (da_cons de_int da_nil))) (da_cons (de_call (k := 5) (ps := ["one", "number"]) (ok_power t tb) (dc.mono (by decide)) t.g_power t.F_power.kp t.b_power .nil (fun _ _ => rfl) (da_cons (de_tup (da_cons de_int (da_cons de_int da_nil))) (da_cons de_int da_nil))) (da_cons (de_call (k := 5) (ps := ["one", "number"]) (ok_power t tb) (dc.mono (by decide)) t.g_power t.F_power.kp t.b_power .nil (fun _ _ => rfl) (da_cons (de_tup (da_cons de_int (da_cons de_int da_nil))) (da_cons (de_un neg_ok un_neg de_int) da_nil))) da_nil)))))) (dss_one (ds_ret (de_cmp eq_ok (opr_eq dc.u64) (de_callB repr_ok (callr_repr dc.gd dc.u64) t.m_repr (da_cons (de_name 11) da_nil)) (de_callB repr_ok (callr_repr dc.gd dc.u64) t.m_repr (da_cons (de_lst (da_cons (de_tup (da_cons de_int (da_cons de_int da_nil))) (da_cons (de_tup (da_cons de_int (da_cons de_int da_nil))) (da_cons (de_tup (da_cons (de_bin pow_ok opr_pow (de_bin pow_ok opr_pow de_int de_int) de_int) (da_cons (de_bin pow_ok opr_pow (de_bin pow_ok opr_pow de_int de_int) de_int) da_nil))) (da_cons (de_tup (da_cons (de_bin pow_ok opr_pow (de_bin pow_ok opr_pow de_int de_int) de_int) (da_cons (de_bin pow_ok opr_pow (de_bin pow_ok opr_pow de_int de_int) de_int) da_nil))) da_nil))))) da_nil)) (nomark _)))))))
end K01
namespace K01
open PySem L2 DL
def Bd (k : Nat) (i : Int) : Prop := i.natAbs < 2 ^ k
theorem Bd.mono {j k : Nat} {i : Int} (h : Bd j i) (hk : j ≤ k) : Bd k i := Nat.lt_of_lt_of_le h (Nat.pow_le_pow_right (by decide) hk)
theorem Bd.mul {j k : Nat} {a b : Int} (h : Bd j a) (h' : Bd k b) : Bd (j + k) (a * b) := by
  unfold Bd at *
  rw [Int.natAbs_mul]
  rw [Nat.pow_add]
  exact Nat.mul_lt_mul'' h h'
theorem Bd.add {k : Nat} {a b : Int} (h : Bd k a) (h' : Bd k b) : Bd (k + 1) (a + b) := by
  unfold Bd at *
  have := Int.natAbs_add_le a b
  rw [Nat.pow_succ]
  omega
theorem Bd.neg {k : Nat} {a : Int} (h : Bd k a) : Bd k (-a) := by
  unfold Bd at *
  rwa [Int.natAbs_neg]
theorem Bd.sub {k : Nat} {a b : Int} (h : Bd k a) (h' : Bd k b) : Bd (k + 1) (a - b) := by
  rw [Int.sub_eq_add_neg]
  exact h.add h'.neg
theorem Bd.le {k : Nat} {a b : Int} (h : Bd k a) (h' : b.natAbs ≤ a.natAbs) : Bd k b := Nat.lt_of_le_of_lt h' h
theorem Bd.pow {k : Nat} {a : Int} (h : Bd k a) : ∀ n : Nat, Bd (k * n + 1) (a ^ n)
  | 0 => by unfold Bd; simp
  | n + 1 => by
    have ih := Bd.pow h n
    unfold Bd at *
    rw [Int.pow_succ, Int.natAbs_mul, show k * (n + 1) + 1 = (k * n + 1) + k by rw [Nat.mul_succ]; omega, Nat.pow_add]
    exact Nat.mul_lt_mul'' ih h
theorem Bd.lg {k : Nat} {a : Int} (h : Bd k a) : a.natAbs.log2 ≤ k := by
  unfold Bd at h
  by_cases h0 : a.natAbs = 0
  · rw [h0]; simp
  · exact Nat.le_of_lt ((Nat.log2_lt h0).mpr h)
/-- lowest terms -/
def red (a b : Int) : Int × Int := if b < 0 then ((-a) / (Nat.gcd a.natAbs b.natAbs : Nat), (-b) / (Nat.gcd a.natAbs b.natAbs : Nat)) else (a / (Nat.gcd a.natAbs b.natAbs : Nat), b / (Nat.gcd a.natAbs b.natAbs : Nat))
theorem gcd_pos {a b : Int} (h : b ≠ 0) : 0 < Nat.gcd a.natAbs b.natAbs := Nat.gcd_pos_of_pos_right _ (Int.natAbs_pos.mpr h)
theorem gcd_le {a b : Int} (h : b ≠ 0) : Nat.gcd a.natAbs b.natAbs ≤ b.natAbs := Nat.gcd_le_right _ (Int.natAbs_pos.mpr h)
theorem natAbs_div {a : Int} {g : Nat} (hg : 0 < g) (h : g ∣ a.natAbs) : (a / (g : Int)).natAbs = a.natAbs / g := by
  have h' : (g : Int) ∣ a := Int.natAbs_dvd_natAbs.mp (by simpa using h)
  rw [Int.natAbs_ediv_of_dvd h']
  simp
theorem red_spec {a b : Int} (h : b ≠ 0) : 0 < (red a b).2 ∧ Nat.gcd (red a b).1.natAbs (red a b).2.natAbs = 1 ∧ (red a b).1.natAbs ≤ a.natAbs ∧ (red a b).2.natAbs ≤ b.natAbs := by
  have g0 := gcd_pos (a := a) h
  have ga : Nat.gcd a.natAbs b.natAbs ∣ a.natAbs := Nat.gcd_dvd_left _ _
  have gb : Nat.gcd a.natAbs b.natAbs ∣ b.natAbs := Nat.gcd_dvd_right _ _
  have key : ∀ x y : Int, x.natAbs = a.natAbs → y.natAbs = b.natAbs → 0 < y → 0 < y / ((Nat.gcd a.natAbs b.natAbs : Nat) : Int) ∧ Nat.gcd (x / ((Nat.gcd a.natAbs b.natAbs : Nat) : Int)).natAbs (y / ((Nat.gcd a.natAbs b.natAbs : Nat) : Int)).natAbs = 1 ∧ (x / ((Nat.gcd a.natAbs b.natAbs : Nat) : Int)).natAbs ≤ a.natAbs ∧ (y / ((Nat.gcd a.natAbs b.natAbs : Nat) : Int)).natAbs ≤ b.natAbs := by
    intro x y hx hy hp
    rw [natAbs_div g0 (by rw [hx]; exact ga), natAbs_div g0 (by rw [hy]; exact gb), hx, hy]
    refine ⟨?_, Nat.gcd_div_gcd_div_gcd_of_pos_right (Int.natAbs_pos.mpr h), Nat.div_le_self _ _, Nat.div_le_self _ _⟩
    have : (y / ((Nat.gcd a.natAbs b.natAbs : Nat) : Int)).natAbs = b.natAbs / Nat.gcd a.natAbs b.natAbs := by rw [natAbs_div g0 (by rw [hy]; exact gb), hy]
    have h2 : 0 < b.natAbs / Nat.gcd a.natAbs b.natAbs := Nat.div_pos (gcd_le h) g0
    have h3 : 0 ≤ y / ((Nat.gcd a.natAbs b.natAbs : Nat) : Int) := Int.ediv_nonneg (by omega) (by omega)
    omega
  unfold red
  split
  · exact key (-a) (-b) (Int.natAbs_neg a) (Int.natAbs_neg b) (by omega)
  · exact key a b rfl rfl (by omega)
theorem red_cop {a b : Int} (h : Nat.gcd a.natAbs b.natAbs = 1) : red a b = if b < 0 then (-a, -b) else (a, b) := by
  unfold red
  rw [h]
  simp
theorem bindE_v {α β : Type} (d : α) (M : Store) (f : α → Store → RD β) : bindE (ok d M) f = f d M := rfl
theorem thenS_v {α : Type} (d : α) (M : Store) (e : DL.Env) (f : α → Store → RS) : thenS (ok d M) e f = f d M := rfl
theorem mulE {i j : Int} {M : Store} (h : i.natAbs.log2 + j.natAbs.log2 < 1000000) : mulF (.int i) (.int j) M = ok (.int (i * j)) M := if_pos h
theorem mulB {i j : Int} {k l : Nat} {M : Store} (hi : Bd k i) (hj : Bd l j) (h : k + l < 1000000) : mulF (.int i) (.int j) M = ok (.int (i * j)) M := mulE (by
  have := hi.lg
  have := hj.lg
  omega)
theorem addE {i j : Int} {M : Store} : addF (.int i) (.int j) M = ok (.int (i + j)) M := rfl
theorem subE {i j : Int} {M : Store} : subF (.int i) (.int j) M = ok (.int (i - j)) M := rfl
abbrev fr (a b : Int) : D := .tup [.int a, .int b]
abbrev fp (p : Int × Int) : D := .tup [.int p.1, .int p.2]
theorem ix0 (a b : D) (M : Store) : ixF (.tup [a, b]) (.int 0) M = ok a M := rfl
theorem ix1 (a b : D) (M : Store) : ixF (.tup [a, b]) (.int 1) M = ok b M := rfl
theorem fdivB {i j : Int} {k : Nat} {M : Store} (hj : Bd k j) (h0 : j ≠ 0) (h : k < 9000) : fdivF (.int i) (.int j) M = ok (.int (i.fdiv j)) M := by
  have h1 : j.natAbs.log2 < 9000 := Nat.lt_of_le_of_lt hj.lg h
  show (if decide (j ≠ 0 ∧ j.natAbs.log2 < 9000) = true then _ else _) = _
  exact if_pos (decide_eq_true ⟨h0, h1⟩)
theorem eq_int {i j : Int} {M : Store} : eqF (.int i) (.int j) M = ok (.bl (decide (i = j))) M := by
  show ok (D.bl (false != decide (i = j))) M = _
  simp
theorem ne_int {i j : Int} {M : Store} : neF (.int i) (.int j) M = ok (.bl (!decide (i = j))) M := by
  show ok (D.bl (true != decide (i = j))) M = _
  simp
theorem fraction_eq {a b : Int} {k : Nat} {M : Store} (hb : Bd k b) (hk : k < 9000) (h0 : b ≠ 0) : m_fraction [.int a, .int b] M = ok (fp (red a b)) M := by
  have g0 := gcd_pos (a := a) h0
  have gl := gcd_le (a := a) h0
  have hg : ∀ x : Int, x.fdiv ((Nat.gcd a.natAbs b.natAbs : Nat) : Int) = x / ((Nat.gcd a.natAbs b.natAbs : Nat) : Int) := fun x => Int.fdiv_eq_ediv_of_nonneg _ (by omega)
  have hB : Bd k ((Nat.gcd a.natAbs b.natAbs : Nat) : Int) := hb.le (by simpa using gl)
  have hn : ((Nat.gcd a.natAbs b.natAbs : Nat) : Int) ≠ 0 := by omega
  by_cases hs : b < 0
  · simp [ofBody, seqS, ifS, retS, raiseS, consA, nilA, binD, callD, nameD, cD, bindE_v, thenS_v, unD, parS, asgS, tupD, int2F, eq_int, ne_int, intF0, negF, nilS, absF, brD, fnD, addE, subE, ix0, ix1, dropS, m_fraction, den_fraction, h0, hs, fdivB hB hn hk, hg, red]
  · simp [ofBody, seqS, ifS, retS, raiseS, consA, nilA, binD, callD, nameD, cD, bindE_v, thenS_v, unD, parS, asgS, tupD, int2F, eq_int, ne_int, intF0, negF, nilS, absF, brD, fnD, addE, subE, ix0, ix1, dropS, m_fraction, den_fraction, h0, hs, fdivB hB hn hk, hg, red]
theorem fraction_nought {a : Int} {M : Store} : m_fraction [.int a, .int 0] M = some (.exc "BadFraction" [], M) := by
  simp [ofBody, seqS, ifS, retS, raiseS, consA, nilA, binD, callD, nameD, cD, bindE_v, thenS_v, unD, parS, asgS, tupD, int2F, eq_int, ne_int, intF0, negF, nilS, absF, brD, fnD, addE, subE, ix0, ix1, dropS, m_fraction, den_fraction]
/-- a fraction as the program tells it -/
abbrev qD (r : Rat) : D := .tup [.int r.num, .int (r.den : Int)]
theorem qmul_num (a b : Rat) : (a * b).num = (a.num / (Nat.gcd a.num.natAbs b.den : Nat)) * (b.num / (Nat.gcd b.num.natAbs a.den : Nat)) := by
  show (Rat.mul a b).num = _
  unfold Rat.mul
  rfl
theorem qmul_den (a b : Rat) : (a * b).den = (a.den / Nat.gcd b.num.natAbs a.den) * (b.den / Nat.gcd a.num.natAbs b.den) := by
  show (Rat.mul a b).den = _
  unfold Rat.mul
  rfl
theorem maybe_eq {n : Int} {d g : Nat} {h1 h2 h3 h4} : (Rat.maybeNormalize n d g h1 h2 h3 h4).num = n / (g : Int) ∧ (Rat.maybeNormalize n d g h1 h2 h3 h4).den = d / g := by
  rw [Rat.maybeNormalize_eq]
  exact ⟨by simp [Int.divExact_eq_ediv], rfl⟩
theorem qadd (a b : Rat) : (a + b).num = (a.num * ((b.den / Nat.gcd a.den b.den : Nat) : Int) + b.num * ((a.den / Nat.gcd a.den b.den : Nat) : Int)) / ((Nat.gcd (a.num * ((b.den / Nat.gcd a.den b.den : Nat) : Int) + b.num * ((a.den / Nat.gcd a.den b.den : Nat) : Int)).natAbs (Nat.gcd a.den b.den) : Nat) : Int) ∧
    (a + b).den = (a.den / Nat.gcd a.den b.den) * (b.den / Nat.gcd (a.num * ((b.den / Nat.gcd a.den b.den : Nat) : Int) + b.num * ((a.den / Nat.gcd a.den b.den : Nat) : Int)).natAbs (Nat.gcd a.den b.den)) := by
  by_cases hg : Nat.gcd a.den b.den = 1
  · have e : a + b = ⟨a.num * b.den + b.num * a.den, a.den * b.den, Nat.mul_ne_zero a.den_nz b.den_nz, by
      have q := (a + b).reduced
      have e1 : a + b = Rat.add a b := rfl
      rw [e1] at q
      unfold Rat.add at q
      simpa [hg] using q⟩ := by
      show Rat.add a b = _
      unfold Rat.add
      simp [hg]
    rw [hg]
    simp only [Nat.div_one, Nat.gcd_one_right, Int.natCast_one, Int.ediv_one]
    rw [e]
    exact ⟨rfl, rfl⟩
  · have e : (a + b) = Rat.maybeNormalize (a.num * ((b.den / Nat.gcd a.den b.den : Nat) : Int) + b.num * ((a.den / Nat.gcd a.den b.den : Nat) : Int)) (a.den / Nat.gcd a.den b.den * b.den) (Nat.gcd (a.num * ((b.den / Nat.gcd a.den b.den : Nat) : Int) + b.num * ((a.den / Nat.gcd a.den b.den : Nat) : Int)).natAbs (Nat.gcd a.den b.den)) (by
        exact Int.ofNat_dvd_left.mpr (Nat.gcd_dvd_left _ _)) (by
        exact Nat.dvd_trans (Nat.dvd_trans (Nat.gcd_dvd_right _ _) (Nat.gcd_dvd_right _ _)) (Nat.dvd_mul_left _ _)) (by
        refine Nat.ne_of_gt (Nat.div_pos (Nat.le_of_dvd ?_ ?_) ?_)
        · exact Nat.mul_pos (Nat.div_pos (Nat.gcd_le_left _ (Nat.pos_of_ne_zero a.den_nz)) (Nat.gcd_pos_of_pos_left _ (Nat.pos_of_ne_zero a.den_nz))) (Nat.pos_of_ne_zero b.den_nz)
        · exact Nat.dvd_trans (Nat.dvd_trans (Nat.gcd_dvd_right _ _) (Nat.gcd_dvd_right _ _)) (Nat.dvd_mul_left _ _)
        · exact Nat.gcd_pos_of_pos_right _ (Nat.gcd_pos_of_pos_left _ (Nat.pos_of_ne_zero a.den_nz))) (by
        have q := (a + b).reduced
        have e1 : a + b = Rat.add a b := rfl
        rw [e1] at q
        unfold Rat.add at q
        simp only [hg, dite_false, Rat.maybeNormalize_eq] at q
        exact q) := by
      show Rat.add a b = _
      unfold Rat.add
      simp only [hg, dite_false]
    obtain ⟨m1, m2⟩ := maybe_eq (n := (a.num * ((b.den / Nat.gcd a.den b.den : Nat) : Int) + b.num * ((a.den / Nat.gcd a.den b.den : Nat) : Int))) (d := a.den / Nat.gcd a.den b.den * b.den)
    refine ⟨(congrArg Rat.num e).trans m1, ((congrArg Rat.den e).trans m2).trans ?_⟩
    exact Nat.mul_div_assoc _ (Nat.dvd_trans (Nat.gcd_dvd_right _ _) (Nat.gcd_dvd_right _ _))
structure Sz (k : Nat) (r : Rat) : Prop where
  n : Bd k r.num
  d : r.den < 2 ^ k
theorem Sz.mono {j k : Nat} {r : Rat} (s : Sz j r) (h : j ≤ k) : Sz k r := ⟨s.n.mono h, Nat.lt_of_lt_of_le s.d (Nat.pow_le_pow_right (by decide) h)⟩
theorem Sz.db {k : Nat} {r : Rat} (s : Sz k r) : Bd k (r.den : Int) := s.d
theorem bd_mul {j k : Nat} {a b : Int} (ha : Bd j a) (hb : Bd k b) : Bd (j + k) (a * b) := by
  unfold Bd at *
  rw [Nat.pow_add]; rw [Int.natAbs_mul]
  exact Nat.mul_lt_mul'' ha hb
theorem bd_add {k : Nat} {a b : Int} (ha : Bd k a) (hb : Bd k b) : Bd (k + 1) (a + b) := by
  unfold Bd at *
  have := Int.natAbs_add_le a b
  rw [Nat.pow_succ]
  omega
theorem bd_div {k : Nat} {a b : Int} (ha : Bd k a) : Bd k (a / b) := by
  unfold Bd at *
  exact Nat.lt_of_le_of_lt (Int.natAbs_ediv_le_natAbs a b) ha
theorem bd_le {k : Nat} {a b : Int} (hb : Bd k b) (h : a.natAbs ≤ b.natAbs) : Bd k a := Nat.lt_of_le_of_lt h hb
theorem Sz.divInt {k : Nat} {a b : Int} (ha : Bd k a) (hb : Bd k b) (h0 : b ≠ 0) : Sz k (Rat.divInt a b) := by
  constructor
  · rw [Rat.num_divInt]
    refine bd_div ?_
    refine bd_le ha ?_
    rw [Int.natAbs_mul]
    have : b.sign.natAbs ≤ 1 := by
      rw [Int.natAbs_sign]
      split <;> omega
    calc b.sign.natAbs * a.natAbs ≤ 1 * a.natAbs := Nat.mul_le_mul_right _ this
      _ = a.natAbs := Nat.one_mul _
  · rw [Rat.den_divInt, if_neg h0]
    exact Nat.lt_of_le_of_lt (Nat.div_le_self _ _) hb
theorem rat_div (r : Rat) : r = Rat.divInt r.num (r.den : Int) := (Rat.num_divInt_den r).symm
theorem den0 (r : Rat) : (r.den : Int) ≠ 0 := by
  have := r.den_nz
  omega
theorem Sz.mul {j k : Nat} {a b : Rat} (ha : Sz j a) (hb : Sz k b) : Sz (j + k) (a * b) := by
  have e : a * b = Rat.divInt (a.num * b.num) ((a.den : Int) * (b.den : Int)) := by
    conv => lhs; rw [rat_div a, rat_div b]
    exact Rat.divInt_mul_divInt _ _
  rw [e]
  exact Sz.divInt (bd_mul ha.n hb.n) (bd_mul ha.db hb.db) (Int.mul_ne_zero (den0 a) (den0 b))
theorem Sz.add {j k : Nat} {a b : Rat} (ha : Sz j a) (hb : Sz k b) : Sz (j + k + 1) (a + b) := by
  have e : a + b = Rat.divInt (a.num * (b.den : Int) + b.num * (a.den : Int)) ((a.den : Int) * (b.den : Int)) := by
    conv => lhs; rw [rat_div a, rat_div b]
    exact Rat.divInt_add_divInt _ _ (den0 a) (den0 b)
  rw [e]
  refine Sz.divInt (bd_add (bd_mul ha.n hb.db) ?_) ((bd_mul ha.db hb.db).mono (Nat.le_succ _)) (Int.mul_ne_zero (den0 a) (den0 b))
  have := bd_mul hb.n ha.db
  rw [Nat.add_comm] at this
  exact this
theorem Sz.int {k : Nat} {i : Int} (h : Bd k i) (hk : 1 ≤ k) : Sz k (i : Rat) := ⟨by rw [Rat.num_intCast]; exact h, by rw [Rat.den_intCast]; exact Nat.lt_of_lt_of_le (by decide : 1 < 2 ^ 1) (Nat.pow_le_pow_right (by decide) hk)⟩
/-- exact quotients -/
theorem fdivE {i j : Int} {k : Nat} {M : Store} (hj : Bd k j) (h0 : j ≠ 0) (hd : j ∣ i) (h : k < 9000) : fdivF (.int i) (.int j) M = ok (.int (i / j)) M := by
  rw [fdivB hj h0 h, Int.fdiv_eq_ediv_of_dvd hd]
section
variable {a b : Rat} {j k : Nat} {M : Store}
theorem gcd_nz {x : Int} {r : Rat} : ((Nat.gcd x.natAbs r.den : Nat) : Int) ≠ 0 := by
  have := Nat.gcd_pos_of_pos_right x.natAbs (Nat.pos_of_ne_zero r.den_nz)
  omega
theorem gcd_bd {x : Int} {r : Rat} (h : Sz k r) : Bd k ((Nat.gcd x.natAbs r.den : Nat) : Int) := by
  have := Nat.gcd_le_right x.natAbs (Nat.pos_of_ne_zero r.den_nz)
  have := h.d
  unfold Bd
  rw [Int.natAbs_natCast]
  omega
theorem gcd_dn {x : Int} {r : Rat} : ((Nat.gcd x.natAbs r.den : Nat) : Int) ∣ x := Int.ofNat_dvd_left.mpr (Nat.gcd_dvd_left _ _)
theorem gcd_dd {x : Int} {r : Rat} : ((Nat.gcd x.natAbs r.den : Nat) : Int) ∣ (r.den : Int) := Int.natCast_dvd_natCast.mpr (Nat.gcd_dvd_right _ _)
theorem times_ok (ha : Sz j a) (hb : Sz k b) (hj : j < 9000) (hk : k < 9000) : m_times [qD a, qD b] M = ok (qD (a * b)) M := by
  show m_times [.tup [.int a.num, .int (a.den : Int)], .tup [.int b.num, .int (b.den : Int)]] M = ok (.tup [.int (a * b).num, .int ((a * b).den : Int)]) M
  rw [qmul_num, qmul_den, Int.natCast_mul, Int.natCast_ediv, Int.natCast_ediv]
  have g1 : ∀ M, gcdF [.int a.num, .int (b.den : Int)] M = ok (.int ((Nat.gcd a.num.natAbs b.den : Nat) : Int)) M := fun M => rfl
  have g2 : ∀ M, gcdF [.int b.num, .int (a.den : Int)] M = ok (.int ((Nat.gcd b.num.natAbs a.den : Nat) : Int)) M := fun M => rfl
  have d1 := fun M => fdivE (M := M) (i := a.num) (gcd_bd (x := a.num) hb) gcd_nz gcd_dn hk
  have d2 := fun M => fdivE (M := M) (i := b.num) (gcd_bd (x := b.num) ha) gcd_nz gcd_dn hj
  have d3 := fun M => fdivE (M := M) (i := (a.den : Int)) (gcd_bd (x := b.num) ha) gcd_nz gcd_dd hj
  have d4 := fun M => fdivE (M := M) (i := (b.den : Int)) (gcd_bd (x := a.num) hb) gcd_nz gcd_dd hk
  have m1 : ∀ M, mulF (.int (a.num / ((Nat.gcd a.num.natAbs b.den : Nat) : Int))) (.int (b.num / ((Nat.gcd b.num.natAbs a.den : Nat) : Int))) M = ok (.int (a.num / ((Nat.gcd a.num.natAbs b.den : Nat) : Int) * (b.num / ((Nat.gcd b.num.natAbs a.den : Nat) : Int)))) M := fun M => mulB (bd_div ha.n) (bd_div hb.n) (by omega)
  have m2 : ∀ M, mulF (.int ((a.den : Int) / ((Nat.gcd b.num.natAbs a.den : Nat) : Int))) (.int ((b.den : Int) / ((Nat.gcd a.num.natAbs b.den : Nat) : Int))) M = ok (.int ((a.den : Int) / ((Nat.gcd b.num.natAbs a.den : Nat) : Int) * ((b.den : Int) / ((Nat.gcd a.num.natAbs b.den : Nat) : Int)))) M := fun M => mulB (bd_div ha.db) (bd_div hb.db) (by omega)
  generalize ((Nat.gcd a.num.natAbs b.den : Nat) : Int) = p at *
  generalize ((Nat.gcd b.num.natAbs a.den : Nat) : Int) = q at *
  generalize a.num / p = x1 at *
  generalize b.num / q = x2 at *
  generalize (a.den : Int) / q = x3 at *
  generalize (b.den : Int) / p = x4 at *
  generalize x1 * x2 = y1 at *
  generalize x3 * x4 = y2 at *
  generalize (a.den : Int) = u at *
  generalize (b.den : Int) = v at *
  generalize a.num = s at *
  generalize b.num = t at *
  simp [ofBody, seqS, ifS, retS, raiseS, consA, nilA, binD, callD, nameD, cD, bindE_v, thenS_v, unD, parS, asgS, tupD, int2F, eq_int, ne_int, intF0, negF, nilS, absF, brD, fnD, addE, subE, ix0, ix1, dropS, asgG, tupG, consG, nameG, nilG, m_times, den_times, g1, g2, d1, d2, d3, d4, m1, m2]
theorem plus_ok (ha : Sz j a) (hb : Sz k b) (h : j + k < 9000) : m_plus [qD a, qD b] M = ok (qD (a + b)) M := by
  obtain ⟨en, ed⟩ := qadd a b
  obtain ⟨P, hP⟩ : ∃ P, P = a.den / Nat.gcd a.den b.den := ⟨_, rfl⟩
  obtain ⟨Q, hQ⟩ : ∃ P, P = b.den / Nat.gcd a.den b.den := ⟨_, rfl⟩
  obtain ⟨G, hG⟩ : ∃ G, G = Nat.gcd a.den b.den := ⟨_, rfl⟩
  have pb : Bd j (P : Int) := by
    rw [hP]
    exact Nat.lt_of_le_of_lt (Nat.div_le_self _ _) ha.d
  have qb : Bd k (Q : Int) := by
    rw [hQ]
    exact Nat.lt_of_le_of_lt (Nat.div_le_self _ _) hb.d
  have gpos : 0 < Nat.gcd a.den b.den := Nat.gcd_pos_of_pos_right _ (Nat.pos_of_ne_zero b.den_nz)
  have gle : Nat.gcd a.den b.den ≤ b.den := Nat.gcd_le_right _ (Nat.pos_of_ne_zero b.den_nz)
  have Gb : Bd k ((G : Nat) : Int) := by
    have := hb.d
    unfold Bd
    rw [Int.natAbs_natCast]
    omega
  have e1 : (a.den : Int) / (G : Int) = (P : Int) := by rw [hP, hG, Int.natCast_ediv]
  have e2 : (b.den : Int) / (G : Int) = (Q : Int) := by rw [hQ, hG, Int.natCast_ediv]
  rw [← hP, ← hQ, ← hG] at en
  rw [← hP, ← hQ, ← hG] at ed
  obtain ⟨N, hN⟩ : ∃ N, N = a.num * (Q : Int) + b.num * (P : Int) := ⟨_, rfl⟩
  rw [← hN] at en ed
  obtain ⟨C, hC⟩ : ∃ C, C = Nat.gcd N.natAbs G := ⟨_, rfl⟩
  rw [← hC] at en ed
  have cd : C ∣ b.den := by
    rw [hC, hG]
    exact Nat.dvd_trans (Nat.gcd_dvd_right _ _) (Nat.gcd_dvd_right _ _)
  have cp : 0 < C := Nat.pos_of_dvd_of_pos cd (Nat.pos_of_ne_zero b.den_nz)
  have Cb : Bd k ((C : Nat) : Int) := by
    have := Nat.le_of_dvd (Nat.pos_of_ne_zero b.den_nz) cd
    have := hb.d
    unfold Bd
    rw [Int.natAbs_natCast]
    omega
  have g1 : ∀ M, gcdF [.int (a.den : Int), .int (b.den : Int)] M = ok (.int (G : Int)) M := fun M => by rw [hG]; rfl
  have g2 : ∀ M, gcdF [.int N, .int (G : Int)] M = ok (.int (C : Int)) M := fun M => by rw [hC]; rfl
  have d1 : ∀ M, fdivF (.int (a.den : Int)) (.int (G : Int)) M = ok (.int (P : Int)) M := fun M => by
    rw [fdivE Gb (by omega) (Int.natCast_dvd_natCast.mpr (by rw [hG]; exact Nat.gcd_dvd_left _ _)) (by omega), e1]
  have d2 : ∀ M, fdivF (.int (b.den : Int)) (.int (G : Int)) M = ok (.int (Q : Int)) M := fun M => by
    rw [fdivE Gb (by omega) (Int.natCast_dvd_natCast.mpr (by rw [hG]; exact Nat.gcd_dvd_right _ _)) (by omega), e2]
  have m1 : ∀ M, mulF (.int a.num) (.int (Q : Int)) M = ok (.int (a.num * (Q : Int))) M := fun M => mulB ha.n qb (by omega)
  have m2 : ∀ M, mulF (.int b.num) (.int (P : Int)) M = ok (.int (b.num * (P : Int))) M := fun M => mulB hb.n pb (by omega)
  have d3 : ∀ M, fdivF (.int N) (.int (C : Int)) M = ok (.int (N / (C : Int))) M := fun M => fdivE Cb (by omega) (by rw [hC]; exact Int.ofNat_dvd_left.mpr (Nat.gcd_dvd_left _ _)) (by omega)
  have d4 : ∀ M, fdivF (.int (b.den : Int)) (.int (C : Int)) M = ok (.int ((b.den / C : Nat) : Int)) M := fun M => by
    rw [fdivE Cb (by omega) (Int.natCast_dvd_natCast.mpr cd) (by omega), Int.natCast_ediv]
  have m3 : ∀ M, mulF (.int (P : Int)) (.int ((b.den / C : Nat) : Int)) M = ok (.int ((P * (b.den / C) : Nat) : Int)) M := fun M => by
    rw [mulB pb (l := k) (Nat.lt_of_le_of_lt (Nat.div_le_self _ _) hb.d) (by omega), Int.natCast_mul]
  have m4 : ∀ M, mulF (.int a.num) (.int (b.den : Int)) M = ok (.int (a.num * (b.den : Int))) M := fun M => mulB ha.n hb.db (by omega)
  have m5 : ∀ M, mulF (.int b.num) (.int (a.den : Int)) M = ok (.int (b.num * (a.den : Int))) M := fun M => mulB hb.n ha.db (by omega)
  have m6 : ∀ M, mulF (.int (a.den : Int)) (.int (b.den : Int)) M = ok (.int ((a.den : Int) * (b.den : Int))) M := fun M => mulB ha.db hb.db (by omega)
  show m_plus [.tup [.int a.num, .int (a.den : Int)], .tup [.int b.num, .int (b.den : Int)]] M = ok (.tup [.int (a + b).num, .int ((a + b).den : Int)]) M
  by_cases hg1 : G = 1
  · have en1 : (a + b).num = a.num * (b.den : Int) + b.num * (a.den : Int) := by
      rw [en, hC, hN, hg1, hP, hQ, ← hG, hg1, Nat.gcd_one_right, Nat.div_one, Nat.div_one, Int.natCast_one, Int.ediv_one]
    have ed1 : ((a + b).den : Int) = (a.den : Int) * (b.den : Int) := by
      rw [ed, hC, hg1, hP, ← hG, hg1, Nat.gcd_one_right, Nat.div_one, Nat.div_one, Int.natCast_mul]
    rw [en1, ed1]
    have g0 : ∀ M, gcdF [.int (a.den : Int), .int (b.den : Int)] M = ok (.int 1) M := fun M => by rw [g1, hg1]; rfl
    clear g1 g2 d1 d2 m1 m2 d3 d4 m3 en ed en1 ed1 e1 e2 pb qb Gb Cb cd cp gle gpos
    clear hC hN hP hQ hG
    generalize a.num * (b.den : Int) = y1 at *
    generalize b.num * (a.den : Int) = y2 at *
    generalize (a.den : Int) * (b.den : Int) = y3 at *
    generalize (a.den : Int) = u at *
    generalize (b.den : Int) = v at *
    generalize a.num = s at *
    generalize b.num = t at *
    simp [ofBody, seqS, ifS, retS, raiseS, consA, nilA, binD, callD, nameD, cD, bindE_v, thenS_v, unD, parS, asgS, tupD, int2F, eq_int, ne_int, intF0, negF, nilS, absF, brD, fnD, addE, subE, ix0, ix1, dropS, asgG, tupG, consG, nameG, nilG, m_plus, den_plus, g0, m4, m5, m6]
  rw [en, ed]
  have hg2 : (G : Int) ≠ 1 := by omega
  obtain ⟨r1, hr1⟩ : ∃ x, x = N / (C : Int) := ⟨_, rfl⟩
  obtain ⟨r2, hr2⟩ : ∃ x : Int, x = ((P * (b.den / C) : Nat) : Int) := ⟨_, rfl⟩
  obtain ⟨r3, hr3⟩ : ∃ x : Int, x = ((b.den / C : Nat) : Int) := ⟨_, rfl⟩
  rw [← hr1] at d3 ⊢
  rw [← hr2] at m3 ⊢
  rw [← hr3] at m3 d4
  clear hr1 hr2 hr3 en ed e1 e2 hC hP hQ hG m4 m5 m6
  generalize (C : Int) = c at *
  generalize (G : Int) = g at *
  generalize (P : Int) = p at *
  generalize (Q : Int) = q at *
  generalize (a.den : Int) = u at *
  generalize (b.den : Int) = v at *
  generalize a.num = s at *
  generalize b.num = t at *
  simp [ofBody, seqS, ifS, retS, raiseS, consA, nilA, binD, callD, nameD, cD, bindE_v, thenS_v, unD, parS, asgS, tupD, int2F, eq_int, ne_int, intF0, negF, nilS, absF, brD, fnD, addE, subE, ix0, ix1, dropS, asgG, tupG, consG, nameG, nilG, m_plus, den_plus, g1, hg2, g2, d1, d2, d3, d4, m1, m2, m3, ← hN]
end
theorem red_rat {x y : Int} (h0 : y ≠ 0) : fp (red x y) = qD (Rat.divInt x y) := by
  have en : (Rat.divInt x y).num = y.sign * x / ((Nat.gcd x.natAbs y.natAbs : Nat) : Int) := by
    rw [Rat.num_divInt]
    unfold Int.gcd
    rw [Nat.gcd_comm]
  have ed : ((Rat.divInt x y).den : Int) = y.sign * y / ((Nat.gcd x.natAbs y.natAbs : Nat) : Int) := by
    rw [Rat.den_divInt, if_neg h0]
    unfold Int.gcd
    rw [Nat.gcd_comm, Int.sign_mul_self, Int.natCast_ediv]
  show D.tup [.int (red x y).1, .int (red x y).2] = .tup [.int (Rat.divInt x y).num, .int ((Rat.divInt x y).den : Int)]
  rw [en, ed]
  unfold red
  rcases Int.lt_or_lt_of_ne h0 with h | h
  · rw [if_pos h, Int.sign_eq_neg_one_of_neg h, show -1 * x = -x by omega, show -1 * y = -y by omega]
  · rw [if_neg (by omega), Int.sign_eq_one_of_pos h, Int.one_mul, Int.one_mul]
theorem fr_rat {a b : Int} {k : Nat} (ha : Bd k a) (hb : Bd k b) (pb : 0 < b) (gb : Nat.gcd a.natAbs b.natAbs = 1) : ∃ r : Rat, fr a b = qD r ∧ r = Rat.divInt a b ∧ Sz k r := by
  have e : ((b.natAbs : Nat) : Int) = b := by omega
  refine ⟨⟨a, b.natAbs, by omega, gb⟩, ?_, ?_, ⟨ha, hb⟩⟩
  · show D.tup [.int a, .int b] = .tup [.int a, .int ((b.natAbs : Nat) : Int)]
    rw [e]
  · rw [rat_div ⟨a, b.natAbs, by omega, gb⟩]
    show Rat.divInt a ((b.natAbs : Nat) : Int) = _
    rw [e]
theorem plus_eq {a b c d : Int} {k : Nat} {M : Store} (ha : Bd k a) (hb : Bd k b) (hc : Bd k c) (hd : Bd k d) (hk : k + k < 9000) (pb : 0 < b) (gb : Nat.gcd a.natAbs b.natAbs = 1) (pd : 0 < d) (gd : Nat.gcd c.natAbs d.natAbs = 1) : m_plus [fr a b, fr c d] M = ok (fp (red (a * d + c * b) (b * d))) M := by
  obtain ⟨A, eA, dA, sA⟩ := fr_rat ha hb pb gb
  obtain ⟨B, eB, dB, sB⟩ := fr_rat hc hd pd gd
  rw [red_rat (Int.mul_ne_zero (by omega) (by omega)), eA, eB, plus_ok sA sB hk, dA, dB, Rat.divInt_add_divInt _ _ (by omega) (by omega)]
theorem less_eq {a b c d : Int} {k : Nat} {M : Store} (ha : Bd k a) (hb : Bd k b) (hc : Bd k c) (hd : Bd k d) (hk : k + k < 9000) (pb : 0 < b) (gb : Nat.gcd a.natAbs b.natAbs = 1) (pd : 0 < d) (gd : Nat.gcd c.natAbs d.natAbs = 1) : m_less [fr a b, fr c d] M = ok (fp (red (a * d - c * b) (b * d))) M := by
  have q : ∀ M, m_plus [fr a b, fr (-c) d] M = ok (fp (red (a * d - c * b) (b * d))) M := fun M => by
    rw [plus_eq ha hb hc.neg hd hk pb gb pd (by rw [Int.natAbs_neg]; exact gd), Int.neg_mul, ← Int.sub_eq_add_neg]
  simp [ofBody, seqS, ifS, retS, raiseS, consA, nilA, binD, callD, nameD, cD, bindE_v, thenS_v, unD, parS, asgS, tupD, int2F, eq_int, ne_int, intF0, negF, nilS, absF, brD, fnD, addE, subE, ix0, ix1, dropS, m_less, den_less, q]
theorem times_eq {a b c d : Int} {k : Nat} {M : Store} (ha : Bd k a) (hb : Bd k b) (hc : Bd k c) (hd : Bd k d) (hk : k + k < 9000) (pb : 0 < b) (gb : Nat.gcd a.natAbs b.natAbs = 1) (pd : 0 < d) (gd : Nat.gcd c.natAbs d.natAbs = 1) : m_times [fr a b, fr c d] M = ok (fp (red (a * c) (b * d))) M := by
  obtain ⟨A, eA, dA, sA⟩ := fr_rat ha hb pb gb
  obtain ⟨B, eB, dB, sB⟩ := fr_rat hc hd pd gd
  rw [red_rat (Int.mul_ne_zero (by omega) (by omega)), eA, eB, times_ok sA sB (by omega) (by omega), dA, dB, Rat.divInt_mul_divInt]
theorem by_eq {a b c d : Int} {k : Nat} {M : Store} (ha : Bd k a) (hb : Bd k b) (hc : Bd k c) (hd : Bd k d) (hk : k + k < 9000) (pb : 0 < b) (gb : Nat.gcd a.natAbs b.natAbs = 1) (pd : 0 < d) (gd : Nat.gcd c.natAbs d.natAbs = 1) (h2 : c ≠ 0) : m_by [fr a b, fr c d] M = ok (fp (red (a * d) (b * c))) M := by
  rcases Int.lt_or_lt_of_ne h2 with h | h
  · have q2 : ∀ M, m_times [fr a b, .tup [.int (-d), .int (-c)]] M = ok (fp (red (a * d) (b * c))) M := fun M => by
      have q := times_eq (M := M) ha hb hd.neg hc.neg hk pb gb (by omega) (by rw [Int.natAbs_neg, Int.natAbs_neg, Nat.gcd_comm]; exact gd)
      rw [red_rat (Int.mul_ne_zero (by omega) (by omega)), show a * -d = -1 * (a * d) by rw [Int.mul_neg, Int.neg_mul, Int.one_mul], show b * -c = -1 * (b * c) by rw [Int.mul_neg, Int.neg_mul, Int.one_mul], Rat.divInt_mul_left (by decide)] at q
      rw [red_rat (Int.mul_ne_zero (by omega) h2)]
      exact q
    generalize fp (red (a * d) (b * c)) = R at *
    generalize fr a b = Q at *
    simp [ofBody, seqS, ifS, retS, raiseS, consA, nilA, binD, callD, nameD, cD, bindE_v, thenS_v, unD, parS, asgS, tupD, int2F, eq_int, ne_int, intF0, negF, nilS, absF, brD, fnD, addE, subE, ix0, ix1, dropS, asgG, tupG, consG, nameG, nilG, m_by, den_by, fr, h2, h, q2]
  · have q2 : ∀ M, m_times [fr a b, .tup [.int d, .int c]] M = ok (fp (red (a * d) (b * c))) M := fun M => times_eq (M := M) ha hb hd hc hk pb gb h (by rw [Nat.gcd_comm]; exact gd)
    have h' : ¬ c < 0 := by omega
    generalize fp (red (a * d) (b * c)) = R at *
    generalize fr a b = Q at *
    simp [ofBody, seqS, ifS, retS, raiseS, consA, nilA, binD, callD, nameD, cD, bindE_v, thenS_v, unD, parS, asgS, tupD, int2F, eq_int, ne_int, intF0, negF, nilS, absF, brD, fnD, addE, subE, ix0, ix1, dropS, asgG, tupG, consG, nameG, nilG, m_by, den_by, fr, h2, h', q2]
theorem by_nought {a b d : Int} {M : Store} : m_by [fr a b, fr 0 d] M = some (.exc "BadFraction" [], M) := by
  simp [ofBody, seqS, ifS, retS, raiseS, consA, nilA, binD, callD, nameD, cD, bindE_v, thenS_v, unD, parS, asgS, tupD, int2F, eq_int, ne_int, intF0, negF, nilS, absF, brD, fnD, addE, subE, ix0, ix1, dropS, asgG, tupG, consG, nameG, nilG, m_by, den_by, fr]
end K01
namespace K01
open PySem L2 DL
theorem fmodE {i j : Int} {M : Store} (h : j ≠ 0) : fmodF (.int i) (.int j) M = ok (.int (i.fmod j)) M := by
  show (if decide (j ≠ 0) = true then _ else _) = _
  exact if_pos (decide_eq_true h)
theorem wl_true {dt : DenE} {body : DenS} {f : Nat} {e e' : DL.Env} {M M1 M' : Store} (h1 : dt e M = ok (.bl true) M1) (h2 : body e M1 = some (.nx e', M')) : whileS dt body (f + 1) e M = whileS dt body f e' M' := by
  rw [whileS, h1]
  simp only [ok, h2]
theorem wl_false {dt : DenE} {body : DenS} {f : Nat} {e : DL.Env} {M M1 : Store} (h1 : dt e M = ok (.bl false) M1) : whileS dt body (f + 1) e M = some (.nx e, M1) := by
  rw [whileS, h1]
  simp only [ok]
theorem euclid : ∀ (f n m : Nat) (a b : D) (M : Store), m < f →
    whileS (binD (neF) (nameD 3) (cD (.int 0))) (parS 2 3 (nameD 3) (binD fmodF (nameD 2) (nameD 3))) f [some a, some b, some (.int n), some (.int m), none] M = some (.nx [some a, some b, some (.int (Nat.gcd n m : Nat)), some (.int 0), none], M) := by
  intro f
  induction f with
  | zero => intro n m a b M h; omega
  | succ f ih =>
    intro n m a b M h
    by_cases h0 : m = 0
    · subst h0
      rw [wl_false (M1 := M) (by simp [ofBody, seqS, ifS, retS, raiseS, consA, nilA, binD, callD, nameD, cD, bindE_v, thenS_v, unD, parS, asgS, tupD, int2F, eq_int, ne_int, intF0, negF, nilS, absF, brD, fnD, addE, subE, ix0, ix1, dropS])]
      simp [ofBody, seqS, ifS, retS, raiseS, consA, nilA, binD, callD, nameD, cD, bindE_v, thenS_v, unD, parS, asgS, tupD, int2F, eq_int, ne_int, intF0, negF, nilS, absF, brD, fnD, addE, subE, ix0, ix1, dropS]
    · have q : ((n : Int).fmod (m : Int)) = ((n % m : Nat) : Int) := by
        rw [Int.fmod_eq_emod_of_nonneg _ (show (0 : Int) ≤ _ by omega)]
        simp [ofBody, seqS, ifS, retS, raiseS, consA, nilA, binD, callD, nameD, cD, bindE_v, thenS_v, unD, parS, asgS, tupD, int2F, eq_int, ne_int, intF0, negF, nilS, absF, brD, fnD, addE, subE, ix0, ix1, dropS]
      have hm : (m : Int) ≠ 0 := by omega
      have lt : n % m < f := Nat.lt_of_lt_of_le (Nat.mod_lt _ (Nat.pos_of_ne_zero h0)) (by omega)
      have := ih m (n % m) a b M lt
      have g : Nat.gcd m (n % m) = Nat.gcd n m := by rw [Nat.gcd_comm n m, Nat.gcd_rec m n, Nat.gcd_comm]
      rw [g] at this
      rw [wl_true (M1 := M) (M' := M) (e' := [some a, some b, some (.int m), some (.int (n % m : Nat)), none]) (by simp [ofBody, seqS, ifS, retS, raiseS, consA, nilA, binD, callD, nameD, cD, bindE_v, thenS_v, unD, parS, asgS, tupD, int2F, eq_int, ne_int, intF0, negF, nilS, absF, brD, fnD, addE, subE, ix0, ix1, dropS, h0]) (by simp [ofBody, seqS, ifS, retS, raiseS, consA, nilA, binD, callD, nameD, cD, bindE_v, thenS_v, unD, parS, asgS, tupD, int2F, eq_int, ne_int, intF0, negF, nilS, absF, brD, fnD, addE, subE, ix0, ix1, dropS, fmodE hm, q])]
      exact this
theorem natAbs_if (i : Int) : (if i < 0 then -i else i) = (i.natAbs : Int) := by split <;> omega
theorem low_eq {a b : Int} {k : Nat} {M : Store} (hb : Bd k b) (hk : k < 9000) (h0 : b ≠ 0) : m__law_low [.int a, .int b] M = ok (fp (red a b)) M := by
  have g0 := gcd_pos (a := a) h0
  have gl := gcd_le (a := a) h0
  have hg : ∀ x : Int, x.fdiv ((Nat.gcd a.natAbs b.natAbs : Nat) : Int) = x / ((Nat.gcd a.natAbs b.natAbs : Nat) : Int) := fun x => Int.fdiv_eq_ediv_of_nonneg _ (by omega)
  have hg2 : ∀ x : Int, x.fdiv (-((Nat.gcd a.natAbs b.natAbs : Nat) : Int)) = (-x) / ((Nat.gcd a.natAbs b.natAbs : Nat) : Int) := fun x => by
    rw [← hg, ← Int.neg_fdiv_neg x, Int.neg_neg]
  have hB : Bd k ((Nat.gcd a.natAbs b.natAbs : Nat) : Int) := hb.le (by simpa using gl)
  have hn : ((Nat.gcd a.natAbs b.natAbs : Nat) : Int) ≠ 0 := by omega
  have hn2 : -((Nat.gcd a.natAbs b.natAbs : Nat) : Int) ≠ 0 := by omega
  have eu := euclid (b.natAbs + 1) a.natAbs b.natAbs (.int a) (.int b) M (by omega)
  simp [ofBody, seqS, ifS, retS, raiseS, consA, nilA, binD, callD, nameD, cD, bindE_v, thenS_v, unD, parS, asgS, tupD, int2F, eq_int, ne_int, intF0, negF, nilS, absF, brD, fnD, addE, subE, ix0, ix1, dropS, m__law_low, den__law_low, natAbs_if, wlS, fuelN, eu]
  by_cases hs : 0 < b
  · have hs2 : ¬ b < 0 := by omega
    simp [ofBody, seqS, ifS, retS, raiseS, consA, nilA, binD, callD, nameD, cD, bindE_v, thenS_v, unD, parS, asgS, tupD, int2F, eq_int, ne_int, intF0, negF, nilS, absF, brD, fnD, addE, subE, ix0, ix1, dropS, hs, hs2, fdivB hB hn hk, hg, red]
  · have hs2 : b < 0 := by omega
    simp [ofBody, seqS, ifS, retS, raiseS, consA, nilA, binD, callD, nameD, cD, bindE_v, thenS_v, unD, parS, asgS, tupD, int2F, eq_int, ne_int, intF0, negF, nilS, absF, brD, fnD, addE, subE, ix0, ix1, dropS, hs, hs2, fdivB hB.neg hn2 hk, hg2, red]
theorem lplus_eq {a b c d : Int} {k : Nat} {M : Store} (ha : Bd k a) (hb : Bd k b) (hc : Bd k c) (hd : Bd k d) (hk : k + k < 9000) (h1 : b ≠ 0) (h2 : d ≠ 0) : m__law_plus [fr a b, fr c d] M = ok (fp (red (a * d + c * b) (b * d))) M := by
  have q1 : ∀ M, mulF (.int a) (.int d) M = ok (.int (a * d)) M := fun M => mulB ha hd (by omega)
  have q2 : ∀ M, mulF (.int c) (.int b) M = ok (.int (c * b)) M := fun M => mulB hc hb (by omega)
  have q3 : ∀ M, mulF (.int b) (.int d) M = ok (.int (b * d)) M := fun M => mulB hb hd (by omega)
  have q4 : ∀ M, m__law_low [.int (a * d + c * b), .int (b * d)] M = ok (fp (red (a * d + c * b) (b * d))) M := fun M => low_eq (hb.mul hd) hk (Int.mul_ne_zero h1 h2)
  simp [ofBody, seqS, ifS, retS, raiseS, consA, nilA, binD, callD, nameD, cD, bindE_v, thenS_v, unD, parS, asgS, tupD, int2F, eq_int, ne_int, intF0, negF, nilS, absF, brD, fnD, addE, subE, ix0, ix1, dropS, m__law_plus, den__law_plus, q1, q2, q3, q4]
theorem ltimes_eq {a b c d : Int} {k : Nat} {M : Store} (ha : Bd k a) (hb : Bd k b) (hc : Bd k c) (hd : Bd k d) (hk : k + k < 9000) (h1 : b ≠ 0) (h2 : d ≠ 0) : m__law_times [fr a b, fr c d] M = ok (fp (red (a * c) (b * d))) M := by
  have q1 : ∀ M, mulF (.int a) (.int c) M = ok (.int (a * c)) M := fun M => mulB ha hc (by omega)
  have q3 : ∀ M, mulF (.int b) (.int d) M = ok (.int (b * d)) M := fun M => mulB hb hd (by omega)
  have q4 : ∀ M, m__law_low [.int (a * c), .int (b * d)] M = ok (fp (red (a * c) (b * d))) M := fun M => low_eq (hb.mul hd) hk (Int.mul_ne_zero h1 h2)
  simp [ofBody, seqS, ifS, retS, raiseS, consA, nilA, binD, callD, nameD, cD, bindE_v, thenS_v, unD, parS, asgS, tupD, int2F, eq_int, ne_int, intF0, negF, nilS, absF, brD, fnD, addE, subE, ix0, ix1, dropS, m__law_times, den__law_times, q1, q3, q4]
theorem lby_eq {a b c d : Int} {k : Nat} {M : Store} (ha : Bd k a) (hb : Bd k b) (hc : Bd k c) (hd : Bd k d) (hk : k + k < 9000) (h1 : b ≠ 0) (h2 : c ≠ 0) : m__law_by [fr a b, fr c d] M = ok (fp (red (a * d) (b * c))) M := by
  have q1 : ∀ M, mulF (.int a) (.int d) M = ok (.int (a * d)) M := fun M => mulB ha hd (by omega)
  have q3 : ∀ M, mulF (.int b) (.int c) M = ok (.int (b * c)) M := fun M => mulB hb hc (by omega)
  have q4 : ∀ M, m__law_low [.int (a * d), .int (b * c)] M = ok (fp (red (a * d) (b * c))) M := fun M => low_eq (hb.mul hc) hk (Int.mul_ne_zero h1 h2)
  simp [ofBody, seqS, ifS, retS, raiseS, consA, nilA, binD, callD, nameD, cD, bindE_v, thenS_v, unD, parS, asgS, tupD, int2F, eq_int, ne_int, intF0, negF, nilS, absF, brD, fnD, addE, subE, ix0, ix1, dropS, m__law_by, den__law_by, q1, q3, q4]
end K01
namespace K01
open PySem L2 DL
theorem gt_int {i j : Int} {M : Store} : gtF (.int i) (.int j) M = ok (.bl (decide (j < i))) M := rfl
theorem and_int {i j : Int} {M : Store} : andF (.int i) (.int j) M = ok (.int (Builtin.bitAnd i j)) M := rfl
theorem shr1 {i : Int} {M : Store} : shrF (.int i) (.int 1) M = ok (.int (i / 2)) M := by
  show (if decide ((0 : Int) ≤ 1) = true then ok (D.int (i / 2 ^ (1 : Int).toNat)) M else none) = _
  rw [if_pos (by decide)]
  rfl
theorem tst_int {i : Int} {M : Store} : asT (.int i) M = ok (.bl (i != 0)) M := rfl
theorem wp_loop : ∀ (f n i j tot s : Nat) (a : Int) (M : Store), n < f → i + j * n = tot → Bd s a → (s * tot + 1) + (s * tot + 1) < 1000000 →
    ∃ b, whileS (binD (gtF) (nameD 1) (cD (.int 0))) (seqS (ifS (tstD (binD andF (nameD 1) (cD (.int 1)))) (asgS 2 (binD mulF (nameD 2) (nameD 0))) (nilS)) (seqS (asgS 1 (binD shrF (nameD 1) (cD (.int 1)))) (ifS (binD (gtF) (nameD 1) (cD (.int 0))) (asgS 0 (binD mulF (nameD 0) (nameD 0))) (nilS)))) f [some (.int (a ^ j)), some (.int n), some (.int (a ^ i))] M = some (.nx [some b, some (.int 0), some (.int (a ^ tot))], M) := by
  intro f
  induction f with
  | zero => intro n i j tot s a M h; omega
  | succ f ih =>
    intro n i j tot s a M h ht ha hs
    have bd : ∀ m, m ≤ tot → Bd (s * tot + 1) (a ^ m) := fun m hm => (ha.pow m).mono (by
      have := Nat.mul_le_mul_left s hm
      omega)
    by_cases h0 : n = 0
    · subst h0
      refine ⟨.int (a ^ j), ?_⟩
      rw [wl_false (M1 := M) (by simp [ofBody, seqS, ifS, retS, raiseS, consA, nilA, binD, callD, nameD, cD, bindE_v, thenS_v, unD, parS, asgS, tupD, int2F, eq_int, ne_int, intF0, negF, nilS, absF, brD, fnD, addE, subE, ix0, ix1, dropS])]
      have : i = tot := by omega
      rw [this]
      rfl
    · have hj : j ≤ tot := by
        have : j * 1 ≤ j * n := Nat.mul_le_mul_left j (by omega)
        omega
      have hi : i ≤ tot := by omega
      have jn : j * n = 2 * (j * (n / 2)) + j * (n % 2) := by
        conv => lhs; rw [show n = 2 * (n / 2) + n % 2 by omega, Nat.mul_add]
        rw [Nat.mul_left_comm]
      obtain ⟨N, hN⟩ : ∃ N : Int, N = n := ⟨_, rfl⟩
      obtain ⟨m, hm⟩ : ∃ m : Int, m = ((n / 2 : Nat) : Int) := ⟨_, rfl⟩
      obtain ⟨r, hr⟩ : ∃ r : Int, r = ((n % 2 : Nat) : Int) := ⟨_, rfl⟩
      have sh : ∀ M, shrF (.int N) (.int 1) M = ok (.int m) M := fun M => by rw [shr1, hN, hm]; rfl
      have an : ∀ M, andF (.int N) (.int 1) M = ok (.int r) M := fun M => by
        rw [and_int, PyProof.Rows.bitAnd_m1, hN, hr]
        rfl
      have mjj : ∀ M, mulF (.int (a ^ j)) (.int (a ^ j)) M = ok (.int (a ^ (j + j))) M := fun M => by
        rw [mulB (bd j hj) (bd j hj) hs, Int.pow_add]
      have mij : ∀ M, mulF (.int (a ^ i)) (.int (a ^ j)) M = ok (.int (a ^ (i + j))) M := fun M => by
        rw [mulB (bd i hi) (bd j hj) hs, Int.pow_add]
      have N0 : 0 < N := by omega
      have go : ∀ i', i' + 2 * (j * (n / 2)) = tot → (r = 0 → i' = i) → (r = 1 → i' = i + j) → ∃ b, whileS (binD (gtF) (nameD 1) (cD (.int 0))) (seqS (ifS (tstD (binD andF (nameD 1) (cD (.int 1)))) (asgS 2 (binD mulF (nameD 2) (nameD 0))) (nilS)) (seqS (asgS 1 (binD shrF (nameD 1) (cD (.int 1)))) (ifS (binD (gtF) (nameD 1) (cD (.int 0))) (asgS 0 (binD mulF (nameD 0) (nameD 0))) (nilS)))) (f + 1) [some (.int (a ^ j)), some (.int N), some (.int (a ^ i))] M = some (.nx [some b, some (.int 0), some (.int (a ^ tot))], M) := by
        intro i' hi' e0 e1
        have rr : r = 0 ∨ r = 1 := by omega
        by_cases hh : n / 2 = 0
        · have hm0 : m = 0 := by omega
          rw [wl_true (M1 := M) (M' := M) (e' := [some (.int (a ^ j)), some (.int m), some (.int (a ^ i'))]) (by simp [ofBody, seqS, ifS, retS, raiseS, consA, nilA, binD, callD, nameD, cD, bindE_v, thenS_v, unD, parS, asgS, tupD, int2F, eq_int, ne_int, intF0, negF, nilS, absF, brD, fnD, addE, subE, ix0, ix1, dropS, gt_int, N0]) ?_]
          · rw [hm]
            exact ih (n / 2) i' j tot s a M (by omega) (by rw [hh] at hi' ⊢; omega) ha hs
          · rcases rr with z | z
            · rw [e0 z]
              simp [ofBody, seqS, ifS, retS, raiseS, consA, nilA, binD, callD, nameD, cD, bindE_v, thenS_v, unD, parS, asgS, tupD, int2F, eq_int, ne_int, intF0, negF, nilS, absF, brD, fnD, addE, subE, ix0, ix1, dropS, tstD, an, sh, z, tst_int, gt_int, hm0]
            · rw [e1 z]
              simp [ofBody, seqS, ifS, retS, raiseS, consA, nilA, binD, callD, nameD, cD, bindE_v, thenS_v, unD, parS, asgS, tupD, int2F, eq_int, ne_int, intF0, negF, nilS, absF, brD, fnD, addE, subE, ix0, ix1, dropS, tstD, an, sh, z, tst_int, gt_int, hm0, mij]
        · have hp : 0 < m := by omega
          rw [wl_true (M1 := M) (M' := M) (e' := [some (.int (a ^ (j + j))), some (.int m), some (.int (a ^ i'))]) (by simp [ofBody, seqS, ifS, retS, raiseS, consA, nilA, binD, callD, nameD, cD, bindE_v, thenS_v, unD, parS, asgS, tupD, int2F, eq_int, ne_int, intF0, negF, nilS, absF, brD, fnD, addE, subE, ix0, ix1, dropS, gt_int, N0]) ?_]
          · rw [hm]
            exact ih (n / 2) i' (j + j) tot s a M (by omega) (by rw [Nat.add_mul]; omega) ha hs
          · rcases rr with z | z
            · rw [e0 z]
              simp [ofBody, seqS, ifS, retS, raiseS, consA, nilA, binD, callD, nameD, cD, bindE_v, thenS_v, unD, parS, asgS, tupD, int2F, eq_int, ne_int, intF0, negF, nilS, absF, brD, fnD, addE, subE, ix0, ix1, dropS, tstD, an, sh, z, tst_int, gt_int, hp, mjj]
            · rw [e1 z]
              simp [ofBody, seqS, ifS, retS, raiseS, consA, nilA, binD, callD, nameD, cD, bindE_v, thenS_v, unD, parS, asgS, tupD, int2F, eq_int, ne_int, intF0, negF, nilS, absF, brD, fnD, addE, subE, ix0, ix1, dropS, tstD, an, sh, z, tst_int, gt_int, hp, mij, mjj]
      rw [← hN]
      rcases Nat.mod_two_eq_zero_or_one n with z | z
      · exact go i (by rw [z, Nat.mul_zero] at jn; omega) (fun _ => rfl) (fun q => by omega)
      · exact go (i + j) (by rw [z, Nat.mul_one] at jn; omega) (fun q => by omega) (fun _ => rfl)
theorem wp_eq {a : Int} {n s : Nat} {M : Store} (ha : Bd s a) (hs : (s * n + 1) + (s * n + 1) < 1000000) : m__whole_power [.int a, .int n] M = ok (.int (a ^ n)) M := by
  obtain ⟨b, h⟩ := wp_loop (n + 1) n 0 1 n s a M (by omega) (by omega) ha hs
  rw [Int.pow_zero, Int.pow_succ, Int.pow_zero, Int.one_mul] at h
  simp [ofBody, seqS, ifS, retS, raiseS, consA, nilA, binD, callD, nameD, cD, bindE_v, thenS_v, unD, parS, asgS, tupD, int2F, eq_int, ne_int, intF0, negF, nilS, absF, brD, fnD, addE, subE, ix0, ix1, dropS, m__whole_power, den__whole_power, wlS, fuelN]
  rw [h]
  simp [ofBody, seqS, ifS, retS, raiseS, consA, nilA, binD, callD, nameD, cD, bindE_v, thenS_v, unD, parS, asgS, tupD, int2F, eq_int, ne_int, intF0, negF, nilS, absF, brD, fnD, addE, subE, ix0, ix1, dropS]
end K01
namespace K01
open PySem L2 DL
theorem lt_int {i j : Int} {M : Store} : ltF (.int i) (.int j) M = ok (.bl (decide (i < j))) M := rfl
theorem bindE_x {α β : Type} (c : String) (fs : List (Str × D)) (M : Store) (f : α → Store → RD β) : bindE (some (Out.exc c fs, M)) f = some (Out.exc c fs, M) := rfl
theorem thenS_x {α : Type} (c : String) (fs : List (Str × D)) (M : Store) (e : DL.Env) (f : α → Store → RS) : thenS (some (Out.exc c fs, M)) e f = some (.ex c fs e, M) := rfl
theorem power_pos_ {a b : Int} {n s : Nat} {M : Store} {j : Nat} (ha : Bd s a) (hb : Bd s b) (hs : (s * n + 1) + (s * n + 1) < 1000000) : m_power_ (j + 1) [fr a b, .int n] M = ok (fr (a ^ n) (b ^ n)) M := by
  have q1 : ∀ M, m__whole_power [.int a, .int n] M = ok (.int (a ^ n)) M := fun M => wp_eq ha hs
  have q2 : ∀ M, m__whole_power [.int b, .int n] M = ok (.int (b ^ n)) M := fun M => wp_eq hb hs
  have h0 : ¬ ((n : Int) < 0) := by omega
  obtain ⟨N, hN⟩ : ∃ N : Int, N = n := ⟨_, rfl⟩
  rw [← hN] at q1 q2 h0 ⊢
  simp [ofBody, seqS, ifS, retS, raiseS, consA, nilA, binD, callD, nameD, cD, bindE_v, thenS_v, unD, parS, asgS, tupD, int2F, eq_int, ne_int, intF0, negF, nilS, absF, brD, fnD, addE, subE, ix0, ix1, dropS, asgG, tupG, consG, nameG, nilG, m_power_, den_power, lt_int, h0, q1, q2]
theorem power_pos {a b : Int} {n s : Nat} {M : Store} (ha : Bd s a) (hb : Bd s b) (hs : (s * n + 1) + (s * n + 1) < 1000000) : m_power [fr a b, .int n] M = ok (fr (a ^ n) (b ^ n)) M := power_pos_ (j := 1) ha hb hs
theorem Bd.one {k : Nat} : Bd (k + 1) 1 := by
  unfold Bd
  have := Nat.one_lt_two_pow (n := k + 1) (by omega)
  simpa using this
theorem red_bd {a b : Int} {k : Nat} (h : b ≠ 0) (ha : Bd k a) (hb : Bd k b) : Bd k (red a b).1 ∧ Bd k (red a b).2 := ⟨ha.le (red_spec h).2.2.1, hb.le (red_spec h).2.2.2⟩
theorem power_neg {a b : Int} {n s : Nat} {M : Store} (ha : Bd (s + 1) a) (hb : Bd (s + 1) b) (pb : 0 < b) (gb : Nat.gcd a.natAbs b.natAbs = 1) (h0 : a ≠ 0) (h1 : 0 < n) (hk : (s + 1) + (s + 1) < 9000) (hs : ((s + 1) * n + 1) + ((s + 1) * n + 1) < 1000000) :
    m_power [fr a b, .int (-(n : Int))] M = ok (fr ((red b a).1 ^ n) ((red b a).2 ^ n)) M := by
  have q1 : ∀ M, m_by [fr 1 1, fr a b] M = ok (fp (red b a)) M := fun M => by
    rw [by_eq (k := s + 1) Bd.one Bd.one ha hb hk (by decide) (by decide) pb gb h0, Int.one_mul, Int.one_mul]
  obtain ⟨b1, b2⟩ := red_bd h0 hb ha
  have q2 : ∀ M, m_power_ 1 [fp (red b a), .int (n : Int)] M = ok (fr ((red b a).1 ^ n) ((red b a).2 ^ n)) M := fun M => power_pos_ (j := 0) b1 b2 hs
  have h3 : (-(n : Int)) < 0 := by omega
  obtain ⟨N, hN⟩ : ∃ N : Int, N = -(n : Int) := ⟨_, rfl⟩
  have hN2 : (n : Int) = -N := by omega
  rw [hN2] at q2
  rw [← hN] at h3 ⊢
  have e : m_power [fr a b, .int N] M = m_power_ (1 + 1) [fr a b, .int N] M := rfl
  rw [e]
  simp only [m_power_.eq_2 1]
  simp [ofBody, seqS, ifS, retS, raiseS, consA, nilA, binD, callD, nameD, cD, bindE_v, thenS_v, unD, parS, asgS, tupD, int2F, eq_int, ne_int, intF0, negF, nilS, absF, brD, fnD, addE, subE, ix0, ix1, dropS, asgG, tupG, consG, nameG, nilG, den_power, lt_int, h3, q1, q2]
theorem power_nought {b : Int} {n s : Nat} {M : Store} (hb : Bd (s + 1) b) (h1 : 0 < n) (hk : (s + 1) + (s + 1) < 9000) :
    m_power [fr 0 b, .int (-(n : Int))] M = some (.exc "BadFraction" [], M) := by
  have q1 : ∀ M, m_by [fr 1 1, fr 0 b] M = some (.exc "BadFraction" [], M) := fun M => by_nought
  have h3 : (-(n : Int)) < 0 := by omega
  obtain ⟨N, hN⟩ : ∃ N : Int, N = -(n : Int) := ⟨_, rfl⟩
  rw [← hN] at h3 ⊢
  have e : m_power [fr 0 b, .int N] M = m_power_ (1 + 1) [fr 0 b, .int N] M := rfl
  rw [e]
  simp only [m_power_.eq_2 1]
  simp [ofBody, seqS, ifS, retS, raiseS, consA, nilA, binD, callD, nameD, cD, bindE_v, thenS_v, unD, parS, asgS, tupD, int2F, eq_int, ne_int, intF0, negF, nilS, absF, brD, fnD, addE, subE, ix0, ix1, dropS, asgG, tupG, consG, nameG, nilG, den_power, lt_int, h3, q1, bindE_x, thenS_x]
end K01
namespace K01
open PySem L2 DL
theorem for_nx {i : Nat} {body : DenS} {d : D} {ds : List D} {e e' : DL.Env} {M M' : Store} (h : body (e.set i (some d)) M = some (.nx e', M')) : forS i body (d :: ds) e M = forS i body ds e' M' := by
  rw [forS, h]
/-- a fraction in lowest terms -/
structure Low (k : Nat) (a b : Int) : Prop where
  pos : 0 < b
  cop : Nat.gcd a.natAbs b.natAbs = 1
  ba : Bd k a
  bb : Bd k b
theorem red_pow {a b : Int} (n : Nat) (hp : 0 < b) (hc : Nat.gcd a.natAbs b.natAbs = 1) : red (a ^ n) (b ^ n) = (a ^ n, b ^ n) := by
  have c : Nat.gcd (a ^ n).natAbs (b ^ n).natAbs = 1 := by
    rw [Int.natAbs_pow, Int.natAbs_pow]
    exact Nat.Coprime.pow n n hc
  rw [red_cop c, if_neg]
  have := Int.pow_pos (m := n) hp
  omega
theorem lpow_loop {a b : Int} {s n : Nat} (h : Low s a b) (hk : (s * n + 1) + (s * n + 1) < 9000) (h1 : 1 ≤ n → s ≤ s * n + 1) : ∀ (ds : List D) (k : Nat) (x : D) (t : Option D) (M : Store), k + ds.length = n →
    ∃ t', forS 3 (asgS 2 (fnD m__law_times 2 [] (consA (nameD 2) (consA (nameD 0) (nilA))))) ds [some (fr a b), some x, some (fr (a ^ k) (b ^ k)), t] M = some (.nx [some (fr a b), some x, some (fr (a ^ n) (b ^ n)), t'], M)
  | [], k, x, t, M, hl => by
    have : k = n := by simpa using hl
    subst this
    exact ⟨t, rfl⟩
  | d :: ds, k, x, t, M, hl => by
    have hl' : k + 1 + ds.length = n := by simp [ofBody, seqS, ifS, retS, raiseS, consA, nilA, binD, callD, nameD, cD, bindE_v, thenS_v, unD, parS, asgS, tupD, int2F, eq_int, ne_int, intF0, negF, nilS, absF, brD, fnD, addE, subE, ix0, ix1, dropS, asgG, tupG, consG, nameG, nilG] at hl; omega
    obtain ⟨t', ih⟩ := lpow_loop h hk h1 ds (k + 1) x (some d) M hl'
    have n1 : 1 ≤ n := by omega
    have bd : ∀ c, Bd s c → Bd (s * n + 1) (c ^ k) := fun c hc => (hc.pow k).mono (by
      have := Nat.mul_le_mul_left s (show k ≤ n by omega)
      omega)
    have e : ∀ M, m__law_times [fr (a ^ k) (b ^ k), fr a b] M = ok (fr (a ^ (k + 1)) (b ^ (k + 1))) M := fun M => by
      rw [ltimes_eq (k := s * n + 1) (bd a h.ba) (bd b h.bb) (h.ba.mono (h1 n1)) (h.bb.mono (h1 n1)) hk (by have := Int.pow_pos (m := k) h.pos; omega) (by have := h.pos; omega), ← Int.pow_succ, ← Int.pow_succ, red_pow (k + 1) h.pos h.cop]
    refine ⟨t', ?_⟩
    rw [for_nx (M' := M) (e' := [some (fr a b), some x, some (fr (a ^ (k + 1)) (b ^ (k + 1))), some d]) (by simp [ofBody, seqS, ifS, retS, raiseS, consA, nilA, binD, callD, nameD, cD, bindE_v, thenS_v, unD, parS, asgS, tupD, int2F, eq_int, ne_int, intF0, negF, nilS, absF, brD, fnD, addE, subE, ix0, ix1, dropS, asgG, tupG, consG, nameG, nilG, e])]
    exact ih
theorem Low.pow {k : Nat} {a b : Int} (h : Low k a b) (n : Nat) : Low (k * n + 1) (a ^ n) (b ^ n) := ⟨Int.pow_pos h.pos, by rw [Int.natAbs_pow, Int.natAbs_pow]; exact Nat.Coprime.pow n n h.cop, h.ba.pow n, h.bb.pow n⟩
theorem rng_n (n : Nat) : (rngI 0 n).length = n := rng_len 0 n
theorem small_n {n : Nat} (h : n < 1000000) : small62 (n : Int) = true := by
  unfold small62
  simp [ofBody, seqS, ifS, retS, raiseS, consA, nilA, binD, callD, nameD, cD, bindE_v, thenS_v, unD, parS, asgS, tupD, int2F, eq_int, ne_int, intF0, negF, nilS, absF, brD, fnD, addE, subE, ix0, ix1, dropS, asgG, tupG, consG, nameG, nilG]
  omega
theorem mul_self_le {s n : Nat} (h : 1 ≤ n) : s ≤ s * n + 1 := by
  have := Nat.mul_le_mul_left s h
  omega
theorem lpower_pos {a b : Int} {n s : Nat} {M : Store} (h : Low s a b) (hk : (s * n + 1) + (s * n + 1) < 9000) (hn : n < 1000000) : m__law_power [fr a b, .int n] M = ok (fr (a ^ n) (b ^ n)) M := by
  obtain ⟨t', lp⟩ := lpow_loop h hk mul_self_le (rngI 0 n) 0 (.int n) none M (by rw [rng_n]; omega)
  rw [Int.pow_zero, Int.pow_zero] at lp
  have h0 : ¬ ((n : Int) < 0) := by omega
  have sm := small_n hn
  obtain ⟨N, hN⟩ : ∃ N : Int, N = (n : Int) := ⟨_, rfl⟩
  rw [← hN] at lp h0 sm ⊢
  have tn : N.toNat = n := by omega
  simp [ofBody, seqS, ifS, retS, raiseS, consA, nilA, binD, callD, nameD, cD, bindE_v, thenS_v, unD, parS, asgS, tupD, int2F, eq_int, ne_int, intF0, negF, nilS, absF, brD, fnD, addE, subE, ix0, ix1, dropS, asgG, tupG, consG, nameG, nilG, m__law_power, den__law_power, forR1, h0, sm, tn]
  rw [lp]
  simp [ofBody, seqS, ifS, retS, raiseS, consA, nilA, binD, callD, nameD, cD, bindE_v, thenS_v, unD, parS, asgS, tupD, int2F, eq_int, ne_int, intF0, negF, nilS, absF, brD, fnD, addE, subE, ix0, ix1, dropS, asgG, tupG, consG, nameG, nilG, lt_int, h0]
theorem lpower_neg {a b : Int} {n s : Nat} {M : Store} (h : Low s a b) (h0 : a ≠ 0) (h1 : 0 < n) (hk : (s * n + 1) + (s * n + 1) < 9000) (hn : n < 1000000) : m__law_power [fr a b, .int (-(n : Int))] M = ok (fp (red (b ^ n) (a ^ n))) M := by
  obtain ⟨t', lp⟩ := lpow_loop h hk mul_self_le (rngI 0 n) 0 (.int (-(n : Int))) none M (by rw [rng_n]; omega)
  rw [Int.pow_zero, Int.pow_zero] at lp
  have h2 : (-(n : Int)) < 0 := by omega
  have sm := small_n hn
  have q := (h.pow n)
  have e : ∀ M, m__law_by [fr 1 1, fr (a ^ n) (b ^ n)] M = ok (fp (red (b ^ n) (a ^ n))) M := fun M => by
    rw [lby_eq (k := s * n + 1) Bd.one Bd.one q.ba q.bb hk (by decide) (Int.pow_ne_zero h0), Int.one_mul, Int.one_mul]
  obtain ⟨N, hN⟩ : ∃ N : Int, N = -(n : Int) := ⟨_, rfl⟩
  rw [← hN] at lp h2 ⊢
  have tn : (-N).toNat = n := by omega
  have sm2 : small62 (-N) = true := by rw [hN, Int.neg_neg]; exact sm
  simp [ofBody, seqS, ifS, retS, raiseS, consA, nilA, binD, callD, nameD, cD, bindE_v, thenS_v, unD, parS, asgS, tupD, int2F, eq_int, ne_int, intF0, negF, nilS, absF, brD, fnD, addE, subE, ix0, ix1, dropS, asgG, tupG, consG, nameG, nilG, m__law_power, den__law_power, forR1, h2, sm2, tn]
  rw [lp]
  simp [ofBody, seqS, ifS, retS, raiseS, consA, nilA, binD, callD, nameD, cD, bindE_v, thenS_v, unD, parS, asgS, tupD, int2F, eq_int, ne_int, intF0, negF, nilS, absF, brD, fnD, addE, subE, ix0, ix1, dropS, asgG, tupG, consG, nameG, nilG, lt_int, h2, e]
theorem neg_pow (x : Int) : ∀ n : Nat, (n % 2 = 0 → (-x) ^ n = x ^ n) ∧ (n % 2 = 1 → (-x) ^ n = -(x ^ n))
  | 0 => by simp [ofBody, seqS, ifS, retS, raiseS, consA, nilA, binD, callD, nameD, cD, bindE_v, thenS_v, unD, parS, asgS, tupD, int2F, eq_int, ne_int, intF0, negF, nilS, absF, brD, fnD, addE, subE, ix0, ix1, dropS, asgG, tupG, consG, nameG, nilG]
  | n + 1 => by
    obtain ⟨h1, h2⟩ := neg_pow x n
    constructor
    · intro h
      rw [Int.pow_succ, Int.pow_succ, h2 (by omega), Int.neg_mul_neg]
    · intro h
      rw [Int.pow_succ, Int.pow_succ, h1 (by omega), Int.mul_neg]
theorem red_pow_neg {a b : Int} (n : Nat) (hp : 0 < b) (h0 : a ≠ 0) (hc : Nat.gcd a.natAbs b.natAbs = 1) : red (b ^ n) (a ^ n) = ((red b a).1 ^ n, (red b a).2 ^ n) := by
  have hc' : Nat.gcd b.natAbs a.natAbs = 1 := by rw [Nat.gcd_comm]; exact hc
  have c : Nat.gcd (b ^ n).natAbs (a ^ n).natAbs = 1 := by
    rw [Int.natAbs_pow, Int.natAbs_pow]
    exact Nat.Coprime.pow n n hc'
  rw [red_cop c, red_cop hc']
  by_cases hs : a < 0
  · rw [if_pos hs]
    have pp : 0 < (-a) ^ n := Int.pow_pos (by omega)
    rcases Nat.mod_two_eq_zero_or_one n with z | z
    · have e1 := (neg_pow a n).1 z
      have e2 := (neg_pow b n).1 z
      rw [if_neg (by omega), e1]
      rw [e2]
    · have e1 := (neg_pow a n).2 z
      have e2 := (neg_pow b n).2 z
      rw [if_pos (by omega), e1, e2]
  · rw [if_neg hs, if_neg]
    have := Int.pow_pos (m := n) (show 0 < a by omega)
    omega
end K01
namespace K01
open PySem L2 DL
theorem seq_nx {a b : DenS} {e e' : DL.Env} {M M' : Store} (h : a e M = some (.nx e', M')) : seqS a b e M = b e' M' := by
  unfold seqS
  rw [h]
theorem seq_rt {a b : DenS} {e : DL.Env} {d : D} {M M' : Store} (h : a e M = some (.rt d, M')) : seqS a b e M = some (.rt d, M') := by
  unfold seqS
  rw [h]
theorem body_rt {n : Nat} {den : DenS} {ds : List D} {d : D} {M M' : Store} (h : den (ds.map some ++ List.replicate (n - ds.length) none) M = some (.rt d, M')) : ofBody n den ds M = ok d M' := by
  unfold ofBody
  rw [h]
theorem ix_loc {n : Nat} {i : Int} {M : Store} {ds : List D} {d : D} (h : M[n]? = some (.lst ds)) (h2 : atI ds i = some d) : ixF (.loc n) (.int i) M = ok d M := by
  unfold ixF
  simp [ofBody, seqS, ifS, retS, raiseS, consA, nilA, binD, callD, nameD, cD, bindE_v, thenS_v, unD, parS, asgS, tupD, int2F, eq_int, ne_int, intF0, negF, nilS, absF, brD, fnD, addE, subE, ix0, ix1, dropS, asgG, tupG, consG, nameG, nilG, getL, h, h2]
theorem ix_scr {ns : List Int} {i : Int} {M : Store} {d : D} (h2 : atI (ns.map D.int) i = some d) : ixF (.scr ns) (.int i) M = ok d M := by
  unfold ixF
  simp [ofBody, seqS, ifS, retS, raiseS, consA, nilA, binD, callD, nameD, cD, bindE_v, thenS_v, unD, parS, asgS, tupD, int2F, eq_int, ne_int, intF0, negF, nilS, absF, brD, fnD, addE, subE, ix0, ix1, dropS, asgG, tupG, consG, nameG, nilG, getL, h2]
theorem len_scr {ns : List Int} {M : Store} : lenF [.scr ns] M = ok (.int (ns.length : Int)) M := by
  unfold lenF
  simp [ofBody, seqS, ifS, retS, raiseS, consA, nilA, binD, callD, nameD, cD, bindE_v, thenS_v, unD, parS, asgS, tupD, int2F, eq_int, ne_int, intF0, negF, nilS, absF, brD, fnD, addE, subE, ix0, ix1, dropS, asgG, tupG, consG, nameG, nilG, getL]
theorem at_mod {ns : List Int} {k : Nat} (h : 0 < ns.length) : ∃ z, atI (ns.map D.int) ((k : Int).fmod (ns.length : Int)) = some (.int z) := by
  have lt := Nat.mod_lt k h
  refine ⟨ns[k % ns.length], ?_⟩
  have e : (k : Int).fmod (ns.length : Int) = ((k % ns.length : Nat) : Int) := by
    rw [Int.fmod_eq_emod_of_nonneg _ (show (0 : Int) ≤ _ by omega)]
    rfl
  rw [e]
  unfold atI ixN
  rw [if_pos (by omega), if_pos (by rw [List.length_map]; omega)]
  show (ns.map D.int)[(((k % ns.length : Nat) : Int)).toNat]? = _
  rw [Int.toNat_natCast]
  simp [ofBody, seqS, ifS, retS, raiseS, consA, nilA, binD, callD, nameD, cD, bindE_v, thenS_v, unD, parS, asgS, tupD, int2F, eq_int, ne_int, intF0, negF, nilS, absF, brD, fnD, addE, subE, ix0, ix1, dropS, asgG, tupG, consG, nameG, nilG, lt]
theorem ge_int {i j : Int} {M : Store} : geF (.int i) (.int j) M = ok (.bl (decide (j ≤ i))) M := rfl
theorem pow_nat {i : Int} {n : Nat} {M : Store} (h : (i.natAbs.log2 + 1) * n ≤ 134217728) : powF (.int i) (.int (n : Int)) M = ok (.int (i ^ n)) M := by
  show (if decide ((0 : Int) ≤ (n : Int) ∧ (i.natAbs.log2 + 1) * (n : Int).toNat ≤ 134217728) = true then ok (D.int (i ^ (n : Int).toNat)) M else none) = _
  exact if_pos (decide_eq_true ⟨by omega, h⟩)
theorem own_loop : ∀ (ds : List D) (e : DL.Env) (M : Store) (own : Int), e.length = 6 → e[4]? = some (some (.int own)) →
    ∃ e' own', forS 5 (asgS 4 (binD fdivF (nameD 4) (cD (.int 306783379)))) ds e M = some (.nx e', M) ∧ e'.length = 6 ∧ e'[4]? = some (some (.int own')) ∧ e'[0]? = e[0]? ∧ e'[1]? = e[1]? ∧ e'[2]? = e[2]? ∧ e'[3]? = e[3]?
  | [], e, M, own, hl, h => ⟨e, own, rfl, hl, h, rfl, rfl, rfl, rfl⟩
  | d :: ds, e, M, own, hl, h => by
    have q : fdivF (.int own) (.int 306783379) M = ok (.int (own.fdiv 306783379)) M := fdivB (k := 29) (by unfold Bd; decide) (by decide) (by decide)
    have h4 : (e.set 5 (some d))[4]? = some (some (.int own)) := by rw [List.getElem?_set_ne (by decide)]; exact h
    obtain ⟨e', own', h1, h2, h3, g0, g1, g2, g3⟩ := own_loop ds ((e.set 5 (some d)).set 4 (some (.int (own.fdiv 306783379)))) M (own.fdiv 306783379) (by simp [ofBody, seqS, ifS, retS, raiseS, consA, nilA, binD, callD, nameD, cD, bindE_v, thenS_v, unD, parS, asgS, tupD, int2F, eq_int, ne_int, intF0, negF, nilS, absF, brD, fnD, addE, subE, ix0, ix1, dropS, asgG, tupG, consG, nameG, nilG, hl]) (by simp [ofBody, seqS, ifS, retS, raiseS, consA, nilA, binD, callD, nameD, cD, bindE_v, thenS_v, unD, parS, asgS, tupD, int2F, eq_int, ne_int, intF0, negF, nilS, absF, brD, fnD, addE, subE, ix0, ix1, dropS, asgG, tupG, consG, nameG, nilG, hl])
    refine ⟨e', own', ?_, h2, h3, ?_, ?_, ?_, ?_⟩
    · rw [for_nx (M' := M) (e' := (e.set 5 (some d)).set 4 (some (.int (own.fdiv 306783379)))) (by simp [ofBody, seqS, ifS, retS, raiseS, consA, nilA, binD, callD, nameD, cD, bindE_v, thenS_v, unD, parS, asgS, tupD, int2F, eq_int, ne_int, intF0, negF, nilS, absF, brD, fnD, addE, subE, ix0, ix1, dropS, asgG, tupG, consG, nameG, nilG, h, q])]
      exact h1
    · rw [g0]; simp [ofBody, seqS, ifS, retS, raiseS, consA, nilA, binD, callD, nameD, cD, bindE_v, thenS_v, unD, parS, asgS, tupD, int2F, eq_int, ne_int, intF0, negF, nilS, absF, brD, fnD, addE, subE, ix0, ix1, dropS, asgG, tupG, consG, nameG, nilG]
    · rw [g1]; simp [ofBody, seqS, ifS, retS, raiseS, consA, nilA, binD, callD, nameD, cD, bindE_v, thenS_v, unD, parS, asgS, tupD, int2F, eq_int, ne_int, intF0, negF, nilS, absF, brD, fnD, addE, subE, ix0, ix1, dropS, asgG, tupG, consG, nameG, nilG]
    · rw [g2]; simp [ofBody, seqS, ifS, retS, raiseS, consA, nilA, binD, callD, nameD, cD, bindE_v, thenS_v, unD, parS, asgS, tupD, int2F, eq_int, ne_int, intF0, negF, nilS, absF, brD, fnD, addE, subE, ix0, ix1, dropS, asgG, tupG, consG, nameG, nilG]
    · rw [g3]; simp [ofBody, seqS, ifS, retS, raiseS, consA, nilA, binD, callD, nameD, cD, bindE_v, thenS_v, unD, parS, asgS, tupD, int2F, eq_int, ne_int, intF0, negF, nilS, absF, brD, fnD, addE, subE, ix0, ix1, dropS, asgG, tupG, consG, nameG, nilG]
theorem rt_v {da : DenE} {e : DL.Env} {d : D} {M M' : Store} (h : da e M = ok d M') : retS da e M = some (.rt d, M') := by
  unfold retS
  rw [h]
  rfl
/-- the cell's last step -/
theorem last_step {base : Int} (h0 : 0 ≤ base) : ∃ c : Int, 0 ≤ c ∧ c < 306783379 ∧ ∀ (e : DL.Env) (M : Store), e[3]? = some (some (.int base)) → retS (binD fdivF (binD fmodF (binD powF (binD fmodF (nameD 3) (cD (.int 2147483647))) (cD (.int 5))) (cD (.int 2147483647))) (cD (.int 7))) e M = some (.rt (.int c), M) := by
  have e1 : ∀ M, fmodF (.int base) (.int 2147483647) M = ok (.int (base % 2147483647)) M := fun M => by
    rw [fmodE (by decide), Int.fmod_eq_emod_of_nonneg _ (by decide)]
  obtain ⟨r, hr⟩ : ∃ r, r = base % 2147483647 := ⟨_, rfl⟩
  have r0 : 0 ≤ r := by omega
  have r1 : r < 2147483647 := by omega
  have rb : Bd 31 r := by unfold Bd; omega
  have e2 : ∀ M, powF (.int r) (.int 5) M = ok (.int (r ^ 5)) M := fun M => pow_nat (n := 5) (by have := rb.lg; omega)
  have e3 : ∀ M, fmodF (.int (r ^ 5)) (.int 2147483647) M = ok (.int ((r ^ 5) % 2147483647)) M := fun M => by
    rw [fmodE (by decide), Int.fmod_eq_emod_of_nonneg _ (by decide)]
  obtain ⟨t, ht⟩ : ∃ t, t = (r ^ 5) % 2147483647 := ⟨_, rfl⟩
  have e4 : ∀ M, fdivF (.int t) (.int 7) M = ok (.int (t / 7)) M := fun M => by
    rw [fdivB (k := 3) (by unfold Bd; decide) (by decide) (by decide), Int.fdiv_eq_ediv_of_nonneg _ (by decide)]
  refine ⟨t / 7, by omega, by omega, fun e M h3 => rt_v ?_⟩
  rw [← hr] at e1
  rw [← ht] at e3
  simp [ofBody, seqS, ifS, retS, raiseS, consA, nilA, binD, callD, nameD, cD, bindE_v, thenS_v, unD, parS, asgS, tupD, int2F, eq_int, ne_int, intF0, negF, nilS, absF, brD, fnD, addE, subE, ix0, ix1, dropS, asgG, tupG, consG, nameG, nilG, h3, e1, e2, e3, e4]
theorem cell_eq {ns : List Int} {k0 : Nat} {M : Store} (h : M[0]? = some (.lst [.int k0])) (hk : k0 ≤ 1000) (hn : ns.length ≤ 63) : ∃ c : Int, 0 ≤ c ∧ c < 306783379 ∧ m__law_cell [.scr ns, .loc 0] M = ok (.int c) (M.set 0 (.lst [.int ((k0 + 1 : Nat) : Int)])) := by
  have lt : 0 < M.length := by
    rcases Nat.eq_zero_or_pos M.length with z | z
    · rw [List.length_eq_zero_iff.mp z] at h
      cases h
    · exact z
  obtain ⟨K, hK⟩ : ∃ K : Nat, K = k0 + 1 := ⟨_, rfl⟩
  obtain ⟨M', hM'⟩ : ∃ M', M' = M.set 0 (.lst [.int (K : Int)]) := ⟨_, rfl⟩
  have g' : M'[0]? = some (.lst [.int (K : Int)]) := by
    rw [hM']
    simp [ofBody, seqS, ifS, retS, raiseS, consA, nilA, binD, callD, nameD, cD, bindE_v, thenS_v, unD, parS, asgS, tupD, int2F, eq_int, ne_int, intF0, negF, nilS, absF, brD, fnD, addE, subE, ix0, ix1, dropS, asgG, tupG, consG, nameG, nilG, lt]
  rw [← hK, ← hM']
  have mB : ∀ (x y : Int) M, Bd 40 x → Bd 40 y → mulF (.int x) (.int y) M = ok (.int (x * y)) M := fun x y M h1 h2 => mulB h1 h2 (by decide)
  have bK : Bd 40 (K : Int) := by unfold Bd; omega
  have b31 : Bd 40 31 := by unfold Bd; decide
  have b79 : Bd 40 7919 := by unfold Bd; decide
  have b3k : Bd 40 (31 * (K : Int)) := by unfold Bd; omega
  have ba0 : (0 : Int) ≤ 31 * K * K + 7919 * K := by
    have : (0 : Int) ≤ 31 * (K : Int) * K := Int.mul_nonneg (by omega) (by omega)
    omega
  obtain ⟨base, hb⟩ : ∃ b : Int, b = 31 * K * K + 7919 * K := ⟨_, rfl⟩
  rw [← hb] at ba0
  have st1 : asgG (binD addF (binD ixF (nameD 1) (cD (.int 0))) (cD (.int 1))) (subG (nameD 1) (cD (.int 0))) [some (.scr ns), some (.loc 0), none, none, none, none] M = some (.nx [some (.scr ns), some (.loc 0), none, none, none, none], M') := by
    have z : ((k0 : Int) + 1) = (K : Int) := by omega
    simp [ofBody, seqS, ifS, retS, raiseS, consA, nilA, binD, callD, nameD, cD, bindE_v, thenS_v, unD, parS, asgS, tupD, int2F, eq_int, ne_int, intF0, negF, nilS, absF, brD, fnD, addE, subE, ix0, ix1, dropS, asgG, tupG, consG, nameG, nilG, ix_loc h (show atI [D.int (k0 : Int)] 0 = some (.int k0) from rfl), subG, h, z, hM', ixN]
  have st2 : asgS 2 (binD ixF (nameD 1) (cD (.int 0))) [some (.scr ns), some (.loc 0), none, none, none, none] M' = some (.nx [some (.scr ns), some (.loc 0), some (.int K), none, none, none], M') := by
    simp [ofBody, seqS, ifS, retS, raiseS, consA, nilA, binD, callD, nameD, cD, bindE_v, thenS_v, unD, parS, asgS, tupD, int2F, eq_int, ne_int, intF0, negF, nilS, absF, brD, fnD, addE, subE, ix0, ix1, dropS, asgG, tupG, consG, nameG, nilG, ix_loc g' (show atI [D.int (K : Int)] 0 = some (.int K) from rfl)]
  have st3 : asgS 3 (binD addF (binD mulF (binD mulF (cD (.int 31)) (nameD 2)) (nameD 2)) (binD mulF (cD (.int 7919)) (nameD 2))) [some (.scr ns), some (.loc 0), some (.int K), none, none, none] M' = some (.nx [some (.scr ns), some (.loc 0), some (.int K), some (.int base), none, none], M') := by
    simp [ofBody, seqS, ifS, retS, raiseS, consA, nilA, binD, callD, nameD, cD, bindE_v, thenS_v, unD, parS, asgS, tupD, int2F, eq_int, ne_int, intF0, negF, nilS, absF, brD, fnD, addE, subE, ix0, ix1, dropS, asgG, tupG, consG, nameG, nilG, mB _ _ _ b31 bK, mB _ _ _ b3k bK, mB _ _ _ b79 bK, hb]
  have st4 : (∃ c : Int, 0 ≤ c ∧ c < 306783379 ∧ (ifS (andD (binD (gtF) (callD (lenF) (consA (nameD 0) (nilA))) (cD (.int 0))) (andD (binD (geF) (binD ixF (nameD 0) (binD fmodF (nameD 2) (callD (lenF) (consA (nameD 0) (nilA))))) (binD powF (cD (.int 10)) (cD (.int 18)))) (binD (ltF) (binD fdivF (nameD 2) (callD (lenF) (consA (nameD 0) (nilA)))) (cD (.int 60))))) (seqS (asgS 4 (binD ixF (nameD 0) (binD fmodF (nameD 2) (callD (lenF) (consA (nameD 0) (nilA)))))) (seqS (forR1 5 (consA (binD fdivF (nameD 2) (callD (lenF) (consA (nameD 0) (nilA)))) (nilA)) (asgS 4 (binD fdivF (nameD 4) (cD (.int 306783379))))) (ifS (binD (gtF) (nameD 4) (cD (.int 0))) (retS (binD fmodF (nameD 4) (cD (.int 306783379)))) (nilS)))) (nilS)) [some (.scr ns), some (.loc 0), some (.int K), some (.int base), none, none] M' = some (.rt (.int c), M')) ∨
      (∃ e', (ifS (andD (binD (gtF) (callD (lenF) (consA (nameD 0) (nilA))) (cD (.int 0))) (andD (binD (geF) (binD ixF (nameD 0) (binD fmodF (nameD 2) (callD (lenF) (consA (nameD 0) (nilA))))) (binD powF (cD (.int 10)) (cD (.int 18)))) (binD (ltF) (binD fdivF (nameD 2) (callD (lenF) (consA (nameD 0) (nilA)))) (cD (.int 60))))) (seqS (asgS 4 (binD ixF (nameD 0) (binD fmodF (nameD 2) (callD (lenF) (consA (nameD 0) (nilA)))))) (seqS (forR1 5 (consA (binD fdivF (nameD 2) (callD (lenF) (consA (nameD 0) (nilA)))) (nilA)) (asgS 4 (binD fdivF (nameD 4) (cD (.int 306783379))))) (ifS (binD (gtF) (nameD 4) (cD (.int 0))) (retS (binD fmodF (nameD 4) (cD (.int 306783379)))) (nilS)))) (nilS)) [some (.scr ns), some (.loc 0), some (.int K), some (.int base), none, none] M' = some (.nx e', M') ∧ e'.length = 6 ∧ e'[0]? = some (some (.scr ns)) ∧ e'[2]? = some (some (.int K)) ∧ e'[3]? = some (some (.int base))) := by
    by_cases hl : ns.length = 0
    · refine .inr ⟨[some (.scr ns), some (.loc 0), some (.int K), some (.int base), none, none], ?_, rfl, rfl, rfl, rfl⟩
      simp [ofBody, seqS, ifS, retS, raiseS, consA, nilA, binD, callD, nameD, cD, bindE_v, thenS_v, unD, parS, asgS, tupD, int2F, eq_int, ne_int, intF0, negF, nilS, absF, brD, fnD, addE, subE, ix0, ix1, dropS, asgG, tupG, consG, nameG, nilG, andD, len_scr, gt_int, hl]
    · obtain ⟨z, hz⟩ := at_mod (ns := ns) (k := K) (by omega)
      have hl0 : (ns.length : Int) ≠ 0 := by omega
      have hl1 : 0 < (ns.length : Int) := by omega
      have hln : 0 < ns.length := by omega
      have fm : ∀ M, fmodF (.int (K : Int)) (.int (ns.length : Int)) M = ok (.int ((K : Int).fmod (ns.length : Int))) M := fun M => fmodE hl0
      have fd : ∀ M, fdivF (.int (K : Int)) (.int (ns.length : Int)) M = ok (.int ((K : Int).fdiv (ns.length : Int))) M := fun M => fdivB (k := 10) (by unfold Bd; omega) hl0 (by decide)
      have ix : ∀ M, ixF (.scr ns) (.int ((K : Int).fmod (ns.length : Int))) M = ok (.int z) M := fun M => ix_scr hz
      have p18 : ∀ M, powF (.int 10) (.int 18) M = ok (.int 1000000000000000000) M := fun M => pow_nat (n := 18) (by decide)
      obtain ⟨q, hq⟩ : ∃ q : Int, q = (K : Int).fdiv (ns.length : Int) := ⟨_, rfl⟩
      have q0 : 0 ≤ q := by
        rw [hq, Int.fdiv_eq_ediv_of_nonneg _ (by omega)]
        exact Int.ediv_nonneg (by omega) (by omega)
      have q1 : q ≤ 1001 := by
        rw [hq, Int.fdiv_eq_ediv_of_nonneg _ (by omega)]
        exact Int.le_trans (Int.ediv_le_self _ (by omega)) (by omega)
      rw [← hq] at fd
      by_cases c2 : (1000000000000000000 : Int) ≤ z
      · by_cases c3 : q < 60
        · have sm : small62 q = true := by
            have := small_n (n := q.toNat) (by omega)
            rwa [Int.toNat_of_nonneg q0] at this
          obtain ⟨e', own, o1, o2, o3, g0, g1, g2, g3⟩ := own_loop (rngI 0 q.toNat) [some (.scr ns), some (.loc 0), some (.int K), some (.int base), some (.int z), none] M' z rfl rfl
          by_cases c4 : 0 < own
          · left
            have fo : ∀ M, fmodF (.int own) (.int 306783379) M = ok (.int (own % 306783379)) M := fun M => by
              rw [fmodE (by decide), Int.fmod_eq_emod_of_nonneg _ (by decide)]
            refine ⟨own % 306783379, by omega, by omega, ?_⟩
            simp only [ifS, andD, brD, binD, callD, consA, nilA, nameD, cD, bindE_v, thenS_v, seqS, forR1, asgS, retS]
            simp [ofBody, seqS, ifS, retS, raiseS, consA, nilA, binD, callD, nameD, cD, bindE_v, thenS_v, unD, parS, asgS, tupD, int2F, eq_int, ne_int, intF0, negF, nilS, absF, brD, fnD, addE, subE, ix0, ix1, dropS, asgG, tupG, consG, nameG, nilG, len_scr, gt_int, fm, fd, ix, p18, ge_int, c2, lt_int, c3, hln, sm]
            rw [o1]
            simp [ofBody, seqS, ifS, retS, raiseS, consA, nilA, binD, callD, nameD, cD, bindE_v, thenS_v, unD, parS, asgS, tupD, int2F, eq_int, ne_int, intF0, negF, nilS, absF, brD, fnD, addE, subE, ix0, ix1, dropS, asgG, tupG, consG, nameG, nilG, o3, gt_int, c4, fo]
          · right
            refine ⟨e', ?_, o2, g0, g2, g3⟩
            simp only [ifS, andD, brD, binD, callD, consA, nilA, nameD, cD, bindE_v, thenS_v, seqS, forR1, asgS, retS]
            simp [ofBody, seqS, ifS, retS, raiseS, consA, nilA, binD, callD, nameD, cD, bindE_v, thenS_v, unD, parS, asgS, tupD, int2F, eq_int, ne_int, intF0, negF, nilS, absF, brD, fnD, addE, subE, ix0, ix1, dropS, asgG, tupG, consG, nameG, nilG, len_scr, gt_int, fm, fd, ix, p18, ge_int, c2, lt_int, c3, hln, sm]
            rw [o1]
            simp [ofBody, seqS, ifS, retS, raiseS, consA, nilA, binD, callD, nameD, cD, bindE_v, thenS_v, unD, parS, asgS, tupD, int2F, eq_int, ne_int, intF0, negF, nilS, absF, brD, fnD, addE, subE, ix0, ix1, dropS, asgG, tupG, consG, nameG, nilG, o3, gt_int, c4]
        · refine .inr ⟨[some (.scr ns), some (.loc 0), some (.int K), some (.int base), none, none], ?_, rfl, rfl, rfl, rfl⟩
          simp [ofBody, seqS, ifS, retS, raiseS, consA, nilA, binD, callD, nameD, cD, bindE_v, thenS_v, unD, parS, asgS, tupD, int2F, eq_int, ne_int, intF0, negF, nilS, absF, brD, fnD, addE, subE, ix0, ix1, dropS, asgG, tupG, consG, nameG, nilG, andD, len_scr, gt_int, fm, fd, ix, p18, ge_int, c2, lt_int, c3, hln]
      · refine .inr ⟨[some (.scr ns), some (.loc 0), some (.int K), some (.int base), none, none], ?_, rfl, rfl, rfl, rfl⟩
        simp [ofBody, seqS, ifS, retS, raiseS, consA, nilA, binD, callD, nameD, cD, bindE_v, thenS_v, unD, parS, asgS, tupD, int2F, eq_int, ne_int, intF0, negF, nilS, absF, brD, fnD, addE, subE, ix0, ix1, dropS, asgG, tupG, consG, nameG, nilG, andD, len_scr, gt_int, fm, fd, ix, p18, ge_int, c2, hln]
  have st5 : ∀ e' : DL.Env, e'.length = 6 → e'[0]? = some (some (.scr ns)) → e'[2]? = some (some (.int K)) → e'[3]? = some (some (.int base)) → ∃ (e2 : DL.Env) (b2 : Int), 0 ≤ b2 ∧ e2[3]? = some (some (.int b2)) ∧ (ifS (binD (gtF) (callD (lenF) (consA (nameD 0) (nilA))) (cD (.int 0))) (asgS 3 (binD addF (nameD 3) (binD mulF (binD fmodF (binD ixF (nameD 0) (binD fmodF (nameD 2) (callD (lenF) (consA (nameD 0) (nilA))))) (cD (.int 2147483629))) (binD addF (cD (.int 1)) (binD fdivF (nameD 2) (callD (lenF) (consA (nameD 0) (nilA)))))))) (nilS)) e' M' = some (.nx e2, M') := by
    intro e' h6 h0 h2 h3
    by_cases hl : ns.length = 0
    · refine ⟨e', base, ba0, h3, ?_⟩
      simp [ofBody, seqS, ifS, retS, raiseS, consA, nilA, binD, callD, nameD, cD, bindE_v, thenS_v, unD, parS, asgS, tupD, int2F, eq_int, ne_int, intF0, negF, nilS, absF, brD, fnD, addE, subE, ix0, ix1, dropS, asgG, tupG, consG, nameG, nilG, h0, len_scr, gt_int, hl]
    · obtain ⟨z, hz⟩ := at_mod (ns := ns) (k := K) (by omega)
      have hl0 : (ns.length : Int) ≠ 0 := by omega
      have hln : 0 < ns.length := by omega
      have fm : ∀ M, fmodF (.int (K : Int)) (.int (ns.length : Int)) M = ok (.int ((K : Int).fmod (ns.length : Int))) M := fun M => fmodE hl0
      have fd : ∀ M, fdivF (.int (K : Int)) (.int (ns.length : Int)) M = ok (.int ((K : Int).fdiv (ns.length : Int))) M := fun M => fdivB (k := 10) (by unfold Bd; omega) hl0 (by decide)
      have ix : ∀ M, ixF (.scr ns) (.int ((K : Int).fmod (ns.length : Int))) M = ok (.int z) M := fun M => ix_scr hz
      obtain ⟨q, hq⟩ : ∃ q : Int, q = (K : Int).fdiv (ns.length : Int) := ⟨_, rfl⟩
      have q0 : 0 ≤ q := by
        rw [hq, Int.fdiv_eq_ediv_of_nonneg _ (by omega)]
        exact Int.ediv_nonneg (by omega) (by omega)
      have q1 : q ≤ 1001 := by
        rw [hq, Int.fdiv_eq_ediv_of_nonneg _ (by omega)]
        exact Int.le_trans (Int.ediv_le_self _ (by omega)) (by omega)
      rw [← hq] at fd
      have fz : ∀ M, fmodF (.int z) (.int 2147483629) M = ok (.int (z % 2147483629)) M := fun M => by
        rw [fmodE (by decide), Int.fmod_eq_emod_of_nonneg _ (by decide)]
      obtain ⟨r, hr⟩ : ∃ r, r = z % 2147483629 := ⟨_, rfl⟩
      rw [← hr] at fz
      have r0 : 0 ≤ r := by omega
      have r1 : r < 2147483629 := by omega
      have mm := fun M => mB r (1 + q) M (by unfold Bd; omega) (by unfold Bd; omega)
      refine ⟨e'.set 3 (some (.int (base + r * (1 + q)))), base + r * (1 + q), ?_, ?_, ?_⟩
      · have : 0 ≤ r * (1 + q) := Int.mul_nonneg r0 (by omega)
        omega
      · simp [ofBody, seqS, ifS, retS, raiseS, consA, nilA, binD, callD, nameD, cD, bindE_v, thenS_v, unD, parS, asgS, tupD, int2F, eq_int, ne_int, intF0, negF, nilS, absF, brD, fnD, addE, subE, ix0, ix1, dropS, asgG, tupG, consG, nameG, nilG, h6]
      · simp [ofBody, seqS, ifS, retS, raiseS, consA, nilA, binD, callD, nameD, cD, bindE_v, thenS_v, unD, parS, asgS, tupD, int2F, eq_int, ne_int, intF0, negF, nilS, absF, brD, fnD, addE, subE, ix0, ix1, dropS, asgG, tupG, consG, nameG, nilG, h0, h2, h3, len_scr, gt_int, hln, fm, ix, fz, fd, mm]
  unfold m__law_cell den__law_cell
  rcases st4 with ⟨c, c0, c1, hc⟩ | ⟨e', he, h6, h0, h2, h3⟩
  · refine ⟨c, c0, c1, body_rt ?_⟩
    refine (seq_nx st1).trans ((seq_nx st2).trans ((seq_nx st3).trans (seq_rt hc)))
  · obtain ⟨e2, b2, b20, g3, h5⟩ := st5 e' h6 h0 h2 h3
    obtain ⟨c, c0, c1, hc⟩ := last_step b20
    refine ⟨c, c0, c1, body_rt ?_⟩
    exact (seq_nx st1).trans ((seq_nx st2).trans ((seq_nx st3).trans ((seq_nx he).trans ((seq_nx h5).trans (hc e2 M' g3)))))
end K01
namespace K01
open PySem L2 DL
theorem ix_lst {ds : List D} {i : Int} {M : Store} {d : D} (h : atI ds i = some d) : ixF (.lst ds) (.int i) M = ok d M := by
  unfold ixF
  simp [ofBody, seqS, ifS, retS, raiseS, consA, nilA, binD, callD, nameD, cD, bindE_v, thenS_v, unD, parS, asgS, tupD, int2F, eq_int, ne_int, intF0, negF, nilS, absF, brD, fnD, addE, subE, ix0, ix1, dropS, asgG, tupG, consG, nameG, nilG, lstD, getL, h]
theorem set_get {M : Store} {x : Ob} (lt : 0 < M.length) : (M.set 0 x)[0]? = some x := by simp [ofBody, seqS, ifS, retS, raiseS, consA, nilA, binD, callD, nameD, cD, bindE_v, thenS_v, unD, parS, asgS, tupD, int2F, eq_int, ne_int, intF0, negF, nilS, absF, brD, fnD, addE, subE, ix0, ix1, dropS, asgG, tupG, consG, nameG, nilG, lstD, lt]
theorem number_eq {ns : List Int} {k0 : Nat} {M : Store} (h : M[0]? = some (.lst [.int k0])) (hk : k0 ≤ 999) (hn : ns.length ≤ 63) : ∃ v : Int, Bd 179 v ∧ m__law_number [.scr ns, .loc 0] M = ok (.int v) (M.set 0 (.lst [.int ((k0 + 2 : Nat) : Int)])) := by
  have lt : 0 < M.length := by
    rcases Nat.eq_zero_or_pos M.length with z | z
    · rw [List.length_eq_zero_iff.mp z] at h
      cases h
    · exact z
  obtain ⟨n, n0, n1, hc⟩ := cell_eq (ns := ns) h (by omega) hn
  obtain ⟨c, c0, c1, hc2⟩ := cell_eq (ns := ns) (set_get (x := .lst [.int ((k0 + 1 : Nat) : Int)]) lt) (by omega) hn
  rw [List.set_set] at hc2
  obtain ⟨M1, hM1⟩ : ∃ M1, M1 = M.set 0 (.lst [.int ((k0 + 1 : Nat) : Int)]) := ⟨_, rfl⟩
  obtain ⟨M2, hM2⟩ : ∃ M2, M2 = M.set 0 (.lst [.int ((k0 + 1 + 1 : Nat) : Int)]) := ⟨_, rfl⟩
  rw [← hM1] at hc hc2
  rw [← hM2] at hc2
  rw [show k0 + 2 = k0 + 1 + 1 from rfl, ← hM2]
  have bn : Bd 29 n := by unfold Bd; omega
  have bc : Bd 29 c := by unfold Bd; omega
  have fd7 : ∀ M, fdivF (.int n) (.int 7) M = ok (.int (n / 7)) M := fun M => by
    rw [fdivB (k := 3) (by unfold Bd; decide) (by decide) (by decide), Int.fdiv_eq_ediv_of_nonneg _ (by decide)]
  have fm : ∀ (x y : Int) M, 0 < y → fmodF (.int x) (.int y) M = ok (.int (x % y)) M := fun x y M hy => by
    rw [fmodE (by omega), Int.fmod_eq_emod_of_nonneg _ (by omega)]
  obtain ⟨far, hf⟩ : ∃ f : Int, f = 1 - n / 7 % 2 * 2 := ⟨_, rfl⟩
  have far1 : far = 1 ∨ far = -1 := by omega
  obtain ⟨great, hg⟩ : ∃ g : Int, g = n * c + 1 := ⟨_, rfl⟩
  have bg : Bd 59 great := by rw [hg]; exact (bn.mul bc).add (Bd.one (k := 57))
  have m2 : ∀ M, mulF (.int (n / 7 % 2)) (.int 2) M = ok (.int (n / 7 % 2 * 2)) M := fun M => mulB (k := 1) (l := 2) (by unfold Bd; omega) (by unfold Bd; decide) (by decide)
  have mnc : ∀ M, mulF (.int n) (.int c) M = ok (.int (n * c)) M := fun M => mulB bn bc (by decide)
  have p3 : ∀ M, powF (.int great) (.int 3) M = ok (.int (great ^ 3)) M := fun M => pow_nat (n := 3) (by have := bg.lg; omega)
  have b3 : Bd 178 (great ^ 3) := bg.pow 3
  obtain ⟨i, hi⟩ : ∃ i, i = n % 7 := ⟨_, rfl⟩
  have key : ∃ w, Bd 178 w ∧ atI [D.int (n % 10), .int (n % 1000), .int n, .int great, .int (great ^ 3), .int 0, .int 1] i = some (.int w) := by
    have i7 : i = 0 ∨ i = 1 ∨ i = 2 ∨ i = 3 ∨ i = 4 ∨ i = 5 ∨ i = 6 := by omega
    rcases i7 with z | z | z | z | z | z | z
    · exact ⟨_, (show Bd 4 (n % 10) by unfold Bd; omega).mono (by decide), by rw [z]; rfl⟩
    · exact ⟨_, (show Bd 10 (n % 1000) by unfold Bd; omega).mono (by decide), by rw [z]; rfl⟩
    · exact ⟨_, bn.mono (by decide), by rw [z]; rfl⟩
    · exact ⟨_, bg.mono (by decide), by rw [z]; rfl⟩
    · exact ⟨_, b3, by rw [z]; rfl⟩
    · exact ⟨0, by unfold Bd; decide, by rw [z]; rfl⟩
    · exact ⟨1, by unfold Bd; decide, by rw [z]; rfl⟩
  obtain ⟨w, bw, hw⟩ := key
  have bf : Bd 1 far := by unfold Bd; omega
  refine ⟨w * far, (bw.mul bf).mono (by decide), ?_⟩
  have mw : ∀ M, mulF (.int w) (.int far) M = ok (.int (w * far)) M := fun M => mulB bw bf (by decide)
  simp [ofBody, seqS, ifS, retS, raiseS, consA, nilA, binD, callD, nameD, cD, bindE_v, thenS_v, unD, parS, asgS, tupD, int2F, eq_int, ne_int, intF0, negF, nilS, absF, brD, fnD, addE, subE, ix0, ix1, dropS, asgG, tupG, consG, nameG, nilG, lstD, m__law_number, den__law_number, hc, hc2, fd7, fm _ 2 _ (by decide : (0 : Int) < 2), m2, ← hf, mnc, ← hg, fm _ 10 _ (by decide : (0 : Int) < 10), fm _ 1000 _ (by decide : (0 : Int) < 1000), fm _ 7 _ (by decide : (0 : Int) < 7), p3, ← hi, ix_lst hw, mw]
end K01
namespace K01
open PySem L2 DL
/-- both looks tell the same -/
def Agree (d : D) : Prop := ∀ M : Store, ∃ v : Bool, m_is_fraction [d] M = ok (.bl v) M ∧ m__law_is_one [d] M = ok (.bl v) M
theorem shaped2 (p q : Int) : SeqAt.shaped (.tuple [.int p, .int q]) = true := by rfl
theorem eq_pair {p q a b : Int} {M : Store} : eqF (.tup [.int p, .int q]) (.tup [.int a, .int b]) M = ok (.bl (decide (p = a ∧ q = b))) M := by
  show (if SeqAt.shaped (.tuple [.int p, .int q]) = true ∧ SeqAt.shaped (.tuple [.int a, .int b]) = true then ok (D.bl (false != PyData.eqv (.tuple [.int p, .int q]) (.tuple [.int a, .int b]))) M else none) = _
  rw [if_pos ⟨shaped2 p q, shaped2 a b⟩]
  simp [ofBody, seqS, ifS, retS, raiseS, consA, nilA, binD, callD, nameD, cD, bindE_v, thenS_v, unD, parS, asgS, tupD, int2F, eq_int, ne_int, intF0, negF, nilS, absF, brD, fnD, addE, subE, ix0, ix1, dropS, asgG, tupG, consG, nameG, nilG, lstD, andD, orD, tstD, PyData.eqv, PyData.eqvAll]
  have e : ∀ i j : Int, (i == j) = decide (i = j) := fun i j => by
    by_cases h : i = j
    · simp [ofBody, seqS, ifS, retS, raiseS, consA, nilA, binD, callD, nameD, cD, bindE_v, thenS_v, unD, parS, asgS, tupD, int2F, eq_int, ne_int, intF0, negF, nilS, absF, brD, fnD, addE, subE, ix0, ix1, dropS, asgG, tupG, consG, nameG, nilG, lstD, andD, orD, tstD, h]
    · rw [beq_eq_false_iff_ne.mpr h, decide_eq_false h]
  rw [e, e]
theorem is_ty {a b : String} {M : Store} : isF false (.ty a) (.ty b) M = ok (.bl (decide (a = b))) M := by
  show ok (D.bl (false != decide (a = b))) M = _
  simp [ofBody, seqS, ifS, retS, raiseS, consA, nilA, binD, callD, nameD, cD, bindE_v, thenS_v, unD, parS, asgS, tupD, int2F, eq_int, ne_int, intF0, negF, nilS, absF, brD, fnD, addE, subE, ix0, ix1, dropS, asgG, tupG, consG, nameG, nilG, lstD, andD, orD, tstD]
theorem tst_bl {b : Bool} {M : Store} : asT (.bl b) M = ok (.bl b) M := rfl
theorem not_bl {b : Bool} {M : Store} : notF (.bl b) M = ok (.bl (!b)) M := rfl
/-- what a part is -/
def isI : D → Bool
  | .int _ => true
  | _ => false
def isB : D → Bool
  | .bl _ => true
  | _ => false
def part : D → Bool
  | .int _ => true
  | .bl _ => true
  | .str _ => true
  | .non => true
  | .tup _ => true
  | .lst _ => true
  | .emp => true
  | _ => false
theorem whole_eq {x : D} {M : Store} (h : part x = true) : m_is_whole [x] M = ok (.bl (isI x)) M := by
  cases x <;> first | exact Bool.noConfusion h | simp [ofBody, seqS, ifS, retS, raiseS, consA, nilA, binD, callD, nameD, cD, bindE_v, thenS_v, unD, parS, asgS, tupD, int2F, eq_int, ne_int, intF0, negF, nilS, absF, brD, fnD, addE, subE, ix0, ix1, dropS, asgG, tupG, consG, nameG, nilG, lstD, andD, orD, tstD, m_is_whole, den_is_whole, typF, tyN, is_ty, isI]
theorem isi_int {x : D} {M : Store} (h : part x = true) : isiA subT [x, .ty "int"] M = ok (.bl (isI x || isB x)) M := by
  cases x <;> first | exact Bool.noConfusion h | rfl
theorem isi_bool {x : D} {M : Store} (h : part x = true) : isiA subT [x, .ty "bool"] M = ok (.bl (isB x)) M := by
  cases x <;> first | exact Bool.noConfusion h | rfl
theorem agree_other {x : D} (h : part x = true) (ht : ∀ ds, x ≠ .tup ds) : Agree x := by
  intro M
  refine ⟨false, ?_, ?_⟩
  · cases x with
    | tup ds => exact absurd rfl (ht ds)
    | int _ => simp [ofBody, seqS, ifS, retS, raiseS, consA, nilA, binD, callD, nameD, cD, bindE_v, thenS_v, unD, parS, asgS, tupD, int2F, eq_int, ne_int, intF0, negF, nilS, absF, brD, fnD, addE, subE, ix0, ix1, dropS, asgG, tupG, consG, nameG, nilG, lstD, andD, orD, tstD, m_is_fraction, den_is_fraction, m_is_tuple_of, den_is_tuple_of, typF, tyN, is_ty, tst_bl, not_bl]
    | bl _ => simp [ofBody, seqS, ifS, retS, raiseS, consA, nilA, binD, callD, nameD, cD, bindE_v, thenS_v, unD, parS, asgS, tupD, int2F, eq_int, ne_int, intF0, negF, nilS, absF, brD, fnD, addE, subE, ix0, ix1, dropS, asgG, tupG, consG, nameG, nilG, lstD, andD, orD, tstD, m_is_fraction, den_is_fraction, m_is_tuple_of, den_is_tuple_of, typF, tyN, is_ty, tst_bl, not_bl]
    | str _ => simp [ofBody, seqS, ifS, retS, raiseS, consA, nilA, binD, callD, nameD, cD, bindE_v, thenS_v, unD, parS, asgS, tupD, int2F, eq_int, ne_int, intF0, negF, nilS, absF, brD, fnD, addE, subE, ix0, ix1, dropS, asgG, tupG, consG, nameG, nilG, lstD, andD, orD, tstD, m_is_fraction, den_is_fraction, m_is_tuple_of, den_is_tuple_of, typF, tyN, is_ty, tst_bl, not_bl]
    | non => simp [ofBody, seqS, ifS, retS, raiseS, consA, nilA, binD, callD, nameD, cD, bindE_v, thenS_v, unD, parS, asgS, tupD, int2F, eq_int, ne_int, intF0, negF, nilS, absF, brD, fnD, addE, subE, ix0, ix1, dropS, asgG, tupG, consG, nameG, nilG, lstD, andD, orD, tstD, m_is_fraction, den_is_fraction, m_is_tuple_of, den_is_tuple_of, typF, tyN, is_ty, tst_bl, not_bl]
    | lst _ => simp [ofBody, seqS, ifS, retS, raiseS, consA, nilA, binD, callD, nameD, cD, bindE_v, thenS_v, unD, parS, asgS, tupD, int2F, eq_int, ne_int, intF0, negF, nilS, absF, brD, fnD, addE, subE, ix0, ix1, dropS, asgG, tupG, consG, nameG, nilG, lstD, andD, orD, tstD, m_is_fraction, den_is_fraction, m_is_tuple_of, den_is_tuple_of, typF, tyN, is_ty, tst_bl, not_bl]
    | emp => simp [ofBody, seqS, ifS, retS, raiseS, consA, nilA, binD, callD, nameD, cD, bindE_v, thenS_v, unD, parS, asgS, tupD, int2F, eq_int, ne_int, intF0, negF, nilS, absF, brD, fnD, addE, subE, ix0, ix1, dropS, asgG, tupG, consG, nameG, nilG, lstD, andD, orD, tstD, m_is_fraction, den_is_fraction, m_is_tuple_of, den_is_tuple_of, typF, tyN, is_ty, tst_bl, not_bl]
    | _ => exact Bool.noConfusion h
  · have e : isiA subT [x, .ty "tuple"] M = ok (.bl false) M := by
      cases x with
      | tup ds => exact absurd rfl (ht ds)
      | int _ => rfl
      | bl _ => rfl
      | str _ => rfl
      | non => rfl
      | lst _ => rfl
      | emp => rfl
      | _ => exact Bool.noConfusion h
    simp [ofBody, seqS, ifS, retS, raiseS, consA, nilA, binD, callD, nameD, cD, bindE_v, thenS_v, unD, parS, asgS, tupD, int2F, eq_int, ne_int, intF0, negF, nilS, absF, brD, fnD, addE, subE, ix0, ix1, dropS, asgG, tupG, consG, nameG, nilG, lstD, andD, orD, tstD, m__law_is_one, den__law_is_one, e, tst_bl, not_bl]
theorem isi_tup {ds : List D} {M : Store} : isiA subT [.tup ds, .ty "tuple"] M = ok (.bl true) M := rfl
theorem len_tup {ds : List D} {M : Store} : lenF [.tup ds] M = ok (.int (ds.length : Int)) M := rfl
theorem typ_tup {ds : List D} {M : Store} : typF [.tup ds] M = ok (.ty "tuple") M := rfl
theorem agree_len {ds : List D} (h : ds.length ≠ 2) : Agree (.tup ds) := by
  intro M
  have h2 : ¬ ((ds.length : Int) = 2) := by omega
  refine ⟨false, ?_, ?_⟩
  · simp [ofBody, seqS, ifS, retS, raiseS, consA, nilA, binD, callD, nameD, cD, bindE_v, thenS_v, unD, parS, asgS, tupD, int2F, eq_int, ne_int, intF0, negF, nilS, absF, brD, fnD, addE, subE, ix0, ix1, dropS, asgG, tupG, consG, nameG, nilG, lstD, andD, orD, tstD, m_is_fraction, den_is_fraction, m_is_tuple_of, den_is_tuple_of, typ_tup, is_ty, tst_bl, not_bl, len_tup, h2]
  · simp [ofBody, seqS, ifS, retS, raiseS, consA, nilA, binD, callD, nameD, cD, bindE_v, thenS_v, unD, parS, asgS, tupD, int2F, eq_int, ne_int, intF0, negF, nilS, absF, brD, fnD, addE, subE, ix0, ix1, dropS, asgG, tupG, consG, nameG, nilG, lstD, andD, orD, tstD, m__law_is_one, den__law_is_one, isi_tup, tst_bl, not_bl, len_tup, h2]
theorem agree_two {x y : D} (hx : part x = true) (hy : part y = true) (h : (isI x && isI y) = false) : Agree (.tup [x, y]) := by
  intro M
  refine ⟨false, ?_, ?_⟩
  · cases e1 : isI x with
    | false => simp [ofBody, seqS, ifS, retS, raiseS, consA, nilA, binD, callD, nameD, cD, bindE_v, thenS_v, unD, parS, asgS, tupD, int2F, eq_int, ne_int, intF0, negF, nilS, absF, brD, fnD, addE, subE, ix0, ix1, dropS, asgG, tupG, consG, nameG, nilG, lstD, andD, orD, tstD, m_is_fraction, den_is_fraction, m_is_tuple_of, den_is_tuple_of, typ_tup, is_ty, tst_bl, not_bl, len_tup, whole_eq hx, e1]
    | true =>
      have e2 : isI y = false := by rw [e1] at h; exact h
      simp [ofBody, seqS, ifS, retS, raiseS, consA, nilA, binD, callD, nameD, cD, bindE_v, thenS_v, unD, parS, asgS, tupD, int2F, eq_int, ne_int, intF0, negF, nilS, absF, brD, fnD, addE, subE, ix0, ix1, dropS, asgG, tupG, consG, nameG, nilG, lstD, andD, orD, tstD, m_is_fraction, den_is_fraction, m_is_tuple_of, den_is_tuple_of, typ_tup, is_ty, tst_bl, not_bl, len_tup, whole_eq hx, whole_eq hy, e1, e2]
  · have ib : ∀ z, isI z = true → isB z = false := fun z q => by cases z <;> first | rfl | cases q
    cases e1 : isI x with
    | false =>
      cases e3 : isB x with
      | false => simp [ofBody, seqS, ifS, retS, raiseS, consA, nilA, binD, callD, nameD, cD, bindE_v, thenS_v, unD, parS, asgS, tupD, int2F, eq_int, ne_int, intF0, negF, nilS, absF, brD, fnD, addE, subE, ix0, ix1, dropS, asgG, tupG, consG, nameG, nilG, lstD, andD, orD, tstD, m__law_is_one, den__law_is_one, isi_tup, tst_bl, not_bl, len_tup, forTS, forS, isi_int hx, isi_bool hx, e1, e3]
      | true => simp [ofBody, seqS, ifS, retS, raiseS, consA, nilA, binD, callD, nameD, cD, bindE_v, thenS_v, unD, parS, asgS, tupD, int2F, eq_int, ne_int, intF0, negF, nilS, absF, brD, fnD, addE, subE, ix0, ix1, dropS, asgG, tupG, consG, nameG, nilG, lstD, andD, orD, tstD, m__law_is_one, den__law_is_one, isi_tup, tst_bl, not_bl, len_tup, forTS, forS, isi_int hx, isi_bool hx, e1, e3]
    | true =>
      have e2 : isI y = false := by rw [e1] at h; exact h
      cases e3 : isB y with
      | false => simp [ofBody, seqS, ifS, retS, raiseS, consA, nilA, binD, callD, nameD, cD, bindE_v, thenS_v, unD, parS, asgS, tupD, int2F, eq_int, ne_int, intF0, negF, nilS, absF, brD, fnD, addE, subE, ix0, ix1, dropS, asgG, tupG, consG, nameG, nilG, lstD, andD, orD, tstD, m__law_is_one, den__law_is_one, isi_tup, tst_bl, not_bl, len_tup, forTS, forS, isi_int hx, isi_bool hx, isi_int hy, isi_bool hy, e1, e2, e3, ib x e1]
      | true => simp [ofBody, seqS, ifS, retS, raiseS, consA, nilA, binD, callD, nameD, cD, bindE_v, thenS_v, unD, parS, asgS, tupD, int2F, eq_int, ne_int, intF0, negF, nilS, absF, brD, fnD, addE, subE, ix0, ix1, dropS, asgG, tupG, consG, nameG, nilG, lstD, andD, orD, tstD, m__law_is_one, den__law_is_one, isi_tup, tst_bl, not_bl, len_tup, forTS, forS, isi_int hx, isi_bool hx, isi_int hy, isi_bool hy, e1, e2, e3, ib x e1]
theorem gcdE {a b : Int} {M : Store} : gcdF [.int a, .int b] M = ok (.int ((Nat.gcd a.natAbs b.natAbs : Nat) : Int)) M := rfl
theorem agree_ints {a b : Int} {k : Nat} (hb : Bd k b) (hk : k < 9000) : Agree (fr a b) := by
  intro M
  by_cases h0 : 0 < b
  · have h1 : 1 ≤ b := by omega
    have lw : ∀ M, m__law_low [.int a, .int b] M = ok (fp (red a b)) M := fun M => low_eq hb hk (by omega)
    have key : ((red a b).1 = a ∧ (red a b).2 = b) ↔ Nat.gcd a.natAbs b.natAbs = 1 := by
      constructor
      · intro ⟨_, q⟩
        have e : (red a b).2 = b / ((Nat.gcd a.natAbs b.natAbs : Nat) : Int) := by
          unfold red
          rw [if_neg (by omega)]
        rw [e] at q
        have g0 := gcd_pos (a := a) (b := b) (by omega)
        rcases Nat.lt_or_ge 1 (Nat.gcd a.natAbs b.natAbs) with z | z
        · have : b / ((Nat.gcd a.natAbs b.natAbs : Nat) : Int) < b := Int.ediv_lt_self_of_pos_of_ne_one h0 (by omega)
          omega
        · omega
      · intro q
        rw [red_cop q, if_neg (by omega)]
        exact ⟨rfl, rfl⟩
    refine ⟨decide (Nat.gcd a.natAbs b.natAbs = 1), ?_, ?_⟩
    · have e : ((Nat.gcd a.natAbs b.natAbs : Nat) : Int) = 1 ↔ Nat.gcd a.natAbs b.natAbs = 1 := by omega
      simp [ofBody, seqS, ifS, retS, raiseS, consA, nilA, binD, callD, nameD, cD, bindE_v, thenS_v, unD, parS, asgS, tupD, int2F, eq_int, ne_int, intF0, negF, nilS, absF, brD, fnD, addE, subE, ix0, ix1, dropS, asgG, tupG, consG, nameG, nilG, lstD, andD, orD, tstD, m_is_fraction, den_is_fraction, m_is_tuple_of, den_is_tuple_of, typ_tup, is_ty, tst_bl, not_bl, len_tup, whole_eq (show part (.int a) = true from rfl), whole_eq (show part (.int b) = true from rfl), isI, ge_int, h1, gcdE]
      rw [decide_eq_decide.mpr e]
    · simp [ofBody, seqS, ifS, retS, raiseS, consA, nilA, binD, callD, nameD, cD, bindE_v, thenS_v, unD, parS, asgS, tupD, int2F, eq_int, ne_int, intF0, negF, nilS, absF, brD, fnD, addE, subE, ix0, ix1, dropS, asgG, tupG, consG, nameG, nilG, lstD, andD, orD, tstD, m__law_is_one, den__law_is_one, isi_tup, tst_bl, not_bl, len_tup, forTS, forS, isi_int (show part (.int a) = true from rfl), isi_bool (show part (.int a) = true from rfl), isi_int (show part (.int b) = true from rfl), isi_bool (show part (.int b) = true from rfl), isI, isB, gt_int, h0, lw, eq_pair, key]
  · have h1 : ¬ 1 ≤ b := by omega
    refine ⟨false, ?_, ?_⟩
    · simp [ofBody, seqS, ifS, retS, raiseS, consA, nilA, binD, callD, nameD, cD, bindE_v, thenS_v, unD, parS, asgS, tupD, int2F, eq_int, ne_int, intF0, negF, nilS, absF, brD, fnD, addE, subE, ix0, ix1, dropS, asgG, tupG, consG, nameG, nilG, lstD, andD, orD, tstD, m_is_fraction, den_is_fraction, m_is_tuple_of, den_is_tuple_of, typ_tup, is_ty, tst_bl, not_bl, len_tup, whole_eq (show part (.int a) = true from rfl), whole_eq (show part (.int b) = true from rfl), isI, ge_int, h1]
    · simp [ofBody, seqS, ifS, retS, raiseS, consA, nilA, binD, callD, nameD, cD, bindE_v, thenS_v, unD, parS, asgS, tupD, int2F, eq_int, ne_int, intF0, negF, nilS, absF, brD, fnD, addE, subE, ix0, ix1, dropS, asgG, tupG, consG, nameG, nilG, lstD, andD, orD, tstD, m__law_is_one, den__law_is_one, isi_tup, tst_bl, not_bl, len_tup, forTS, forS, isi_int (show part (.int a) = true from rfl), isi_bool (show part (.int a) = true from rfl), isi_int (show part (.int b) = true from rfl), isi_bool (show part (.int b) = true from rfl), isI, isB, gt_int, h0]
end K01
namespace K01
open PySem L2 DL
theorem add_lst {xs ys : List D} {M : Store} (h : xs.length + ys.length ≤ sizeLine) : addF (.lst xs) (.lst ys) M = ok (.lst (xs ++ ys)) M := by
  show (if xs.length + ys.length ≤ sizeLine then ok (D.lst (xs ++ ys)) M else none) = _
  rw [if_pos h]
theorem slc_lst {xs : List D} {lo hi st : Option Int} {M : Store} (h : st ≠ some 0) : slcF (.lst xs) lo hi st M = ok (.lst (pickL xs lo hi st)) M := by
  show (if st = some 0 then none else ok (D.lst (pickL xs lo hi st)) M) = _
  rw [if_neg h]
theorem str_int {i : Int} {M : Store} (h : i.natAbs.log2 < 1920) : strF [.int i] M = ok (.str (toString i)) M := if_pos h
theorem pick_mem {xs : List D} {lo hi st : Option Int} {d : D} (h : d ∈ pickL xs lo hi st) : d ∈ xs := by
  unfold pickL at h
  obtain ⟨i, _, h2⟩ := List.mem_filterMap.mp h
  exact List.mem_of_getElem? h2
theorem pick_len {xs : List D} {lo hi st : Option Int} {n : Nat} (h : xs.length = n) : (pickL xs lo hi st).length ≤ (sliceRange (sliceBounds lo hi st n).1 (sliceBounds lo hi st n).2.1 (sliceBounds lo hi st n).2.2).length := by
  rw [← h]
  exact List.length_filterMap_le _ _
theorem things_eq {a b : Int} {n : Int} {k : Nat} {M : Store} (ha : Bd k a) (hb : Bd k b) (hk : k < 1900) : ∃ ds : List D, m__law_things [fr a b, .int n] M = ok (.lst ds) M ∧ ∀ d ∈ ds, Agree d := by
  have b2 : Bd 2 2 := by unfold Bd; decide
  have m1 : ∀ M, mulF (.int 2) (.int a) M = ok (.int (2 * a)) M := fun M => mulB b2 ha (by omega)
  have m2 : ∀ M, mulF (.int 2) (.int b) M = ok (.int (2 * b)) M := fun M => mulB b2 hb (by omega)
  have s1 : ∀ M, strF [.int a] M = ok (.str (toString a)) M := fun M => str_int (by have := ha.lg; omega)
  have s2 : ∀ M, strF [.int b] M = ok (.str (toString b)) M := fun M => str_int (by have := hb.lg; omega)
  have fm : ∀ M, fmodF (.int n) (.int 5) M = ok (.int (n % 5)) M := fun M => by
    rw [fmodE (by decide), Int.fmod_eq_emod_of_nonneg _ (by decide)]
  obtain ⟨i, hi⟩ : ∃ i, i = n % 5 := ⟨_, rfl⟩
  rw [← hi] at fm
  obtain ⟨xs, hxs⟩ : ∃ xs : List D, xs = [fr a b, fr a (b + 1), fr (a + 1) b, fr (2 * a) (2 * b), fr (-a) (-b), fr a 0, .tup [.int a], .tup [.int a, .int b, .int 1], .lst [.int a, .int b], .int a,
    .tup [.str (PySem.Str.ofString a.repr), .int b], .tup [.int a, .str (PySem.Str.ofString b.repr)], .tup [.bl true, .int 1], .tup [.int 1, .bl true], .tup [.bl false, .int 1], fr 0 1, fr 0 2, fr 0 0, .non, .str "1/2", .emp, .tup [], .tup [fr 1 1, .int 1], .tup [.non, .int 1]] := ⟨_, rfl⟩
  refine ⟨pickL xs (some i) none (some 5) ++ pickL xs none (some 3) none, ?_, fun d hd => ?_⟩
  · have len : (pickL xs (some i) none (some 5)).length + (pickL xs none (some 3) none).length ≤ sizeLine := by
      have i5 : i = 0 ∨ i = 1 ∨ i = 2 ∨ i = 3 ∨ i = 4 := by omega
      have l24 : xs.length = 24 := by rw [hxs]; rfl
      have p1 := pick_len (lo := none) (hi := some 3) (st := none) l24
      have p2 : (pickL xs (some i) none (some 5)).length ≤ 24 := by
        rcases i5 with z | z | z | z | z <;> (rw [z]; exact Nat.le_trans (pick_len l24) (by decide))
      have p3 : (sliceRange (sliceBounds none (some 3) none 24).1 (sliceBounds none (some 3) none 24).2.1 (sliceBounds none (some 3) none 24).2.2).length ≤ 24 := by decide
      have p4 : 48 ≤ sizeLine := by decide
      omega
    have ad : ∀ (xs ys : List D) M, xs.length ≤ 30 → ys.length ≤ 30 → addF (.lst xs) (.lst ys) M = ok (.lst (xs ++ ys)) M := fun xs ys M h1 h2 => add_lst (by
      have p4 : 60 ≤ sizeLine := by decide
      omega)
    rw [hxs] at len ⊢
    simp [ofBody, seqS, ifS, retS, raiseS, consA, nilA, binD, callD, nameD, cD, bindE_v, thenS_v, unD, parS, asgS, tupD, int2F, eq_int, ne_int, intF0, negF, nilS, absF, brD, fnD, addE, subE, ix0, ix1, dropS, asgG, tupG, consG, nameG, nilG, lstD, andD, orD, tstD, slD, someO, noneO, empD, m__law_things, den__law_things, m1, m2, s1, s2, fm, ad, slc_lst]
    rw [add_lst len]
    simp [ofBody, seqS, ifS, retS, raiseS, consA, nilA, binD, callD, nameD, cD, bindE_v, thenS_v, unD, parS, asgS, tupD, int2F, eq_int, ne_int, intF0, negF, nilS, absF, brD, fnD, addE, subE, ix0, ix1, dropS, asgG, tupG, consG, nameG, nilG, lstD, andD, orD, tstD, slD, someO, noneO, empD]
  · have hm : d ∈ xs := by
      rcases List.mem_append.mp hd with z | z
      · exact pick_mem z
      · exact pick_mem z
    rw [hxs] at hm
    simp only [List.mem_cons, or_false, List.not_mem_nil] at hm
    have bz : ∀ m : Nat, Bd m 0 := fun m => by unfold Bd; simp [ofBody, seqS, ifS, retS, raiseS, consA, nilA, binD, callD, nameD, cD, bindE_v, thenS_v, unD, parS, asgS, tupD, int2F, eq_int, ne_int, intF0, negF, nilS, absF, brD, fnD, addE, subE, ix0, ix1, dropS, asgG, tupG, consG, nameG, nilG, lstD, andD, orD, tstD, slD, someO, noneO, empD]; exact Nat.pow_pos (by decide)
    rcases hm with rfl | rfl | rfl | rfl | rfl | rfl | rfl | rfl | rfl | rfl | rfl | rfl | rfl | rfl | rfl | rfl | rfl | rfl | rfl | rfl | rfl | rfl | rfl | rfl
    · exact agree_ints hb (by omega)
    · exact agree_ints (k := k + 2) ((hb.mono (by omega)).add (Bd.one (k := k))) (by omega)
    · exact agree_ints hb (by omega)
    · exact agree_ints (b2.mul hb) (by omega)
    · exact agree_ints hb.neg (by omega)
    · exact agree_ints (bz 1) (by omega)
    · exact agree_len (by simp [ofBody, seqS, ifS, retS, raiseS, consA, nilA, binD, callD, nameD, cD, bindE_v, thenS_v, unD, parS, asgS, tupD, int2F, eq_int, ne_int, intF0, negF, nilS, absF, brD, fnD, addE, subE, ix0, ix1, dropS, asgG, tupG, consG, nameG, nilG, lstD, andD, orD, tstD, slD, someO, noneO, empD])
    · exact agree_len (by simp [ofBody, seqS, ifS, retS, raiseS, consA, nilA, binD, callD, nameD, cD, bindE_v, thenS_v, unD, parS, asgS, tupD, int2F, eq_int, ne_int, intF0, negF, nilS, absF, brD, fnD, addE, subE, ix0, ix1, dropS, asgG, tupG, consG, nameG, nilG, lstD, andD, orD, tstD, slD, someO, noneO, empD])
    · exact agree_other rfl (fun _ z => nomatch z)
    · exact agree_other rfl (fun _ z => nomatch z)
    · exact agree_two rfl rfl rfl
    · exact agree_two rfl rfl rfl
    · exact agree_two rfl rfl rfl
    · exact agree_two rfl rfl rfl
    · exact agree_two rfl rfl rfl
    · exact agree_ints (k := 3) (by unfold Bd; decide) (by omega)
    · exact agree_ints (k := 3) (by unfold Bd; decide) (by omega)
    · exact agree_ints (bz 1) (by omega)
    · exact agree_other rfl (fun _ z => nomatch z)
    · exact agree_other rfl (fun _ z => nomatch z)
    · exact agree_other rfl (fun _ z => nomatch z)
    · exact agree_len (by simp [ofBody, seqS, ifS, retS, raiseS, consA, nilA, binD, callD, nameD, cD, bindE_v, thenS_v, unD, parS, asgS, tupD, int2F, eq_int, ne_int, intF0, negF, nilS, absF, brD, fnD, addE, subE, ix0, ix1, dropS, asgG, tupG, consG, nameG, nilG, lstD, andD, orD, tstD, slD, someO, noneO, empD])
    · exact agree_two rfl rfl rfl
    · exact agree_two rfl rfl rfl
end K01
namespace K01
open PySem L2 DL
abbrev pr (p : Int × Int) : PyData := .tuple [.int p.1, .int p.2]
def okP (p : Int × Int) : Prop := p.1.natAbs.log2 < 1920 ∧ p.2.natAbs.log2 < 1920
theorem text_len {i : Int} (h : i.natAbs.log2 < 1920) : (PySem.Str.ofString (toString i)).length ≤ 1921 := Nat.le_trans (Nat.le_of_eq (PySem.ofString_length _)) (PySem.int_text_length_le (Nat.zero_lt_succ _) h)
theorem pys_ps : ∀ ps : List (Int × Int), D.pys (ps.map fp) = some (ps.map pr)
  | [] => rfl
  | p :: ps => by
    show (match D.py (fp p), D.pys (ps.map fp) with
      | some q, some qs => some (q :: qs)
      | _, _ => none) = _
    rw [pys_ps ps]
    rfl
theorem sh_ps : ∀ ps : List (Int × Int), (∀ p ∈ ps, okP p) → PyData.showableAll (ps.map pr) = true ∧ PyData.hasDictAll (ps.map pr) = false ∧ PyData.depthAll (ps.map pr) ≤ 1 ∧ PyData.leavesShortAll 1921 (ps.map pr) = true ∧ PyData.bulkAll (ps.map pr) ≤ 10 * ps.length
  | [], _ => ⟨rfl, rfl, Nat.zero_le _, rfl, Nat.le_refl _⟩
  | p :: ps, h => by
    obtain ⟨h1, h2, h3, h4, h5⟩ := sh_ps ps fun q hq => h q (List.mem_cons_of_mem _ hq)
    obtain ⟨a1, a2⟩ := h p List.mem_cons_self
    have l1 := text_len a1
    have l2 := text_len a2
    refine ⟨?_, ?_, ?_, ?_, ?_⟩
    · simp [PyData.showableAll, PyData.showable, a1, a2, h1]
    · simp [PyData.hasDictAll, PyData.hasDict, h2]
    · simp [PyData.depthAll, PyData.depth, h3]
    · simp [PyData.leavesShortAll, PyData.leavesShort, h4, PyData.shown]
      exact ⟨l1, l2⟩
    · simp [PyData.bulkAll, PyData.bulk]
      omega
def txt (ps : List (Int × Int)) : Str := PyData.shown (.list (ps.map pr))
theorem repr_of {d : D} {M : Store} {ps : List (Int × Int)} (hp : pyV M d = some (.list (ps.map pr))) (h : ∀ p ∈ ps, okP p) (hl : ps.length ≤ 100) : reprF [d] M = ok (.str (txt ps)) M := by
  obtain ⟨h1, h2, h3, h4, h5⟩ := sh_ps ps h
  have c1 : PyData.showable (.list (ps.map pr)) = true := by simp only [PyData.showable]; exact h1
  have c2 : PyData.hasDict (.list (ps.map pr)) = false := by simp only [PyData.hasDict]; exact h2
  have c3 : PyData.depth (.list (ps.map pr)) ≤ 60 := by simp only [PyData.depth]; omega
  have c4 : (PyData.shown (.list (ps.map pr))).length ≤ sizeLine := by
    have q := PyData.shown_le_bulk 1921 (by decide) (.list (ps.map pr)) (by simp only [PyData.leavesShort]; exact h4)
    have q2 : PyData.bulk (.list (ps.map pr)) ≤ 1010 := by simp only [PyData.bulk]; omega
    have q3 : 1944151 ≤ sizeLine := by decide
    omega
  unfold reprF
  simp only [hp]
  exact if_pos ⟨c1, c2, c3, c4⟩
theorem repr_lst {M : Store} {ps : List (Int × Int)} (h : ∀ p ∈ ps, okP p) (hl : ps.length ≤ 100) : reprF [.lst (ps.map fp)] M = ok (.str (txt ps)) M := repr_of (by
  show (D.pys (ps.map fp)).map PyData.list = _
  rw [pys_ps]
  rfl) h hl
theorem repr_loc {M : Store} {n : Nat} {ps : List (Int × Int)} (hn : M[n]? = some (.lst (ps.map fp))) (h : ∀ p ∈ ps, okP p) (hl : ps.length ≤ 100) : reprF [.loc n] M = ok (.str (txt ps)) M := repr_of (by
  show (getL M (.loc n)).bind (fun ds => (D.pys ds).map PyData.list) = _
  have e : getL M (.loc n) = some (ps.map fp) := by simp [getL, hn]
  rw [e]
  show (D.pys (ps.map fp)).map PyData.list = _
  rw [pys_ps]
  rfl) h hl
theorem ne_str {x y : Str} {M : Store} : neF (.str x) (.str y) M = ok (.bl (!decide (x = y))) M := by
  show ok (D.bl (true != decide (x = y))) M = _
  simp
theorem eq_str {x y : Str} {M : Store} : eqF (.str x) (.str y) M = ok (.bl (decide (x = y))) M := by
  show ok (D.bl (false != decide (x = y))) M = _
  simp
end K01
namespace K01
open PySem L2 DL
theorem get_last {M : Store} {x : Ob} : (M ++ [x])[M.length]? = some x := by simp [ofBody, seqS, ifS, retS, raiseS, consA, nilA, binD, callD, nameD, cD, bindE_v, thenS_v, unD, parS, asgS, tupD, int2F, eq_int, ne_int, intF0, negF, nilS, absF, brD, fnD, addE, subE, ix0, ix1, dropS, asgG, tupG, consG, nameG, nilG, lstD, andD, orD, tstD, ownS, appS]
theorem set_last {M : Store} {x y : Ob} : (M ++ [x]).set M.length y = M ++ [y] := by simp [ofBody, seqS, ifS, retS, raiseS, consA, nilA, binD, callD, nameD, cD, bindE_v, thenS_v, unD, parS, asgS, tupD, int2F, eq_int, ne_int, intF0, negF, nilS, absF, brD, fnD, addE, subE, ix0, ix1, dropS, asgG, tupG, consG, nameG, nilG, lstD, andD, orD, tstD, ownS, appS]
theorem okP_of {k : Nat} {p : Int × Int} (h1 : Bd k p.1) (h2 : Bd k p.2) (hk : k < 1920) : okP p := ⟨Nat.lt_of_le_of_lt h1.lg hk, Nat.lt_of_le_of_lt h2.lg hk⟩
theorem gd_true {cden : Store → RE} {M M1 : Store} (h : cden M = some (.exc "BadFraction" [], M1)) : gd__law_refused cden M = some (.val (.bl true), M1) := by
  unfold gd__law_refused
  rw [h]
  rfl
theorem lam_true {db : DenE} {e : DL.Env} {M M1 : Store} (h : db e M = some (.exc "BadFraction" [], M1)) : lamD gd__law_refused db e M = ok (.bl true) M1 := by
  unfold lamD
  rw [gd_true h]
  rfl
theorem pair_eq {a b c d : Int} {number : Int} {M : Store} (h1 : Low 180 a b) (h2 : Low 180 c d) (n0 : -6 ≤ number) (n1 : number ≤ 6) : ∃ X : Store, m__law_pair_right [fr a b, fr c d, .int number] M = ok (.bl true) (M ++ X) := by
  obtain ⟨n, hn⟩ : ∃ n : Nat, n = number.natAbs := ⟨_, rfl⟩
  have n6 : n ≤ 6 := by omega
  have b0 : b ≠ 0 := by have := h1.pos; omega
  have d0 : d ≠ 0 := by have := h2.pos; omega
  have k2 : 180 + 180 < 9000 := by decide
  have ab : (if number < 0 then -number else number) = (n : Int) := by omega
  -- the first list
  have P := fun M => plus_eq (M := M) h1.ba h1.bb h2.ba h2.bb k2 h1.pos h1.cop h2.pos h2.cop
  have L := fun M => less_eq (M := M) h1.ba h1.bb h2.ba h2.bb k2 h1.pos h1.cop h2.pos h2.cop
  have T := fun M => times_eq (M := M) h1.ba h1.bb h2.ba h2.bb k2 h1.pos h1.cop h2.pos h2.cop
  have nc : Bd 180 (-c) := h2.ba.neg
  have LP := fun M => lplus_eq (M := M) h1.ba h1.bb h2.ba h2.bb k2 b0 d0
  have LL : ∀ M, m__law_plus [fr a b, fr (-c) d] M = ok (fp (red (a * d - c * b) (b * d))) M := fun M => by
    rw [lplus_eq (M := M) h1.ba h1.bb nc h2.bb k2 b0 d0, Int.neg_mul, ← Int.sub_eq_add_neg]
  have LT := fun M => ltimes_eq (M := M) h1.ba h1.bb h2.ba h2.bb k2 b0 d0
  have sn : (180 * n + 1) + (180 * n + 1) < 9000 := by omega
  have PW : ∀ M, m_power [fr a b, .int (n : Int)] M = ok (fp (a ^ n, b ^ n)) M := fun M => power_pos h1.ba h1.bb (by omega)
  have LW : ∀ M, m__law_power [fr a b, .int (n : Int)] M = ok (fp (a ^ n, b ^ n)) M := fun M => lpower_pos h1 sn (by omega)
  obtain ⟨p, hp⟩ : ∃ p, p = red (a * d + c * b) (b * d) := ⟨_, rfl⟩
  obtain ⟨l, hl⟩ : ∃ p, p = red (a * d - c * b) (b * d) := ⟨_, rfl⟩
  obtain ⟨t, ht⟩ : ∃ p, p = red (a * c) (b * d) := ⟨_, rfl⟩
  obtain ⟨w, hw⟩ : ∃ p : Int × Int, p = (a ^ n, b ^ n) := ⟨_, rfl⟩
  have bd0 : b * d ≠ 0 := Int.mul_ne_zero b0 d0
  have bbd : Bd 361 (b * d) := (h1.bb.mul h2.bb).mono (by decide)
  have op : okP p := by
    rw [hp]
    obtain ⟨x, y⟩ := red_bd (a := a * d + c * b) bd0 ((h1.ba.mul h2.bb).add (h2.ba.mul h1.bb)) bbd
    exact okP_of x y (by decide)
  have ol : okP l := by
    rw [hl]
    obtain ⟨x, y⟩ := red_bd (a := a * d - c * b) bd0 ((h1.ba.mul h2.bb).sub (h2.ba.mul h1.bb)) bbd
    exact okP_of x y (by decide)
  have ot : okP t := by
    rw [ht]
    obtain ⟨x, y⟩ := red_bd (a := a * c) bd0 ((h1.ba.mul h2.ba).mono (by decide : 180 + 180 ≤ 361)) bbd
    exact okP_of x y (by decide)
  have ow : okP w := by
    rw [hw]
    exact okP_of (h1.ba.pow n) (h1.bb.pow n) (by omega)
  rw [← hp] at P LP
  rw [← hl] at L LL
  rw [← ht] at T LT
  rw [← hw] at PW LW
  obtain ⟨N, hN⟩ : ∃ N : Int, N = (n : Int) := ⟨_, rfl⟩
  rw [← hN] at PW LW ab
  have rl : ∀ x ∈ [p, l, t, w], okP x := by
    intro x hx
    simp only [List.mem_cons, or_false, List.not_mem_nil] at hx
    rcases hx with rfl | rfl | rfl | rfl
    · exact op
    · exact ol
    · exact ot
    · exact ow
  have ad : ∀ M, addF (.lst [fp p, fp l]) (.lst [fp t, fp w]) M = ok (.lst [fp p, fp l, fp t, fp w]) M := fun M => add_lst (xs := [fp p, fp l]) (ys := [fp t, fp w]) (Nat.le_trans (Nat.le_refl 4) (by decide : 4 ≤ sizeLine))
  have s1 : ownS 3 (consA (fnD m_plus 2 [] (consA (nameD 0) (consA (nameD 1) (nilA)))) (consA (fnD m_less 2 [] (consA (nameD 0) (consA (nameD 1) (nilA)))) (consA (fnD m_times 2 [] (consA (nameD 0) (consA (nameD 1) (nilA)))) (nilA)))) [some (fr a b), some (fr c d), some (.int number), none, none, none, none] M =
      some (.nx [some (fr a b), some (fr c d), some (.int number), some (.loc M.length), none, none, none], M ++ [.lst [fp p, fp l, fp t]]) := by
    simp [ofBody, seqS, ifS, retS, raiseS, consA, nilA, binD, callD, nameD, cD, bindE_v, thenS_v, unD, parS, asgS, tupD, int2F, eq_int, ne_int, intF0, negF, nilS, absF, brD, fnD, addE, subE, ix0, ix1, dropS, asgG, tupG, consG, nameG, nilG, lstD, andD, orD, tstD, ownS, appS, P, L, T]
  have s2 : ∀ M' : Store, asgS 4 (callD (absF) (consA (nameD 2) (nilA))) [some (fr a b), some (fr c d), some (.int number), some (.loc M.length), none, none, none] M' = some (.nx [some (fr a b), some (fr c d), some (.int number), some (.loc M.length), some (.int N), none, none], M') := fun M' => by
    simp [ofBody, seqS, ifS, retS, raiseS, consA, nilA, binD, callD, nameD, cD, bindE_v, thenS_v, unD, parS, asgS, tupD, int2F, eq_int, ne_int, intF0, negF, nilS, absF, brD, fnD, addE, subE, ix0, ix1, dropS, asgG, tupG, consG, nameG, nilG, lstD, andD, orD, tstD, ownS, appS, ab]
  have s3 : ∀ M' : Store, asgS 5 (lstD (consA (fnD m__law_plus 2 [] (consA (nameD 0) (consA (nameD 1) (nilA)))) (consA (fnD m__law_plus 2 [] (consA (nameD 0) (consA (tupD (consA (binD subF (cD (.int 0)) (binD ixF (nameD 1) (cD (.int 0)))) (consA (binD ixF (nameD 1) (cD (.int 1))) (nilA)))) (nilA)))) (nilA)))) [some (fr a b), some (fr c d), some (.int number), some (.loc M.length), some (.int N), none, none] M' =
      some (.nx [some (fr a b), some (fr c d), some (.int number), some (.loc M.length), some (.int N), some (.lst [fp p, fp l]), none], M') := fun M' => by
    simp [ofBody, seqS, ifS, retS, raiseS, consA, nilA, binD, callD, nameD, cD, bindE_v, thenS_v, unD, parS, asgS, tupD, int2F, eq_int, ne_int, intF0, negF, nilS, absF, brD, fnD, addE, subE, ix0, ix1, dropS, asgG, tupG, consG, nameG, nilG, lstD, andD, orD, tstD, ownS, appS, LP, LL]
  have s4 : ∀ M' : Store, asgS 5 (binD addF (nameD 5) (lstD (consA (fnD m__law_times 2 [] (consA (nameD 0) (consA (nameD 1) (nilA)))) (consA (fnD m__law_power 2 [] (consA (nameD 0) (consA (nameD 4) (nilA)))) (nilA))))) [some (fr a b), some (fr c d), some (.int number), some (.loc M.length), some (.int N), some (.lst [fp p, fp l]), none] M' =
      some (.nx [some (fr a b), some (fr c d), some (.int number), some (.loc M.length), some (.int N), some (.lst [fp p, fp l, fp t, fp w]), none], M') := fun M' => by
    simp [ofBody, seqS, ifS, retS, raiseS, consA, nilA, binD, callD, nameD, cD, bindE_v, thenS_v, unD, parS, asgS, tupD, int2F, eq_int, ne_int, intF0, negF, nilS, absF, brD, fnD, addE, subE, ix0, ix1, dropS, asgG, tupG, consG, nameG, nilG, lstD, andD, orD, tstD, ownS, appS, LT, LW, ad]
  have s5 : appS (nameD 3) (fnD m_power 2 [] (consA (nameD 0) (consA (nameD 4) (nilA)))) [some (fr a b), some (fr c d), some (.int number), some (.loc M.length), some (.int N), some (.lst [fp p, fp l, fp t, fp w]), none] (M ++ [.lst [fp p, fp l, fp t]]) =
      some (.nx [some (fr a b), some (fr c d), some (.int number), some (.loc M.length), some (.int N), some (.lst [fp p, fp l, fp t, fp w]), none], M ++ [.lst [fp p, fp l, fp t, fp w]]) := by
    simp [ofBody, seqS, ifS, retS, raiseS, consA, nilA, binD, callD, nameD, cD, bindE_v, thenS_v, unD, parS, asgS, tupD, int2F, eq_int, ne_int, intF0, negF, nilS, absF, brD, fnD, addE, subE, ix0, ix1, dropS, asgG, tupG, consG, nameG, nilG, lstD, andD, orD, tstD, ownS, appS, PW, get_last, set_last]
  have r1 : ∀ M', (M' : Store)[M.length]? = some (.lst [fp p, fp l, fp t, fp w]) → reprF [.loc M.length] M' = ok (.str (txt [p, l, t, w])) M' := fun M' h => repr_loc h rl (by simp [ofBody, seqS, ifS, retS, raiseS, consA, nilA, binD, callD, nameD, cD, bindE_v, thenS_v, unD, parS, asgS, tupD, int2F, eq_int, ne_int, intF0, negF, nilS, absF, brD, fnD, addE, subE, ix0, ix1, dropS, asgG, tupG, consG, nameG, nilG, lstD, andD, orD, tstD, ownS, appS])
  have r2 : ∀ M', reprF [.lst [fp p, fp l, fp t, fp w]] M' = ok (.str (txt [p, l, t, w])) M' := fun M' => repr_lst (ps := [p, l, t, w]) rl (by simp [ofBody, seqS, ifS, retS, raiseS, consA, nilA, binD, callD, nameD, cD, bindE_v, thenS_v, unD, parS, asgS, tupD, int2F, eq_int, ne_int, intF0, negF, nilS, absF, brD, fnD, addE, subE, ix0, ix1, dropS, asgG, tupG, consG, nameG, nilG, lstD, andD, orD, tstD, ownS, appS])
  have s6 : ifS (binD (neF) (callD (reprF) (consA (nameD 3) (nilA))) (callD (reprF) (consA (nameD 5) (nilA)))) (retS (cD (.bl false))) (nilS) [some (fr a b), some (fr c d), some (.int number), some (.loc M.length), some (.int N), some (.lst [fp p, fp l, fp t, fp w]), none] (M ++ [.lst [fp p, fp l, fp t, fp w]]) =
      some (.nx [some (fr a b), some (fr c d), some (.int number), some (.loc M.length), some (.int N), some (.lst [fp p, fp l, fp t, fp w]), none], M ++ [.lst [fp p, fp l, fp t, fp w]]) := by
    simp [ofBody, seqS, ifS, retS, raiseS, consA, nilA, binD, callD, nameD, cD, bindE_v, thenS_v, unD, parS, asgS, tupD, int2F, eq_int, ne_int, intF0, negF, nilS, absF, brD, fnD, addE, subE, ix0, ix1, dropS, asgG, tupG, consG, nameG, nilG, lstD, andD, orD, tstD, ownS, appS, r1 _ get_last, r2, ne_str]
  obtain ⟨M1, hM1⟩ : ∃ M1, M1 = M ++ [.lst [fp p, fp l, fp t, fp w]] := ⟨_, rfl⟩
  rw [← hM1] at s5 s6
  by_cases c0 : c = 0
  · subst c0
    have by0 : ∀ M, m_by [fr a b, fr 0 d] M = some (.exc "BadFraction" [], M) := fun M => by_nought
    have pw0 : ∀ M, m_power [fr 0 d, .int (0 - 1 - N)] M = some (.exc "BadFraction" [], M) := fun M => by
      have e : (0 - 1 - N) = -((n + 1 : Nat) : Int) := by omega
      rw [e]
      exact power_nought (s := 179) h2.bb (by omega) (by decide)
    refine ⟨[.lst [fp p, fp l, fp t, fp w]], ?_⟩
    unfold m__law_pair_right den__law_pair_right
    rw [← hM1]
    refine body_rt ?_
    refine (seq_nx s1).trans ((seq_nx (s2 _)).trans ((seq_nx (s3 _)).trans ((seq_nx (s4 _)).trans ((seq_nx s5).trans ((seq_nx s6).trans (seq_rt ?_))))))
    have l1 : ∀ M', lamD gd__law_refused (fnD m_by 2 [] (consA (nameD 0) (consA (nameD 1) (nilA)))) [some (fr a b), some (fr 0 d), some (.int number), some (.loc M.length), some (.int N), some (.lst [fp p, fp l, fp t, fp w]), none] M' = ok (.bl true) M' := fun M' => lam_true (by simp [ofBody, seqS, ifS, retS, raiseS, consA, nilA, binD, callD, nameD, cD, bindE_v, thenS_v, unD, parS, asgS, tupD, int2F, eq_int, ne_int, intF0, negF, nilS, absF, brD, fnD, addE, subE, ix0, ix1, dropS, asgG, tupG, consG, nameG, nilG, lstD, andD, orD, tstD, ownS, appS, by0])
    have l2 : ∀ M', lamD gd__law_refused (fnD m_power 2 [] (consA (nameD 1) (consA (binD subF (binD subF (cD (.int 0)) (cD (.int 1))) (nameD 4)) (nilA)))) [some (fr a b), some (fr 0 d), some (.int number), some (.loc M.length), some (.int N), some (.lst [fp p, fp l, fp t, fp w]), some (.bl true)] M' = ok (.bl true) M' := fun M' => lam_true (by simp [ofBody, seqS, ifS, retS, raiseS, consA, nilA, binD, callD, nameD, cD, bindE_v, thenS_v, unD, parS, asgS, tupD, int2F, eq_int, ne_int, intF0, negF, nilS, absF, brD, fnD, addE, subE, ix0, ix1, dropS, asgG, tupG, consG, nameG, nilG, lstD, andD, orD, tstD, ownS, appS] at pw0; simp [ofBody, seqS, ifS, retS, raiseS, consA, nilA, binD, callD, nameD, cD, bindE_v, thenS_v, unD, parS, asgS, tupD, int2F, eq_int, ne_int, intF0, negF, nilS, absF, brD, fnD, addE, subE, ix0, ix1, dropS, asgG, tupG, consG, nameG, nilG, lstD, andD, orD, tstD, ownS, appS, pw0])
    simp [ofBody, seqS, ifS, retS, raiseS, consA, nilA, binD, callD, nameD, cD, bindE_v, thenS_v, unD, parS, asgS, tupD, int2F, eq_int, ne_int, intF0, negF, nilS, absF, brD, fnD, addE, subE, ix0, ix1, dropS, asgG, tupG, consG, nameG, nilG, lstD, andD, orD, tstD, ownS, appS, l1, l2]
  · have BY := fun M => by_eq (M := M) h1.ba h1.bb h2.ba h2.bb k2 h1.pos h1.cop h2.pos h2.cop c0
    have LBY := fun M => lby_eq (M := M) h1.ba h1.bb h2.ba h2.bb k2 b0 c0
    obtain ⟨y, hy⟩ : ∃ p, p = red (a * d) (b * c) := ⟨_, rfl⟩
    have oy : okP y := by
      rw [hy]
      obtain ⟨x, z⟩ := red_bd (a := a * d) (Int.mul_ne_zero b0 c0) (h1.ba.mul h2.bb) (h1.bb.mul h2.ba)
      exact okP_of x z (by decide)
    rw [← hy] at BY LBY
    have key : ∃ z : Int × Int, okP z ∧ (∀ M, m_power [fr c d, .int number] M = ok (fp z) M) ∧ (∀ M, m__law_power [fr c d, .int number] M = ok (fp z) M) := by
      by_cases hs : 0 ≤ number
      · have e : number = (n : Int) := by omega
        rw [e]
        exact ⟨(c ^ n, d ^ n), okP_of (h2.ba.pow n) (h2.bb.pow n) (by omega), fun M => power_pos h2.ba h2.bb (by omega), fun M => lpower_pos h2 sn (by omega)⟩
      · have e : number = -(n : Int) := by omega
        rw [e]
        obtain ⟨x, z⟩ := red_bd (a := d) c0 h2.bb h2.ba
        refine ⟨((red d c).1 ^ n, (red d c).2 ^ n), okP_of (x.pow n) (z.pow n) (by omega), fun M => power_neg (s := 179) h2.ba h2.bb h2.pos h2.cop c0 (by omega) (by decide) (by omega), fun M => ?_⟩
        rw [lpower_neg h2 c0 (by omega) sn (by omega), red_pow_neg n h2.pos c0 h2.cop]
    obtain ⟨z, oz, PZ, LZ⟩ := key
    have rl2 : ∀ x ∈ [y, z], okP x := by
      intro x hx
      simp only [List.mem_cons, or_false, List.not_mem_nil] at hx
      rcases hx with rfl | rfl
      · exact oy
      · exact oz
    have s7 : ifS (binD (eqF) (binD ixF (nameD 1) (cD (.int 0))) (cD (.int 0))) (seqS (asgS 6 (lamD gd__law_refused (fnD m_by 2 [] (consA (nameD 0) (consA (nameD 1) (nilA)))))) (retS (andD (nameD 6) (lamD gd__law_refused (fnD m_power 2 [] (consA (nameD 1) (consA (binD subF (binD subF (cD (.int 0)) (cD (.int 1))) (nameD 4)) (nilA)))))))) (nilS) [some (fr a b), some (fr c d), some (.int number), some (.loc M.length), some (.int N), some (.lst [fp p, fp l, fp t, fp w]), none] M1 = some (.nx [some (fr a b), some (fr c d), some (.int number), some (.loc M.length), some (.int N), some (.lst [fp p, fp l, fp t, fp w]), none], M1) := by
      simp [ofBody, seqS, ifS, retS, raiseS, consA, nilA, binD, callD, nameD, cD, bindE_v, thenS_v, unD, parS, asgS, tupD, int2F, eq_int, ne_int, intF0, negF, nilS, absF, brD, fnD, addE, subE, ix0, ix1, dropS, asgG, tupG, consG, nameG, nilG, lstD, andD, orD, tstD, ownS, appS, c0]
    have s8 : ownS 3 (consA (fnD m_by 2 [] (consA (nameD 0) (consA (nameD 1) (nilA)))) (consA (fnD m_power 2 [] (consA (nameD 1) (consA (nameD 2) (nilA)))) (nilA))) [some (fr a b), some (fr c d), some (.int number), some (.loc M.length), some (.int N), some (.lst [fp p, fp l, fp t, fp w]), none] M1 =
        some (.nx [some (fr a b), some (fr c d), some (.int number), some (.loc M1.length), some (.int N), some (.lst [fp p, fp l, fp t, fp w]), none], M1 ++ [.lst [fp y, fp z]]) := by
      simp [ofBody, seqS, ifS, retS, raiseS, consA, nilA, binD, callD, nameD, cD, bindE_v, thenS_v, unD, parS, asgS, tupD, int2F, eq_int, ne_int, intF0, negF, nilS, absF, brD, fnD, addE, subE, ix0, ix1, dropS, asgG, tupG, consG, nameG, nilG, lstD, andD, orD, tstD, ownS, appS, BY, PZ]
    have r3 : ∀ M', (M' : Store)[M1.length]? = some (.lst [fp y, fp z]) → reprF [.loc M1.length] M' = ok (.str (txt [y, z])) M' := fun M' h => repr_loc h rl2 (by simp [ofBody, seqS, ifS, retS, raiseS, consA, nilA, binD, callD, nameD, cD, bindE_v, thenS_v, unD, parS, asgS, tupD, int2F, eq_int, ne_int, intF0, negF, nilS, absF, brD, fnD, addE, subE, ix0, ix1, dropS, asgG, tupG, consG, nameG, nilG, lstD, andD, orD, tstD, ownS, appS])
    have r4 : ∀ M', reprF [.lst [fp y, fp z]] M' = ok (.str (txt [y, z])) M' := fun M' => repr_lst (ps := [y, z]) rl2 (by simp [ofBody, seqS, ifS, retS, raiseS, consA, nilA, binD, callD, nameD, cD, bindE_v, thenS_v, unD, parS, asgS, tupD, int2F, eq_int, ne_int, intF0, negF, nilS, absF, brD, fnD, addE, subE, ix0, ix1, dropS, asgG, tupG, consG, nameG, nilG, lstD, andD, orD, tstD, ownS, appS])
    refine ⟨[.lst [fp p, fp l, fp t, fp w]] ++ [.lst [fp y, fp z]], ?_⟩
    unfold m__law_pair_right den__law_pair_right
    rw [← List.append_assoc, ← hM1]
    refine body_rt ?_
    refine (seq_nx s1).trans ((seq_nx (s2 _)).trans ((seq_nx (s3 _)).trans ((seq_nx (s4 _)).trans ((seq_nx s5).trans ((seq_nx s6).trans ((seq_nx s7).trans ((seq_nx s8).trans ?_)))))))
    simp [ofBody, seqS, ifS, retS, raiseS, consA, nilA, binD, callD, nameD, cD, bindE_v, thenS_v, unD, parS, asgS, tupD, int2F, eq_int, ne_int, intF0, negF, nilS, absF, brD, fnD, addE, subE, ix0, ix1, dropS, asgG, tupG, consG, nameG, nilG, lstD, andD, orD, tstD, ownS, appS, r3 _ get_last, LBY, LZ, r4, eq_str]
end K01
namespace K01
open PySem L2 DL
def t1 : DenS := asgG (tupD (consA (fnD m__law_number 2 [] (consA (nameD 0) (consA (nameD 1) (nilA)))) (consA (fnD m__law_number 2 [] (consA (nameD 0) (consA (nameD 1) (nilA)))) (nilA)))) (tupG 2 (consG (nameG 3) (consG (nameG 4) (nilG))))
def t2 : DenS := parS 5 6 (fnD m__law_number 2 [] (consA (nameD 0) (consA (nameD 1) (nilA)))) (fnD m__law_number 2 [] (consA (nameD 0) (consA (nameD 1) (nilA))))
def t3 : DenS := asgS 7 (fnD m__law_cell 2 [] (consA (nameD 0) (consA (nameD 1) (nilA))))
def t4 : DenS := ifS (unD notF (tstD (lamD gd__law_refused (fnD m_fraction 2 [] (consA (nameD 3) (consA (cD (.int 0)) (nilA))))))) (retS (cD (.bl false))) (nilS)
def t5 : DenS := parS 4 6 (binD addF (nameD 4) (callD (intcF) (consA (binD (eqF) (nameD 4) (cD (.int 0))) (nilA)))) (binD addF (nameD 6) (callD (intcF) (consA (binD (eqF) (nameD 6) (cD (.int 0))) (nilA))))
def t6 : DenS := parS 8 9 (fnD m__law_low 2 [] (consA (nameD 3) (consA (nameD 4) (nilA)))) (fnD m__law_low 2 [] (consA (nameD 5) (consA (nameD 6) (nilA))))
def t7 : DenS := ifS (binD (neF) (callD (reprF) (consA (lstD (consA (fnD m_fraction 2 [] (consA (nameD 3) (consA (nameD 4) (nilA)))) (consA (fnD m_fraction 2 [] (consA (nameD 5) (consA (nameD 6) (nilA)))) (nilA)))) (nilA))) (callD (reprF) (consA (lstD (consA (nameD 8) (consA (nameD 9) (nilA)))) (nilA)))) (retS (cD (.bl false))) (nilS)
def t8 : DenS := ifS (unD notF (tstD (fnD m__law_pair_right 3 [] (consA (nameD 8) (consA (nameD 9) (consA (binD subF (binD fmodF (nameD 7) (cD (.int 13))) (cD (.int 6))) (nilA))))))) (retS (cD (.bl false))) (nilS)
def t9 : DenS := ifS (unD notF (tstD (fnD m__law_pair_right 3 [] (consA (nameD 9) (consA (nameD 8) (consA (binD fmodF (binD fdivF (nameD 7) (cD (.int 13))) (cD (.int 3))) (nilA))))))) (retS (cD (.bl false))) (nilS)
def t10 : DenS := forLS 10 (fnD m__law_things 2 [] (consA (nameD 8) (consA (nameD 7) (nilA)))) (ifS (binD (neF) (callD (reprF) (consA (fnD m_is_fraction 1 [] (consA (nameD 10) (nilA))) (nilA))) (callD (reprF) (consA (fnD m__law_is_one 1 [] (consA (nameD 10) (nilA))) (nilA)))) (retS (cD (.bl false))) (nilS))
def turnS : DenS := seqS t1 (seqS t2 (seqS t3 (seqS t4 (seqS t5 (seqS t6 (seqS t7 (seqS t8 (seqS t9 (t10)))))))))
def lookS : DenS := (ifS (binD (neF) (callD (reprF) (consA (fnD m_is_fraction 1 [] (consA (nameD 10) (nilA))) (nilA))) (callD (reprF) (consA (fnD m__law_is_one 1 [] (consA (nameD 10) (nilA))) (nilA)))) (retS (cD (.bl false))) (nilS))
def f1 : DenS := asgS 11 (lstD (consA (fnD m_power 2 [] (consA (tupD (consA (cD (.int 0)) (consA (cD (.int 1)) (nilA)))) (consA (cD (.int 0)) (nilA)))) (consA (fnD m_power 2 [] (consA (tupD (consA (cD (.int 0)) (consA (cD (.int 1)) (nilA)))) (consA (cD (.int 3)) (nilA)))) (consA (fnD m_power 2 [] (consA (tupD (consA (cD (.int 2)) (consA (cD (.int 3)) (nilA)))) (consA (cD (.int 200)) (nilA)))) (consA (fnD m_power 2 [] (consA (tupD (consA (cD (.int 2)) (consA (cD (.int 3)) (nilA)))) (consA (unD negF (cD (.int 200))) (nilA)))) (nilA))))))
def f2 : DenS := retS (binD (eqF) (callD (reprF) (consA (nameD 11) (nilA))) (callD (reprF) (consA (lstD (consA (tupD (consA (cD (.int 1)) (consA (cD (.int 1)) (nilA)))) (consA (tupD (consA (cD (.int 0)) (consA (cD (.int 1)) (nilA)))) (consA (tupD (consA (binD powF (binD powF (cD (.int 2)) (cD (.int 50))) (cD (.int 4))) (consA (binD powF (binD powF (cD (.int 3)) (cD (.int 50))) (cD (.int 4))) (nilA)))) (consA (tupD (consA (binD powF (binD powF (cD (.int 3)) (cD (.int 50))) (cD (.int 4))) (consA (binD powF (binD powF (cD (.int 2)) (cD (.int 50))) (cD (.int 4))) (nilA)))) (nilA)))))) (nilA))))
theorem den_law_eq : den_law = seqS (ownS 1 (consA (cD (.int 0)) (nilA))) (seqS (forR1 2 (consA (binD addF (cD (.int 3)) (callD (minF) (consA (cD (.int 9)) (consA (callD (lenF) (consA (nameD 0) (nilA))) (nilA))))) (nilA)) turnS) (seqS f1 f2)) := rfl
theorem t10_eq : t10 = forLS 10 (fnD m__law_things 2 [] (consA (nameD 8) (consA (nameD 7) (nilA)))) lookS := rfl
theorem lt_len {M : Store} {x : Ob} (h : M[0]? = some x) : 0 < M.length := by
  rcases Nat.eq_zero_or_pos M.length with z | z
  · rw [List.length_eq_zero_iff.mp z] at h
    cases h
  · exact z
theorem num {ns : List Int} {k : Nat} {M : Store} (h : M[0]? = some (.lst [.int k])) (hk : k ≤ 900) (hn : ns.length ≤ 63) : ∃ (v : Int) (M2 : Store), Bd 179 v ∧ m__law_number [.scr ns, .loc 0] M = ok (.int v) M2 ∧ M2[0]? = some (.lst [.int ((k + 2 : Nat) : Int)]) := by
  obtain ⟨v, h1, h2⟩ := number_eq (ns := ns) h (by omega) hn
  exact ⟨v, _, h1, h2, set_get (lt_len h)⟩
theorem cel {ns : List Int} {k : Nat} {M : Store} (h : M[0]? = some (.lst [.int k])) (hk : k ≤ 900) (hn : ns.length ≤ 63) : ∃ (v : Int) (M2 : Store), 0 ≤ v ∧ v < 306783379 ∧ m__law_cell [.scr ns, .loc 0] M = ok (.int v) M2 ∧ M2[0]? = some (.lst [.int ((k + 1 : Nat) : Int)]) := by
  obtain ⟨v, h1, h2, h3⟩ := cell_eq (ns := ns) h (by omega) hn
  exact ⟨v, _, h1, h2, h3, set_get (lt_len h)⟩
theorem repr_bl (v : Bool) : ∃ s : Str, ∀ M, reprF [.bl v] M = ok (.str s) M := by
  refine ⟨PyData.shown (.bool v), fun M => ?_⟩
  show (if _ ∧ _ ∧ _ ∧ _ then _ else _) = _
  refine if_pos ⟨rfl, rfl, Nat.zero_le _, ?_⟩
  cases v <;> decide
theorem intc_bl {b : Bool} {M : Store} : intcF [.bl b] M = ok (.int (if b then 1 else 0)) M := rfl
/-- the look at all things -/
theorem look_all : ∀ (ds : List D) (e : DL.Env) (M : Store), (∀ d ∈ ds, Agree d) → e.length = 12 → ∃ e', forS 10 lookS ds e M = some (.nx e', M) ∧ e'.length = 12 ∧ e'[0]? = e[0]? ∧ e'[1]? = e[1]?
  | [], e, M, _, hl => ⟨e, rfl, hl, rfl, rfl⟩
  | d :: ds, e, M, h, hl => by
    obtain ⟨e', h1, h2, h3, h4⟩ := look_all ds (e.set 10 (some d)) M (fun x hx => h x (List.mem_cons_of_mem _ hx)) (by simp [ofBody, seqS, ifS, retS, raiseS, consA, nilA, binD, callD, nameD, cD, bindE_v, thenS_v, unD, parS, asgS, tupD, int2F, eq_int, ne_int, intF0, negF, nilS, absF, brD, fnD, addE, subE, ix0, ix1, dropS, asgG, tupG, consG, nameG, nilG, lstD, andD, orD, tstD, ownS, appS, hl])
    refine ⟨e', ?_, h2, ?_, ?_⟩
    · obtain ⟨v, a1, a2⟩ := h d List.mem_cons_self M
      obtain ⟨s, hs⟩ := repr_bl v
      have g : (e.set 10 (some d))[10]? = some (some d) := by simp [ofBody, seqS, ifS, retS, raiseS, consA, nilA, binD, callD, nameD, cD, bindE_v, thenS_v, unD, parS, asgS, tupD, int2F, eq_int, ne_int, intF0, negF, nilS, absF, brD, fnD, addE, subE, ix0, ix1, dropS, asgG, tupG, consG, nameG, nilG, lstD, andD, orD, tstD, ownS, appS, hl]
      rw [for_nx (M' := M) (e' := e.set 10 (some d)) (by simp [ofBody, seqS, ifS, retS, raiseS, consA, nilA, binD, callD, nameD, cD, bindE_v, thenS_v, unD, parS, asgS, tupD, int2F, eq_int, ne_int, intF0, negF, nilS, absF, brD, fnD, addE, subE, ix0, ix1, dropS, asgG, tupG, consG, nameG, nilG, lstD, andD, orD, tstD, ownS, appS, lookS, g, hl, a1, a2, hs, ne_str])]
      exact h1
    · rw [h3]; simp [ofBody, seqS, ifS, retS, raiseS, consA, nilA, binD, callD, nameD, cD, bindE_v, thenS_v, unD, parS, asgS, tupD, int2F, eq_int, ne_int, intF0, negF, nilS, absF, brD, fnD, addE, subE, ix0, ix1, dropS, asgG, tupG, consG, nameG, nilG, lstD, andD, orD, tstD, ownS, appS]
    · rw [h4]; simp [ofBody, seqS, ifS, retS, raiseS, consA, nilA, binD, callD, nameD, cD, bindE_v, thenS_v, unD, parS, asgS, tupD, int2F, eq_int, ne_int, intF0, negF, nilS, absF, brD, fnD, addE, subE, ix0, ix1, dropS, asgG, tupG, consG, nameG, nilG, lstD, andD, orD, tstD, ownS, appS]
theorem nz {b : Int} (h : Bd 179 b) : ∃ b' : Int, b' = b + (if b = 0 then 1 else 0) ∧ b' ≠ 0 ∧ Bd 180 b' := by
  refine ⟨_, rfl, ?_, ?_⟩
  · split <;> omega
  · split
    · rename_i z
      rw [z]
      exact Bd.one (k := 179)
    · rw [Int.add_zero]
      exact h.mono (by decide)
theorem low_of {a b : Int} (ha : Bd 179 a) (hb : Bd 180 b) (h0 : b ≠ 0) : Low 180 (red a b).1 (red a b).2 := by
  obtain ⟨h1, h2, _, _⟩ := red_spec (a := a) h0
  obtain ⟨h3, h4⟩ := red_bd (a := a) h0 (ha.mono (by decide : 179 ≤ 180)) hb
  exact ⟨h1, h2, h3, h4⟩
theorem turn_ok {ns : List Int} {k : Nat} {M : Store} {s2 s3 s4 s5 s6 s7 s8 s9 s10 s11 : Option D} (hn : ns.length ≤ 63) (h : M[0]? = some (.lst [.int k])) (hk : k ≤ 800) :
    ∃ (e' : DL.Env) (M' : Store), turnS [some (.scr ns), some (.loc 0), s2, s3, s4, s5, s6, s7, s8, s9, s10, s11] M = some (.nx e', M') ∧ e'.length = 12 ∧ e'[0]? = some (some (.scr ns)) ∧ e'[1]? = some (some (.loc 0)) ∧ M'[0]? = some (.lst [.int ((k + 9 : Nat) : Int)]) := by
  obtain ⟨a, Ma, ba, ea, ga⟩ := num (ns := ns) h (by omega) hn
  obtain ⟨b, Mb, bb, eb, gb⟩ := num (ns := ns) ga (by omega) hn
  obtain ⟨c, Mc, bc, ec, gc⟩ := num (ns := ns) gb (by omega) hn
  obtain ⟨d, Md, bd, ed, gd⟩ := num (ns := ns) gc (by omega) hn
  obtain ⟨n, Mn, n0, n1, en, gn⟩ := cel (ns := ns) gd (by omega) hn
  obtain ⟨b', hb, b0, bb'⟩ := nz bb
  obtain ⟨d', hd, d0, bd'⟩ := nz bd
  have lo1 := low_of ba bb' b0
  have lo2 := low_of bc bd' d0
  have w1 : t1 [some (.scr ns), some (.loc 0), s2, s3, s4, s5, s6, s7, s8, s9, s10, s11] M = some (.nx [some (.scr ns), some (.loc 0), s2, some (.int a), some (.int b), s5, s6, s7, s8, s9, s10, s11], Mb) := by
    simp [ofBody, seqS, ifS, retS, raiseS, consA, nilA, binD, callD, nameD, cD, bindE_v, thenS_v, unD, parS, asgS, tupD, int2F, eq_int, ne_int, intF0, negF, nilS, absF, brD, fnD, addE, subE, ix0, ix1, dropS, asgG, tupG, consG, nameG, nilG, lstD, andD, orD, tstD, ownS, appS, t1, ea, eb]
  have w2 : t2 [some (.scr ns), some (.loc 0), s2, some (.int a), some (.int b), s5, s6, s7, s8, s9, s10, s11] Mb = some (.nx [some (.scr ns), some (.loc 0), s2, some (.int a), some (.int b), some (.int c), some (.int d), s7, s8, s9, s10, s11], Md) := by
    simp [ofBody, seqS, ifS, retS, raiseS, consA, nilA, binD, callD, nameD, cD, bindE_v, thenS_v, unD, parS, asgS, tupD, int2F, eq_int, ne_int, intF0, negF, nilS, absF, brD, fnD, addE, subE, ix0, ix1, dropS, asgG, tupG, consG, nameG, nilG, lstD, andD, orD, tstD, ownS, appS, t2, ec, ed]
  have w3 : t3 [some (.scr ns), some (.loc 0), s2, some (.int a), some (.int b), some (.int c), some (.int d), s7, s8, s9, s10, s11] Md = some (.nx [some (.scr ns), some (.loc 0), s2, some (.int a), some (.int b), some (.int c), some (.int d), some (.int n), s8, s9, s10, s11], Mn) := by
    simp [ofBody, seqS, ifS, retS, raiseS, consA, nilA, binD, callD, nameD, cD, bindE_v, thenS_v, unD, parS, asgS, tupD, int2F, eq_int, ne_int, intF0, negF, nilS, absF, brD, fnD, addE, subE, ix0, ix1, dropS, asgG, tupG, consG, nameG, nilG, lstD, andD, orD, tstD, ownS, appS, t3, en]
  have w4 : t4 [some (.scr ns), some (.loc 0), s2, some (.int a), some (.int b), some (.int c), some (.int d), some (.int n), s8, s9, s10, s11] Mn = some (.nx [some (.scr ns), some (.loc 0), s2, some (.int a), some (.int b), some (.int c), some (.int d), some (.int n), s8, s9, s10, s11], Mn) := by
    have l := lam_true (db := fnD m_fraction 2 [] (consA (nameD 3) (consA (cD (.int 0)) (nilA)))) (e := [some (.scr ns), some (.loc 0), s2, some (.int a), some (.int b), some (.int c), some (.int d), some (.int n), s8, s9, s10, s11]) (M := Mn) (M1 := Mn) (by simp [ofBody, seqS, ifS, retS, raiseS, consA, nilA, binD, callD, nameD, cD, bindE_v, thenS_v, unD, parS, asgS, tupD, int2F, eq_int, ne_int, intF0, negF, nilS, absF, brD, fnD, addE, subE, ix0, ix1, dropS, asgG, tupG, consG, nameG, nilG, lstD, andD, orD, tstD, ownS, appS, fraction_nought])
    unfold t4
    simp only [ifS, unD, tstD, l, bindE_v, tst_bl, not_bl, thenS_v]
    rfl
  have w5 : t5 [some (.scr ns), some (.loc 0), s2, some (.int a), some (.int b), some (.int c), some (.int d), some (.int n), s8, s9, s10, s11] Mn = some (.nx [some (.scr ns), some (.loc 0), s2, some (.int a), some (.int b'), some (.int c), some (.int d'), some (.int n), s8, s9, s10, s11], Mn) := by
    simp [ofBody, seqS, ifS, retS, raiseS, consA, nilA, binD, callD, nameD, cD, bindE_v, thenS_v, unD, parS, asgS, tupD, int2F, eq_int, ne_int, intF0, negF, nilS, absF, brD, fnD, addE, subE, ix0, ix1, dropS, asgG, tupG, consG, nameG, nilG, lstD, andD, orD, tstD, ownS, appS, t5, intc_bl, hb, hd]
  have lw : ∀ (x y : Int) M, Bd 180 y → y ≠ 0 → m__law_low [.int x, .int y] M = ok (fp (red x y)) M := fun x y M h1 h2 => low_eq h1 (by decide) h2
  have fw : ∀ (x y : Int) M, Bd 180 y → y ≠ 0 → m_fraction [.int x, .int y] M = ok (fp (red x y)) M := fun x y M h1 h2 => fraction_eq h1 (by decide) h2
  obtain ⟨p, hp⟩ : ∃ p, p = red a b' := ⟨_, rfl⟩
  obtain ⟨q, hq⟩ : ∃ p, p = red c d' := ⟨_, rfl⟩
  have lp : ∀ M, m__law_low [.int a, .int b'] M = ok (fp p) M := fun M => by rw [hp]; exact lw a b' M bb' b0
  have lq : ∀ M, m__law_low [.int c, .int d'] M = ok (fp q) M := fun M => by rw [hq]; exact lw c d' M bd' d0
  have rp : ∀ M, m_fraction [.int a, .int b'] M = ok (fp p) M := fun M => by rw [hp]; exact fw a b' M bb' b0
  have rq : ∀ M, m_fraction [.int c, .int d'] M = ok (fp q) M := fun M => by rw [hq]; exact fw c d' M bd' d0
  rw [← hp] at lo1
  rw [← hq] at lo2
  have w6 : t6 [some (.scr ns), some (.loc 0), s2, some (.int a), some (.int b'), some (.int c), some (.int d'), some (.int n), s8, s9, s10, s11] Mn = some (.nx [some (.scr ns), some (.loc 0), s2, some (.int a), some (.int b'), some (.int c), some (.int d'), some (.int n), some (fp p), some (fp q), s10, s11], Mn) := by
    simp [ofBody, seqS, ifS, retS, raiseS, consA, nilA, binD, callD, nameD, cD, bindE_v, thenS_v, unD, parS, asgS, tupD, int2F, eq_int, ne_int, intF0, negF, nilS, absF, brD, fnD, addE, subE, ix0, ix1, dropS, asgG, tupG, consG, nameG, nilG, lstD, andD, orD, tstD, ownS, appS, t6, lp, lq]
  have rl : ∀ x ∈ [p, q], okP x := by
    intro x hx
    simp only [List.mem_cons, or_false, List.not_mem_nil] at hx
    rcases hx with rfl | rfl
    · exact okP_of lo1.ba lo1.bb (by decide)
    · exact okP_of lo2.ba lo2.bb (by decide)
  have r1 : ∀ M, reprF [.lst [fp p, fp q]] M = ok (.str (txt [p, q])) M := fun M => repr_lst (ps := [p, q]) rl (by simp [ofBody, seqS, ifS, retS, raiseS, consA, nilA, binD, callD, nameD, cD, bindE_v, thenS_v, unD, parS, asgS, tupD, int2F, eq_int, ne_int, intF0, negF, nilS, absF, brD, fnD, addE, subE, ix0, ix1, dropS, asgG, tupG, consG, nameG, nilG, lstD, andD, orD, tstD, ownS, appS])
  have w7 : t7 [some (.scr ns), some (.loc 0), s2, some (.int a), some (.int b'), some (.int c), some (.int d'), some (.int n), some (fp p), some (fp q), s10, s11] Mn = some (.nx [some (.scr ns), some (.loc 0), s2, some (.int a), some (.int b'), some (.int c), some (.int d'), some (.int n), some (fp p), some (fp q), s10, s11], Mn) := by
    simp [ofBody, seqS, ifS, retS, raiseS, consA, nilA, binD, callD, nameD, cD, bindE_v, thenS_v, unD, parS, asgS, tupD, int2F, eq_int, ne_int, intF0, negF, nilS, absF, brD, fnD, addE, subE, ix0, ix1, dropS, asgG, tupG, consG, nameG, nilG, lstD, andD, orD, tstD, ownS, appS, t7, rp, rq, r1, ne_str]
  have fm : ∀ (x y : Int) M, 0 < y → fmodF (.int x) (.int y) M = ok (.int (x % y)) M := fun x y M hy => by
    rw [fmodE (by omega), Int.fmod_eq_emod_of_nonneg _ (by omega)]
  have f13 : ∀ M, fmodF (.int n) (.int 13) M = ok (.int (n % 13)) M := fun M => fm n 13 M (by decide)
  have d13 : ∀ M, fdivF (.int n) (.int 13) M = ok (.int (n / 13)) M := fun M => by
    rw [fdivB (k := 4) (by unfold Bd; decide) (by decide) (by decide), Int.fdiv_eq_ediv_of_nonneg _ (by decide)]
  have f3 : ∀ M, fmodF (.int (n / 13)) (.int 3) M = ok (.int (n / 13 % 3)) M := fun M => fm (n / 13) 3 M (by decide)
  obtain ⟨X1, x1⟩ := pair_eq (M := Mn) (number := n % 13 - 6) lo1 lo2 (by omega) (by omega)
  obtain ⟨X2, x2⟩ := pair_eq (M := Mn ++ X1) (number := n / 13 % 3) lo2 lo1 (by omega) (by omega)
  have w8 : t8 [some (.scr ns), some (.loc 0), s2, some (.int a), some (.int b'), some (.int c), some (.int d'), some (.int n), some (fp p), some (fp q), s10, s11] Mn = some (.nx [some (.scr ns), some (.loc 0), s2, some (.int a), some (.int b'), some (.int c), some (.int d'), some (.int n), some (fp p), some (fp q), s10, s11], Mn ++ X1) := by
    simp [ofBody, seqS, ifS, retS, raiseS, consA, nilA, binD, callD, nameD, cD, bindE_v, thenS_v, unD, parS, asgS, tupD, int2F, eq_int, ne_int, intF0, negF, nilS, absF, brD, fnD, addE, subE, ix0, ix1, dropS, asgG, tupG, consG, nameG, nilG, lstD, andD, orD, tstD, ownS, appS, t8, f13, x1, tst_bl, not_bl]
  have w9 : t9 [some (.scr ns), some (.loc 0), s2, some (.int a), some (.int b'), some (.int c), some (.int d'), some (.int n), some (fp p), some (fp q), s10, s11] (Mn ++ X1) = some (.nx [some (.scr ns), some (.loc 0), s2, some (.int a), some (.int b'), some (.int c), some (.int d'), some (.int n), some (fp p), some (fp q), s10, s11], Mn ++ X1 ++ X2) := by
    simp [ofBody, seqS, ifS, retS, raiseS, consA, nilA, binD, callD, nameD, cD, bindE_v, thenS_v, unD, parS, asgS, tupD, int2F, eq_int, ne_int, intF0, negF, nilS, absF, brD, fnD, addE, subE, ix0, ix1, dropS, asgG, tupG, consG, nameG, nilG, lstD, andD, orD, tstD, ownS, appS, t9, d13, f3, x2, tst_bl, not_bl]
  obtain ⟨ds, th, ag⟩ := things_eq (n := n) (M := Mn ++ X1 ++ X2) lo1.ba lo1.bb (by decide)
  obtain ⟨e', q1, q2, q3, q4⟩ := look_all ds [some (.scr ns), some (.loc 0), s2, some (.int a), some (.int b'), some (.int c), some (.int d'), some (.int n), some (fp p), some (fp q), s10, s11] (Mn ++ X1 ++ X2) ag rfl
  have w10 : t10 [some (.scr ns), some (.loc 0), s2, some (.int a), some (.int b'), some (.int c), some (.int d'), some (.int n), some (fp p), some (fp q), s10, s11] (Mn ++ X1 ++ X2) = some (.nx e', Mn ++ X1 ++ X2) := by
    rw [t10_eq]
    have e : fnD m__law_things 2 [] (consA (nameD 8) (consA (nameD 7) nilA)) [some (.scr ns), some (.loc 0), s2, some (.int a), some (.int b'), some (.int c), some (.int d'), some (.int n), some (fp p), some (fp q), s10, s11] (Mn ++ X1 ++ X2) = ok (.lst ds) (Mn ++ X1 ++ X2) := by
      simp only [fnD, consA, nilA, nameD, bindE_v]
      exact th
    unfold forLS
    rw [e, thenS_v]
    exact q1
  refine ⟨e', Mn ++ X1 ++ X2, ?_, q2, q3, q4, ?_⟩
  · exact (seq_nx w1).trans ((seq_nx w2).trans ((seq_nx w3).trans ((seq_nx w4).trans ((seq_nx w5).trans ((seq_nx w6).trans ((seq_nx w7).trans ((seq_nx w8).trans ((seq_nx w9).trans w10))))))))
  · have l := lt_len gn
    rw [List.append_assoc, List.getElem?_append_left l]
    exact gn
end K01
namespace K01
open PySem L2 DL
theorem turns {ns : List Int} (hn : ns.length ≤ 63) : ∀ (ds : List D) (e : DL.Env) (M : Store) (k : Nat), e.length = 12 → e[0]? = some (some (.scr ns)) → e[1]? = some (some (.loc 0)) → M[0]? = some (.lst [.int k]) → k + 9 * ds.length ≤ 800 →
    ∃ (e' : DL.Env) (M' : Store), forS 2 turnS ds e M = some (.nx e', M') ∧ e'.length = 12
  | [], e, M, k, hl, _, _, _, _ => ⟨e, M, rfl, hl⟩
  | d :: ds, e, M, k, hl, h0, h1, hm, hk => by
    have hk' : k + 9 * ds.length + 9 ≤ 800 := by
      rw [List.length_cons] at hk
      omega
    have ex : ∃ s2 s3 s4 s5 s6 s7 s8 s9 s10 s11, e.set 2 (some d) = [some (.scr ns), some (.loc 0), s2, s3, s4, s5, s6, s7, s8, s9, s10, s11] := by
      match e, hl, h0, h1 with
      | [a0, a1, a2, a3, a4, a5, a6, a7, a8, a9, a10, a11], _, h0, h1 =>
        have e0 : a0 = some (.scr ns) := Option.some.inj h0
        have e1 : a1 = some (.loc 0) := Option.some.inj h1
        subst e0 e1
        exact ⟨_, _, _, _, _, _, _, _, _, _, rfl⟩
    obtain ⟨s2, s3, s4, s5, s6, s7, s8, s9, s10, s11, es⟩ := ex
    obtain ⟨e1, M1, q1, q2, q3, q4, q5⟩ := turn_ok (s2 := s2) (s3 := s3) (s4 := s4) (s5 := s5) (s6 := s6) (s7 := s7) (s8 := s8) (s9 := s9) (s10 := s10) (s11 := s11) hn hm (by omega)
    obtain ⟨e', M', p1, p2⟩ := turns hn ds e1 M1 (k + 9) q2 q3 q4 q5 (by omega)
    refine ⟨e', M', ?_, p2⟩
    rw [for_nx (M' := M1) (e' := e1) (by rw [es]; exact q1)]
    exact p1
theorem end_ok {e : DL.Env} {M : Store} (hl : e.length = 12) : ∃ e', f1 e M = some (.nx e', M) ∧ f2 e' M = some (.rt (.bl true), M) := by
  obtain ⟨A, hA⟩ : ∃ A : Int, A = 2 ^ 200 := ⟨_, rfl⟩
  obtain ⟨B, hB⟩ : ∃ A : Int, A = 3 ^ 200 := ⟨_, rfl⟩
  have b2 : Bd (1 + 1) 2 := by unfold Bd; decide
  have b3 : Bd (1 + 1) 3 := by unfold Bd; decide
  have b0 : Bd 2 0 := by unfold Bd; decide
  have b1 : Bd 2 1 := by unfold Bd; decide
  have p1 : ∀ M, m_power [fr 0 1, .int 0] M = ok (fr 1 1) M := fun M => power_pos (n := 0) b0 b1 (by decide)
  have p2 : ∀ M, m_power [fr 0 1, .int 3] M = ok (fr 0 1) M := fun M => power_pos (n := 3) b0 b1 (by decide)
  have p3 : ∀ M, m_power [fr 2 3, .int 200] M = ok (fr A B) M := fun M => by
    rw [hA, hB]
    exact power_pos (n := 200) b2 b3 (by decide)
  have p4 : ∀ M, m_power [fr 2 3, .int (-200)] M = ok (fr B A) M := fun M => by
    rw [hA, hB]
    exact power_neg (s := 1) (n := 200) b2 b3 (by decide) (by decide) (by decide) (by decide) (by decide) (by decide)
  obtain ⟨x, hx⟩ : ∃ A : Int, A = 2 ^ 50 := ⟨_, rfl⟩
  obtain ⟨y, hy⟩ : ∃ A : Int, A = 3 ^ 50 := ⟨_, rfl⟩
  have bx : Bd 101 x := by rw [hx]; exact b2.pow 50
  have byy : Bd 101 y := by rw [hy]; exact b3.pow 50
  have q1 : ∀ M, powF (.int 2) (.int 50) M = ok (.int x) M := fun M => by
    rw [hx]
    exact pow_nat (n := 50) (by have := b2.lg; omega)
  have q2 : ∀ M, powF (.int 3) (.int 50) M = ok (.int y) M := fun M => by
    rw [hy]
    exact pow_nat (n := 50) (by have := b3.lg; omega)
  have q3 : ∀ M, powF (.int x) (.int 4) M = ok (.int A) M := fun M => by
    have e : A = x ^ 4 := by rw [hA, hx, ← Int.pow_mul]
    rw [e]
    exact pow_nat (n := 4) (by have := bx.lg; omega)
  have q4 : ∀ M, powF (.int y) (.int 4) M = ok (.int B) M := fun M => by
    have e : B = y ^ 4 := by rw [hB, hy, ← Int.pow_mul]
    rw [e]
    exact pow_nat (n := 4) (by have := byy.lg; omega)
  have bA : Bd 401 A := by rw [hA]; exact b2.pow 200
  have bB : Bd 401 B := by rw [hB]; exact b3.pow 200
  have ok4 : ∀ z ∈ [((1 : Int), (1 : Int)), (0, 1), (A, B), (B, A)], okP z := by
    intro z hz
    simp only [List.mem_cons, or_false, List.not_mem_nil] at hz
    rcases hz with rfl | rfl | rfl | rfl
    · exact okP_of (b1.mono (by decide : 2 ≤ 3)) (b1.mono (by decide)) (by decide)
    · exact okP_of (b0.mono (by decide : 2 ≤ 3)) (b1.mono (by decide)) (by decide)
    · exact okP_of bA bB (by decide)
    · exact okP_of bB bA (by decide)
  have r : ∀ M, reprF [.lst [fr 1 1, fr 0 1, fr A B, fr B A]] M = ok (.str (txt [(1, 1), (0, 1), (A, B), (B, A)])) M := fun M => repr_lst (ps := [(1, 1), (0, 1), (A, B), (B, A)]) ok4 (by simp [ofBody, seqS, ifS, retS, raiseS, consA, nilA, binD, callD, nameD, cD, bindE_v, thenS_v, unD, parS, asgS, tupD, int2F, eq_int, ne_int, intF0, negF, nilS, absF, brD, fnD, addE, subE, ix0, ix1, dropS, asgG, tupG, consG, nameG, nilG, lstD, andD, orD, tstD, ownS, appS])
  refine ⟨e.set 11 (some (.lst [fr 1 1, fr 0 1, fr A B, fr B A])), ?_, ?_⟩
  · simp [ofBody, seqS, ifS, retS, raiseS, consA, nilA, binD, callD, nameD, cD, bindE_v, thenS_v, unD, parS, asgS, tupD, int2F, eq_int, ne_int, intF0, negF, nilS, absF, brD, fnD, addE, subE, ix0, ix1, dropS, asgG, tupG, consG, nameG, nilG, lstD, andD, orD, tstD, ownS, appS, f1, p1, p2, p3, p4]
  · simp [ofBody, seqS, ifS, retS, raiseS, consA, nilA, binD, callD, nameD, cD, bindE_v, thenS_v, unD, parS, asgS, tupD, int2F, eq_int, ne_int, intF0, negF, nilS, absF, brD, fnD, addE, subE, ix0, ix1, dropS, asgG, tupG, consG, nameG, nilG, lstD, andD, orD, tstD, ownS, appS, f2, hl, r, q1, q2, q3, q4, eq_str]
theorem law_true : ∀ ns : List Int, ns.length ≤ 63 → (∀ z ∈ ns, Builtin.Int.intBits z ≤ 1048576) → ∃ M, m_law [.scr ns] [] = some (.val (.bl true), M) := by
  intro ns hn _
  obtain ⟨m, hm⟩ : ∃ m : Int, m = 3 + (if (ns.length : Int) < 9 then (ns.length : Int) else 9) := ⟨_, rfl⟩
  have m0 : 0 ≤ m ∧ m ≤ 12 := by omega
  have sm : small62 m = true := by
    have := small_n (n := m.toNat) (by omega)
    rwa [Int.toNat_of_nonneg m0.1] at this
  obtain ⟨e', M', h1, h2⟩ := turns hn (rngI 0 m.toNat) [some (.scr ns), some (.loc 0), none, none, none, none, none, none, none, none, none, none] [.lst [.int ((0 : Nat) : Int)]] 0 rfl rfl rfl rfl (by
    rw [rng_n]
    omega)
  obtain ⟨e2, h3, h4⟩ := end_ok (M := M') h2
  refine ⟨M', ?_⟩
  show m_law [.scr ns] [] = ok (.bl true) M'
  unfold m_law
  rw [den_law_eq]
  refine body_rt ?_
  have s1 : ownS 1 (consA (cD (.int 0)) (nilA)) [some (.scr ns), none, none, none, none, none, none, none, none, none, none, none] [] = some (.nx [some (.scr ns), some (.loc 0), none, none, none, none, none, none, none, none, none, none], [.lst [.int 0]]) := by
    simp [ofBody, seqS, ifS, retS, raiseS, consA, nilA, binD, callD, nameD, cD, bindE_v, thenS_v, unD, parS, asgS, tupD, int2F, eq_int, ne_int, intF0, negF, nilS, absF, brD, fnD, addE, subE, ix0, ix1, dropS, asgG, tupG, consG, nameG, nilG, lstD, andD, orD, tstD, ownS, appS]
  have s2 : forR1 2 (consA (binD addF (cD (.int 3)) (callD (minF) (consA (cD (.int 9)) (consA (callD (lenF) (consA (nameD 0) (nilA))) (nilA))))) (nilA)) turnS [some (.scr ns), some (.loc 0), none, none, none, none, none, none, none, none, none, none] [.lst [.int 0]] = some (.nx e', M') := by
    obtain ⟨l, hl⟩ : ∃ l : Int, l = (ns.length : Int) := ⟨_, rfl⟩
    have le : ∀ M, lenF [.scr ns] M = ok (.int l) M := fun M => by rw [hl]; exact len_scr
    rw [← hl] at hm
    have mi : ∀ M, minF [.int 9, .int l] M = ok (.int (if l < 9 then l else 9)) M := fun M => rfl
    have a : consA (binD addF (cD (.int 3)) (callD (minF) (consA (cD (.int 9)) (consA (callD (lenF) (consA (nameD 0) (nilA))) (nilA))))) (nilA) [some (.scr ns), some (.loc 0), none, none, none, none, none, none, none, none, none, none] [.lst [.int 0]] = ok [.int m] [.lst [.int 0]] := by
      rw [hm]
      simp [ofBody, seqS, ifS, retS, raiseS, consA, nilA, binD, callD, nameD, cD, bindE_v, thenS_v, unD, parS, asgS, tupD, int2F, eq_int, ne_int, intF0, negF, nilS, absF, brD, fnD, addE, subE, ix0, ix1, dropS, asgG, tupG, consG, nameG, nilG, lstD, andD, orD, tstD, ownS, appS, le]
    unfold forR1
    rw [a, thenS_v]
    simp only [sm]
    exact h1
  exact (seq_nx s1).trans ((seq_nx s2).trans ((seq_nx h3).trans h4))
end K01
namespace K01
open PySem L2 DL PyProof.Rows
theorem all_mk {P : Program} {w : World} {K : PySem.W.Frag} {h : Heap} {q : Program} {mg : Str → Option Value} {fa : Addr} (X : K.In h) (G : h.Ns mainGlobals mg) (hfa : mg "law" = some (.ref fa))
    {a_is_whole : Addr} {od_is_whole an_is_whole : Option Addr} {sl_is_whole : Array (Option Value)} {oc_is_whole kV_is_whole dc_is_whole pm_is_whole ct_is_whole cd_is_whole : Value}
    {a_is_tuple_of : Addr} {od_is_tuple_of an_is_tuple_of : Option Addr} {sl_is_tuple_of : Array (Option Value)} {oc_is_tuple_of kV_is_tuple_of dc_is_tuple_of pm_is_tuple_of ct_is_tuple_of cd_is_tuple_of : Value}
    {a_is_fraction : Addr} {od_is_fraction an_is_fraction : Option Addr} {sl_is_fraction : Array (Option Value)} {oc_is_fraction kV_is_fraction dc_is_fraction pm_is_fraction ct_is_fraction cd_is_fraction : Value}
    {a_fraction : Addr} {od_fraction an_fraction : Option Addr} {sl_fraction : Array (Option Value)} {oc_fraction kV_fraction dc_fraction pm_fraction ct_fraction cd_fraction : Value}
    {a_plus : Addr} {od_plus an_plus : Option Addr} {sl_plus : Array (Option Value)} {oc_plus kV_plus dc_plus pm_plus ct_plus cd_plus : Value}
    {a_less : Addr} {od_less an_less : Option Addr} {sl_less : Array (Option Value)} {oc_less kV_less dc_less pm_less ct_less cd_less : Value}
    {a_times : Addr} {od_times an_times : Option Addr} {sl_times : Array (Option Value)} {oc_times kV_times dc_times pm_times ct_times cd_times : Value}
    {a_by : Addr} {od_by an_by : Option Addr} {sl_by : Array (Option Value)} {oc_by kV_by dc_by pm_by ct_by cd_by : Value}
    {a__whole_power : Addr} {od__whole_power an__whole_power : Option Addr} {sl__whole_power : Array (Option Value)} {oc__whole_power kV__whole_power dc__whole_power pm__whole_power ct__whole_power cd__whole_power : Value}
    {a_power : Addr} {od_power an_power : Option Addr} {sl_power : Array (Option Value)} {oc_power kV_power dc_power pm_power ct_power cd_power : Value}
    {a__law_cell : Addr} {od__law_cell an__law_cell : Option Addr} {sl__law_cell : Array (Option Value)} {oc__law_cell kV__law_cell dc__law_cell pm__law_cell ct__law_cell cd__law_cell : Value}
    {a__law_low : Addr} {od__law_low an__law_low : Option Addr} {sl__law_low : Array (Option Value)} {oc__law_low kV__law_low dc__law_low pm__law_low ct__law_low cd__law_low : Value}
    {a__law_plus : Addr} {od__law_plus an__law_plus : Option Addr} {sl__law_plus : Array (Option Value)} {oc__law_plus kV__law_plus dc__law_plus pm__law_plus ct__law_plus cd__law_plus : Value}
    {a__law_times : Addr} {od__law_times an__law_times : Option Addr} {sl__law_times : Array (Option Value)} {oc__law_times kV__law_times dc__law_times pm__law_times ct__law_times cd__law_times : Value}
    {a__law_by : Addr} {od__law_by an__law_by : Option Addr} {sl__law_by : Array (Option Value)} {oc__law_by kV__law_by dc__law_by pm__law_by ct__law_by cd__law_by : Value}
    {a__law_number : Addr} {od__law_number an__law_number : Option Addr} {sl__law_number : Array (Option Value)} {oc__law_number kV__law_number dc__law_number pm__law_number ct__law_number cd__law_number : Value}
    {a__law_power : Addr} {od__law_power an__law_power : Option Addr} {sl__law_power : Array (Option Value)} {oc__law_power kV__law_power dc__law_power pm__law_power ct__law_power cd__law_power : Value}
    {a__law_refused : Addr} {od__law_refused an__law_refused : Option Addr} {sl__law_refused : Array (Option Value)} {oc__law_refused kV__law_refused dc__law_refused pm__law_refused ct__law_refused cd__law_refused : Value}
    {a__law_is_one : Addr} {od__law_is_one an__law_is_one : Option Addr} {sl__law_is_one : Array (Option Value)} {oc__law_is_one kV__law_is_one dc__law_is_one pm__law_is_one ct__law_is_one cd__law_is_one : Value}
    {a__law_things : Addr} {od__law_things an__law_things : Option Addr} {sl__law_things : Array (Option Value)} {oc__law_things kV__law_things dc__law_things pm__law_things ct__law_things cd__law_things : Value}
    {a__law_pair_right : Addr} {od__law_pair_right an__law_pair_right : Option Addr} {sl__law_pair_right : Array (Option Value)} {oc__law_pair_right kV__law_pair_right dc__law_pair_right pm__law_pair_right ct__law_pair_right : Value}
    {c__law_pair_right P__law_pair_right : Addr} {oc2__law_pair_right : Value} {od2__law_pair_right : Option Addr} {sl2__law_pair_right : Array (Option Value)} {vs__law_pair_right : Array Value}
    {a_law : Addr} {od_law an_law : Option Addr} {sl_law : Array (Option Value)} {oc_law kV_law dc_law pm_law ct_law : Value}
    {c_law P_law : Addr} {oc2_law : Value} {od2_law : Option Addr} {sl2_law : Array (Option Value)} {vs_law : Array Value}
    {C_HollowError : Addr}
    {C_BadFraction : Addr}
    {C_BadRule : Addr}
    {C_DeedError : Addr}
    {C_BookError : Addr}
    (r__law_pair_right : ∃ d, (recsOf q).find? (fun e => e.name == ("_law_pair_right" : Str)) = some d)
    (r_law : ∃ d, (recsOf q).find? (fun e => e.name == ("law" : Str)) = some d)
    (g_is_whole : PySem.W.nsIn K mainGlobals "is_whole" = some (some (.ref a_is_whole)))
    (l_is_whole : K.lookup a_is_whole = some ⟨oc_is_whole, od_is_whole, .func (PySem.W.fnOf "is_whole" "is_whole" (defArgs s_is_whole) (defBody s_is_whole) (defScope s_is_whole) .none kV_is_whole dc_is_whole pm_is_whole an_is_whole (cd_is_whole) ct_is_whole), sl_is_whole⟩)
    (q_is_whole : PySem.W.codeIn K (cd_is_whole) "is_whole" = true)
    (k_is_whole : PySem.W.keepIn K (.ref a_is_whole) = true)
    (g_is_tuple_of : PySem.W.nsIn K mainGlobals "is_tuple_of" = some (some (.ref a_is_tuple_of)))
    (l_is_tuple_of : K.lookup a_is_tuple_of = some ⟨oc_is_tuple_of, od_is_tuple_of, .func (PySem.W.fnOf "is_tuple_of" "is_tuple_of" (defArgs s_is_tuple_of) (defBody s_is_tuple_of) (defScope s_is_tuple_of) .none kV_is_tuple_of dc_is_tuple_of pm_is_tuple_of an_is_tuple_of (cd_is_tuple_of) ct_is_tuple_of), sl_is_tuple_of⟩)
    (q_is_tuple_of : PySem.W.codeIn K (cd_is_tuple_of) "is_tuple_of" = true)
    (k_is_tuple_of : PySem.W.keepIn K (.ref a_is_tuple_of) = true)
    (g_is_fraction : PySem.W.nsIn K mainGlobals "is_fraction" = some (some (.ref a_is_fraction)))
    (l_is_fraction : K.lookup a_is_fraction = some ⟨oc_is_fraction, od_is_fraction, .func (PySem.W.fnOf "is_fraction" "is_fraction" (defArgs s_is_fraction) (defBody s_is_fraction) (defScope s_is_fraction) .none kV_is_fraction dc_is_fraction pm_is_fraction an_is_fraction (cd_is_fraction) ct_is_fraction), sl_is_fraction⟩)
    (q_is_fraction : PySem.W.codeIn K (cd_is_fraction) "is_fraction" = true)
    (k_is_fraction : PySem.W.keepIn K (.ref a_is_fraction) = true)
    (g_fraction : PySem.W.nsIn K mainGlobals "fraction" = some (some (.ref a_fraction)))
    (l_fraction : K.lookup a_fraction = some ⟨oc_fraction, od_fraction, .func (PySem.W.fnOf "fraction" "fraction" (defArgs s_fraction) (defBody s_fraction) (defScope s_fraction) .none kV_fraction dc_fraction pm_fraction an_fraction (cd_fraction) ct_fraction), sl_fraction⟩)
    (q_fraction : PySem.W.codeIn K (cd_fraction) "fraction" = true)
    (k_fraction : PySem.W.keepIn K (.ref a_fraction) = true)
    (g_plus : PySem.W.nsIn K mainGlobals "plus" = some (some (.ref a_plus)))
    (l_plus : K.lookup a_plus = some ⟨oc_plus, od_plus, .func (PySem.W.fnOf "plus" "plus" (defArgs s_plus) (defBody s_plus) (defScope s_plus) .none kV_plus dc_plus pm_plus an_plus (cd_plus) ct_plus), sl_plus⟩)
    (q_plus : PySem.W.codeIn K (cd_plus) "plus" = true)
    (k_plus : PySem.W.keepIn K (.ref a_plus) = true)
    (g_less : PySem.W.nsIn K mainGlobals "less" = some (some (.ref a_less)))
    (l_less : K.lookup a_less = some ⟨oc_less, od_less, .func (PySem.W.fnOf "less" "less" (defArgs s_less) (defBody s_less) (defScope s_less) .none kV_less dc_less pm_less an_less (cd_less) ct_less), sl_less⟩)
    (q_less : PySem.W.codeIn K (cd_less) "less" = true)
    (k_less : PySem.W.keepIn K (.ref a_less) = true)
    (g_times : PySem.W.nsIn K mainGlobals "times" = some (some (.ref a_times)))
    (l_times : K.lookup a_times = some ⟨oc_times, od_times, .func (PySem.W.fnOf "times" "times" (defArgs s_times) (defBody s_times) (defScope s_times) .none kV_times dc_times pm_times an_times (cd_times) ct_times), sl_times⟩)
    (q_times : PySem.W.codeIn K (cd_times) "times" = true)
    (k_times : PySem.W.keepIn K (.ref a_times) = true)
    (g_by : PySem.W.nsIn K mainGlobals "by" = some (some (.ref a_by)))
    (l_by : K.lookup a_by = some ⟨oc_by, od_by, .func (PySem.W.fnOf "by" "by" (defArgs s_by) (defBody s_by) (defScope s_by) .none kV_by dc_by pm_by an_by (cd_by) ct_by), sl_by⟩)
    (q_by : PySem.W.codeIn K (cd_by) "by" = true)
    (k_by : PySem.W.keepIn K (.ref a_by) = true)
    (g__whole_power : PySem.W.nsIn K mainGlobals "_whole_power" = some (some (.ref a__whole_power)))
    (l__whole_power : K.lookup a__whole_power = some ⟨oc__whole_power, od__whole_power, .func (PySem.W.fnOf "_whole_power" "_whole_power" (defArgs s__whole_power) (defBody s__whole_power) (defScope s__whole_power) .none kV__whole_power dc__whole_power pm__whole_power an__whole_power (cd__whole_power) ct__whole_power), sl__whole_power⟩)
    (q__whole_power : PySem.W.codeIn K (cd__whole_power) "_whole_power" = true)
    (k__whole_power : PySem.W.keepIn K (.ref a__whole_power) = true)
    (g_power : PySem.W.nsIn K mainGlobals "power" = some (some (.ref a_power)))
    (l_power : K.lookup a_power = some ⟨oc_power, od_power, .func (PySem.W.fnOf "power" "power" (defArgs s_power) (defBody s_power) (defScope s_power) .none kV_power dc_power pm_power an_power (cd_power) ct_power), sl_power⟩)
    (q_power : PySem.W.codeIn K (cd_power) "power" = true)
    (k_power : PySem.W.keepIn K (.ref a_power) = true)
    (g__law_cell : PySem.W.nsIn K mainGlobals "_law_cell" = some (some (.ref a__law_cell)))
    (l__law_cell : K.lookup a__law_cell = some ⟨oc__law_cell, od__law_cell, .func (PySem.W.fnOf "_law_cell" "_law_cell" (defArgs s__law_cell) (defBody s__law_cell) (defScope s__law_cell) .none kV__law_cell dc__law_cell pm__law_cell an__law_cell (cd__law_cell) ct__law_cell), sl__law_cell⟩)
    (q__law_cell : PySem.W.codeIn K (cd__law_cell) "_law_cell" = true)
    (k__law_cell : PySem.W.keepIn K (.ref a__law_cell) = true)
    (g__law_low : PySem.W.nsIn K mainGlobals "_law_low" = some (some (.ref a__law_low)))
    (l__law_low : K.lookup a__law_low = some ⟨oc__law_low, od__law_low, .func (PySem.W.fnOf "_law_low" "_law_low" (defArgs s__law_low) (defBody s__law_low) (defScope s__law_low) .none kV__law_low dc__law_low pm__law_low an__law_low (cd__law_low) ct__law_low), sl__law_low⟩)
    (q__law_low : PySem.W.codeIn K (cd__law_low) "_law_low" = true)
    (k__law_low : PySem.W.keepIn K (.ref a__law_low) = true)
    (g__law_plus : PySem.W.nsIn K mainGlobals "_law_plus" = some (some (.ref a__law_plus)))
    (l__law_plus : K.lookup a__law_plus = some ⟨oc__law_plus, od__law_plus, .func (PySem.W.fnOf "_law_plus" "_law_plus" (defArgs s__law_plus) (defBody s__law_plus) (defScope s__law_plus) .none kV__law_plus dc__law_plus pm__law_plus an__law_plus (cd__law_plus) ct__law_plus), sl__law_plus⟩)
    (q__law_plus : PySem.W.codeIn K (cd__law_plus) "_law_plus" = true)
    (k__law_plus : PySem.W.keepIn K (.ref a__law_plus) = true)
    (g__law_times : PySem.W.nsIn K mainGlobals "_law_times" = some (some (.ref a__law_times)))
    (l__law_times : K.lookup a__law_times = some ⟨oc__law_times, od__law_times, .func (PySem.W.fnOf "_law_times" "_law_times" (defArgs s__law_times) (defBody s__law_times) (defScope s__law_times) .none kV__law_times dc__law_times pm__law_times an__law_times (cd__law_times) ct__law_times), sl__law_times⟩)
    (q__law_times : PySem.W.codeIn K (cd__law_times) "_law_times" = true)
    (k__law_times : PySem.W.keepIn K (.ref a__law_times) = true)
    (g__law_by : PySem.W.nsIn K mainGlobals "_law_by" = some (some (.ref a__law_by)))
    (l__law_by : K.lookup a__law_by = some ⟨oc__law_by, od__law_by, .func (PySem.W.fnOf "_law_by" "_law_by" (defArgs s__law_by) (defBody s__law_by) (defScope s__law_by) .none kV__law_by dc__law_by pm__law_by an__law_by (cd__law_by) ct__law_by), sl__law_by⟩)
    (q__law_by : PySem.W.codeIn K (cd__law_by) "_law_by" = true)
    (k__law_by : PySem.W.keepIn K (.ref a__law_by) = true)
    (g__law_number : PySem.W.nsIn K mainGlobals "_law_number" = some (some (.ref a__law_number)))
    (l__law_number : K.lookup a__law_number = some ⟨oc__law_number, od__law_number, .func (PySem.W.fnOf "_law_number" "_law_number" (defArgs s__law_number) (defBody s__law_number) (defScope s__law_number) .none kV__law_number dc__law_number pm__law_number an__law_number (cd__law_number) ct__law_number), sl__law_number⟩)
    (q__law_number : PySem.W.codeIn K (cd__law_number) "_law_number" = true)
    (k__law_number : PySem.W.keepIn K (.ref a__law_number) = true)
    (g__law_power : PySem.W.nsIn K mainGlobals "_law_power" = some (some (.ref a__law_power)))
    (l__law_power : K.lookup a__law_power = some ⟨oc__law_power, od__law_power, .func (PySem.W.fnOf "_law_power" "_law_power" (defArgs s__law_power) (defBody s__law_power) (defScope s__law_power) .none kV__law_power dc__law_power pm__law_power an__law_power (cd__law_power) ct__law_power), sl__law_power⟩)
    (q__law_power : PySem.W.codeIn K (cd__law_power) "_law_power" = true)
    (k__law_power : PySem.W.keepIn K (.ref a__law_power) = true)
    (g__law_refused : PySem.W.nsIn K mainGlobals "_law_refused" = some (some (.ref a__law_refused)))
    (l__law_refused : K.lookup a__law_refused = some ⟨oc__law_refused, od__law_refused, .func (PySem.W.fnOf "_law_refused" "_law_refused" (defArgs s__law_refused) (defBody s__law_refused) (defScope s__law_refused) .none kV__law_refused dc__law_refused pm__law_refused an__law_refused (cd__law_refused) ct__law_refused), sl__law_refused⟩)
    (q__law_refused : PySem.W.codeIn K (cd__law_refused) "_law_refused" = true)
    (k__law_refused : PySem.W.keepIn K (.ref a__law_refused) = true)
    (g__law_is_one : PySem.W.nsIn K mainGlobals "_law_is_one" = some (some (.ref a__law_is_one)))
    (l__law_is_one : K.lookup a__law_is_one = some ⟨oc__law_is_one, od__law_is_one, .func (PySem.W.fnOf "_law_is_one" "_law_is_one" (defArgs s__law_is_one) (defBody s__law_is_one) (defScope s__law_is_one) .none kV__law_is_one dc__law_is_one pm__law_is_one an__law_is_one (cd__law_is_one) ct__law_is_one), sl__law_is_one⟩)
    (q__law_is_one : PySem.W.codeIn K (cd__law_is_one) "_law_is_one" = true)
    (k__law_is_one : PySem.W.keepIn K (.ref a__law_is_one) = true)
    (g__law_things : PySem.W.nsIn K mainGlobals "_law_things" = some (some (.ref a__law_things)))
    (l__law_things : K.lookup a__law_things = some ⟨oc__law_things, od__law_things, .func (PySem.W.fnOf "_law_things" "_law_things" (defArgs s__law_things) (defBody s__law_things) (defScope s__law_things) .none kV__law_things dc__law_things pm__law_things an__law_things (cd__law_things) ct__law_things), sl__law_things⟩)
    (q__law_things : PySem.W.codeIn K (cd__law_things) "_law_things" = true)
    (k__law_things : PySem.W.keepIn K (.ref a__law_things) = true)
    (g__law_pair_right : PySem.W.nsIn K mainGlobals "_law_pair_right" = some (some (.ref a__law_pair_right)))
    (l__law_pair_right : K.lookup a__law_pair_right = some ⟨oc__law_pair_right, od__law_pair_right, .func (PySem.W.fnOf "_law_pair_right" "_law_pair_right" (defArgs s__law_pair_right) (defBody s__law_pair_right) (defScope s__law_pair_right) .none kV__law_pair_right dc__law_pair_right pm__law_pair_right an__law_pair_right (.ref c__law_pair_right) ct__law_pair_right), sl__law_pair_right⟩)
    (q__law_pair_right : PySem.W.codeIn K (.ref c__law_pair_right) "_law_pair_right" = true)
    (k__law_pair_right : PySem.W.keepIn K (.ref a__law_pair_right) = true)
    (t__law_pair_right : K.lookup c__law_pair_right = some ⟨oc2__law_pair_right, od2__law_pair_right, .fields vs__law_pair_right, sl2__law_pair_right⟩)
    (v__law_pair_right : (vs__law_pair_right[11]? : Option Value) = some (.ref P__law_pair_right))
    (n__law_pair_right : K.lookup P__law_pair_right = none)
    (g_law : PySem.W.nsIn K mainGlobals "law" = some (some (.ref a_law)))
    (l_law : K.lookup a_law = some ⟨oc_law, od_law, .func (PySem.W.fnOf "law" "law" (defArgs s_law) (defBody s_law) (defScope s_law) .none kV_law dc_law pm_law an_law (.ref c_law) ct_law), sl_law⟩)
    (q_law : PySem.W.codeIn K (.ref c_law) "law" = true)
    (k_law : PySem.W.keepIn K (.ref a_law) = true)
    (t_law : K.lookup c_law = some ⟨oc2_law, od2_law, .fields vs_law, sl2_law⟩)
    (v_law : (vs_law[11]? : Option Value) = some (.ref P_law))
    (n_law : K.lookup P_law = none)
    (m_ValueError : PySem.W.nsIn K mainGlobals "ValueError" = some none)
    (m_abs : PySem.W.nsIn K mainGlobals "abs" = some none)
    (m_bool : PySem.W.nsIn K mainGlobals "bool" = some none)
    (m_gcd : PySem.W.nsIn K mainGlobals "gcd" = some (some (.builtin "math.gcd")))
    (m_int : PySem.W.nsIn K mainGlobals "int" = some none)
    (m_isinstance : PySem.W.nsIn K mainGlobals "isinstance" = some none)
    (m_len : PySem.W.nsIn K mainGlobals "len" = some none)
    (m_min : PySem.W.nsIn K mainGlobals "min" = some none)
    (m_range : PySem.W.nsIn K mainGlobals "range" = some none)
    (m_repr : PySem.W.nsIn K mainGlobals "repr" = some none)
    (m_str : PySem.W.nsIn K mainGlobals "str" = some none)
    (m_tuple : PySem.W.nsIn K mainGlobals "tuple" = some none)
    (m_type : PySem.W.nsIn K mainGlobals "type" = some none)
    (g_HollowError : PySem.W.nsIn K mainGlobals "HollowError" = some (some (.ref C_HollowError)))
    (g_BadFraction : PySem.W.nsIn K mainGlobals "BadFraction" = some (some (.ref C_BadFraction)))
    (g_BadRule : PySem.W.nsIn K mainGlobals "BadRule" = some (some (.ref C_BadRule)))
    (g_DeedError : PySem.W.nsIn K mainGlobals "DeedError" = some (some (.ref C_DeedError)))
    (g_BookError : PySem.W.nsIn K mainGlobals "BookError" = some (some (.ref C_BookError)))
    (neT__law_pair_right_law : P__law_pair_right ≠ P_law)
    (xc_BadFraction : PySem.W.excIn K C_BadFraction [.type "ValueError", .type "Exception", .type "BaseException", .type "object"] "ValueError.__new__" = true)
    (kc_BadFraction : PySem.W.keepIn K (.ref C_BadFraction) = true)
    (bc_BadFraction : PySem.W.subIn K (.ref C_BadFraction) (.type "BaseException") = some true)
    (tc_BadFraction : PySem.W.typeIn K (.ref C_BadFraction) = some (.type "type"))
    (e1_BadFraction : PySem.W.findIn K (.ref C_BadFraction) "__getattribute__" = some (some (.builtin "BaseException.__getattribute__")))
    (e2_BadFraction : PySem.W.findIn K (.ref C_BadFraction) "__getattr__" = some none)
    (e4_BadFraction : PySem.W.hasDictIn K C_BadFraction = true)
    (e5_BadFraction : PySem.W.findIn K (.ref C_BadFraction) "__class__" = some (some (.builtin "object.__class__")))
    (e6_BadFraction : PySem.W.specialIn K (.builtin "object.__class__") "__get__" = some (some (.builtin "getset_descriptor.__get__")))
    (e7_BadFraction : PySem.W.takesIn K (.builtin "object.__class__") = some true)
    (e8_BadFraction : PySem.W.mroIn K C_BadFraction (.type "object") = some true)
    (ki_BadFraction_BadFraction : PySem.W.kitOne K (.ref C_BadFraction) (.ref C_BadFraction) = some true)
    (ki_BadFraction_ValueError : PySem.W.kitOne K (.ref C_BadFraction) (.type "ValueError") = some true)
    (ki_BadFraction_BadRule : PySem.W.kitOne K (.ref C_BadFraction) (.ref C_BadRule) = some false)
    (ex_BadFraction : PySem.W.exmAny K (.ref C_BadFraction) [.ref C_HollowError, .ref C_DeedError, .ref C_BookError] = some true)
    (hden : ∀ ns : List Int, ns.length ≤ 63 → (∀ z ∈ ns, Builtin.Int.intBits z ≤ 1048576) → ∃ M, m_law [.scr ns] [] = some (.val (.bl true), M)) :
    DEnd P w K q 11 63 "script" mg fa := by
  have e := hfa.symm.trans (PySem.W.mg_of X G g_law)
  cases e
  have F_is_whole := fun_mk (st := s_is_whole) l_is_whole q_is_whole k_is_whole
  have b_is_whole := F_is_whole.binds (ps := ["thing"]) fun _ _ _ _ _ _ us hl => match us, hl with | [_], _ => rfl
  have F_is_tuple_of := fun_mk (st := s_is_tuple_of) l_is_tuple_of q_is_tuple_of k_is_tuple_of
  have b_is_tuple_of := F_is_tuple_of.binds (ps := ["thing", "many"]) fun _ _ _ _ _ _ us hl => match us, hl with | [_, _], _ => rfl
  have F_is_fraction := fun_mk (st := s_is_fraction) l_is_fraction q_is_fraction k_is_fraction
  have b_is_fraction := F_is_fraction.binds (ps := ["thing"]) fun _ _ _ _ _ _ us hl => match us, hl with | [_], _ => rfl
  have F_fraction := fun_mk (st := s_fraction) l_fraction q_fraction k_fraction
  have b_fraction := F_fraction.binds (ps := ["above", "below"]) fun _ _ _ _ _ _ us hl => match us, hl with | [_, _], _ => rfl
  have F_plus := fun_mk (st := s_plus) l_plus q_plus k_plus
  have b_plus := F_plus.binds (ps := ["one", "other"]) fun _ _ _ _ _ _ us hl => match us, hl with | [_, _], _ => rfl
  have F_less := fun_mk (st := s_less) l_less q_less k_less
  have b_less := F_less.binds (ps := ["one", "other"]) fun _ _ _ _ _ _ us hl => match us, hl with | [_, _], _ => rfl
  have F_times := fun_mk (st := s_times) l_times q_times k_times
  have b_times := F_times.binds (ps := ["one", "other"]) fun _ _ _ _ _ _ us hl => match us, hl with | [_, _], _ => rfl
  have F_by := fun_mk (st := s_by) l_by q_by k_by
  have b_by := F_by.binds (ps := ["one", "other"]) fun _ _ _ _ _ _ us hl => match us, hl with | [_, _], _ => rfl
  have F__whole_power := fun_mk (st := s__whole_power) l__whole_power q__whole_power k__whole_power
  have b__whole_power := F__whole_power.binds (ps := ["base", "number"]) fun _ _ _ _ _ _ us hl => match us, hl with | [_, _], _ => rfl
  have F_power := fun_mk (st := s_power) l_power q_power k_power
  have b_power := F_power.binds (ps := ["one", "number"]) fun _ _ _ _ _ _ us hl => match us, hl with | [_, _], _ => rfl
  have F__law_cell := fun_mk (st := s__law_cell) l__law_cell q__law_cell k__law_cell
  have b__law_cell := F__law_cell.binds (ps := ["cells", "spot"]) fun _ _ _ _ _ _ us hl => match us, hl with | [_, _], _ => rfl
  have F__law_low := fun_mk (st := s__law_low) l__law_low q__law_low k__law_low
  have b__law_low := F__law_low.binds (ps := ["above", "below"]) fun _ _ _ _ _ _ us hl => match us, hl with | [_, _], _ => rfl
  have F__law_plus := fun_mk (st := s__law_plus) l__law_plus q__law_plus k__law_plus
  have b__law_plus := F__law_plus.binds (ps := ["one", "other"]) fun _ _ _ _ _ _ us hl => match us, hl with | [_, _], _ => rfl
  have F__law_times := fun_mk (st := s__law_times) l__law_times q__law_times k__law_times
  have b__law_times := F__law_times.binds (ps := ["one", "other"]) fun _ _ _ _ _ _ us hl => match us, hl with | [_, _], _ => rfl
  have F__law_by := fun_mk (st := s__law_by) l__law_by q__law_by k__law_by
  have b__law_by := F__law_by.binds (ps := ["one", "other"]) fun _ _ _ _ _ _ us hl => match us, hl with | [_, _], _ => rfl
  have F__law_number := fun_mk (st := s__law_number) l__law_number q__law_number k__law_number
  have b__law_number := F__law_number.binds (ps := ["cells", "spot"]) fun _ _ _ _ _ _ us hl => match us, hl with | [_, _], _ => rfl
  have F__law_power := fun_mk (st := s__law_power) l__law_power q__law_power k__law_power
  have b__law_power := F__law_power.binds (ps := ["one", "number"]) fun _ _ _ _ _ _ us hl => match us, hl with | [_, _], _ => rfl
  have F__law_refused := fun_mk (st := s__law_refused) l__law_refused q__law_refused k__law_refused
  have b__law_refused := F__law_refused.binds (ps := ["deed"]) fun _ _ _ _ _ _ us hl => match us, hl with | [_], _ => rfl
  have F__law_is_one := fun_mk (st := s__law_is_one) l__law_is_one q__law_is_one k__law_is_one
  have b__law_is_one := F__law_is_one.binds (ps := ["thing"]) fun _ _ _ _ _ _ us hl => match us, hl with | [_], _ => rfl
  have F__law_things := fun_mk (st := s__law_things) l__law_things q__law_things k__law_things
  have b__law_things := F__law_things.binds (ps := ["one", "n"]) fun _ _ _ _ _ _ us hl => match us, hl with | [_, _], _ => rfl
  have F__law_pair_right := fun_mk (st := s__law_pair_right) l__law_pair_right q__law_pair_right k__law_pair_right
  have b__law_pair_right := F__law_pair_right.binds (ps := ["one", "other", "number"]) fun _ _ _ _ _ _ us hl => match us, hl with | [_, _, _], _ => rfl
  have F_law := fun_mk (st := s_law) l_law q_law k_law
  have b_law := F_law.binds (ps := ["script"]) fun _ _ _ _ _ _ us hl => match us, hl with | [_], _ => rfl
  let x : Tx := { K := K, mg := mg, a_is_whole := a_is_whole, fd_is_whole := PySem.W.fnOf "is_whole" "is_whole" (defArgs s_is_whole) (defBody s_is_whole) (defScope s_is_whole) .none kV_is_whole dc_is_whole pm_is_whole an_is_whole (cd_is_whole) ct_is_whole, a_is_tuple_of := a_is_tuple_of, fd_is_tuple_of := PySem.W.fnOf "is_tuple_of" "is_tuple_of" (defArgs s_is_tuple_of) (defBody s_is_tuple_of) (defScope s_is_tuple_of) .none kV_is_tuple_of dc_is_tuple_of pm_is_tuple_of an_is_tuple_of (cd_is_tuple_of) ct_is_tuple_of, a_is_fraction := a_is_fraction, fd_is_fraction := PySem.W.fnOf "is_fraction" "is_fraction" (defArgs s_is_fraction) (defBody s_is_fraction) (defScope s_is_fraction) .none kV_is_fraction dc_is_fraction pm_is_fraction an_is_fraction (cd_is_fraction) ct_is_fraction, a_fraction := a_fraction, fd_fraction := PySem.W.fnOf "fraction" "fraction" (defArgs s_fraction) (defBody s_fraction) (defScope s_fraction) .none kV_fraction dc_fraction pm_fraction an_fraction (cd_fraction) ct_fraction, a_plus := a_plus, fd_plus := PySem.W.fnOf "plus" "plus" (defArgs s_plus) (defBody s_plus) (defScope s_plus) .none kV_plus dc_plus pm_plus an_plus (cd_plus) ct_plus, a_less := a_less, fd_less := PySem.W.fnOf "less" "less" (defArgs s_less) (defBody s_less) (defScope s_less) .none kV_less dc_less pm_less an_less (cd_less) ct_less, a_times := a_times, fd_times := PySem.W.fnOf "times" "times" (defArgs s_times) (defBody s_times) (defScope s_times) .none kV_times dc_times pm_times an_times (cd_times) ct_times, a_by := a_by, fd_by := PySem.W.fnOf "by" "by" (defArgs s_by) (defBody s_by) (defScope s_by) .none kV_by dc_by pm_by an_by (cd_by) ct_by, a__whole_power := a__whole_power, fd__whole_power := PySem.W.fnOf "_whole_power" "_whole_power" (defArgs s__whole_power) (defBody s__whole_power) (defScope s__whole_power) .none kV__whole_power dc__whole_power pm__whole_power an__whole_power (cd__whole_power) ct__whole_power, a_power := a_power, fd_power := PySem.W.fnOf "power" "power" (defArgs s_power) (defBody s_power) (defScope s_power) .none kV_power dc_power pm_power an_power (cd_power) ct_power, a__law_cell := a__law_cell, fd__law_cell := PySem.W.fnOf "_law_cell" "_law_cell" (defArgs s__law_cell) (defBody s__law_cell) (defScope s__law_cell) .none kV__law_cell dc__law_cell pm__law_cell an__law_cell (cd__law_cell) ct__law_cell, a__law_low := a__law_low, fd__law_low := PySem.W.fnOf "_law_low" "_law_low" (defArgs s__law_low) (defBody s__law_low) (defScope s__law_low) .none kV__law_low dc__law_low pm__law_low an__law_low (cd__law_low) ct__law_low, a__law_plus := a__law_plus, fd__law_plus := PySem.W.fnOf "_law_plus" "_law_plus" (defArgs s__law_plus) (defBody s__law_plus) (defScope s__law_plus) .none kV__law_plus dc__law_plus pm__law_plus an__law_plus (cd__law_plus) ct__law_plus, a__law_times := a__law_times, fd__law_times := PySem.W.fnOf "_law_times" "_law_times" (defArgs s__law_times) (defBody s__law_times) (defScope s__law_times) .none kV__law_times dc__law_times pm__law_times an__law_times (cd__law_times) ct__law_times, a__law_by := a__law_by, fd__law_by := PySem.W.fnOf "_law_by" "_law_by" (defArgs s__law_by) (defBody s__law_by) (defScope s__law_by) .none kV__law_by dc__law_by pm__law_by an__law_by (cd__law_by) ct__law_by, a__law_number := a__law_number, fd__law_number := PySem.W.fnOf "_law_number" "_law_number" (defArgs s__law_number) (defBody s__law_number) (defScope s__law_number) .none kV__law_number dc__law_number pm__law_number an__law_number (cd__law_number) ct__law_number, a__law_power := a__law_power, fd__law_power := PySem.W.fnOf "_law_power" "_law_power" (defArgs s__law_power) (defBody s__law_power) (defScope s__law_power) .none kV__law_power dc__law_power pm__law_power an__law_power (cd__law_power) ct__law_power, a__law_refused := a__law_refused, fd__law_refused := PySem.W.fnOf "_law_refused" "_law_refused" (defArgs s__law_refused) (defBody s__law_refused) (defScope s__law_refused) .none kV__law_refused dc__law_refused pm__law_refused an__law_refused (cd__law_refused) ct__law_refused, a__law_is_one := a__law_is_one, fd__law_is_one := PySem.W.fnOf "_law_is_one" "_law_is_one" (defArgs s__law_is_one) (defBody s__law_is_one) (defScope s__law_is_one) .none kV__law_is_one dc__law_is_one pm__law_is_one an__law_is_one (cd__law_is_one) ct__law_is_one, a__law_things := a__law_things, fd__law_things := PySem.W.fnOf "_law_things" "_law_things" (defArgs s__law_things) (defBody s__law_things) (defScope s__law_things) .none kV__law_things dc__law_things pm__law_things an__law_things (cd__law_things) ct__law_things, a__law_pair_right := a__law_pair_right, fd__law_pair_right := PySem.W.fnOf "_law_pair_right" "_law_pair_right" (defArgs s__law_pair_right) (defBody s__law_pair_right) (defScope s__law_pair_right) .none kV__law_pair_right dc__law_pair_right pm__law_pair_right an__law_pair_right (.ref c__law_pair_right) ct__law_pair_right, a_law := fa, fd_law := PySem.W.fnOf "law" "law" (defArgs s_law) (defBody s_law) (defScope s_law) .none kV_law dc_law pm_law an_law (.ref c_law) ct_law, C_HollowError := C_HollowError, C_BadFraction := C_BadFraction, C_BadRule := C_BadRule, C_DeedError := C_DeedError, C_BookError := C_BookError, c__law_pair_right := c__law_pair_right, P__law_pair_right := P__law_pair_right, c_law := c_law, P_law := P_law }
  have t : TxOk x := { g_is_whole := PySem.W.mg_of X G g_is_whole, F_is_whole := F_is_whole, b_is_whole := b_is_whole, g_is_tuple_of := PySem.W.mg_of X G g_is_tuple_of, F_is_tuple_of := F_is_tuple_of, b_is_tuple_of := b_is_tuple_of, g_is_fraction := PySem.W.mg_of X G g_is_fraction, F_is_fraction := F_is_fraction, b_is_fraction := b_is_fraction, g_fraction := PySem.W.mg_of X G g_fraction, F_fraction := F_fraction, b_fraction := b_fraction, g_plus := PySem.W.mg_of X G g_plus, F_plus := F_plus, b_plus := b_plus, g_less := PySem.W.mg_of X G g_less, F_less := F_less, b_less := b_less, g_times := PySem.W.mg_of X G g_times, F_times := F_times, b_times := b_times, g_by := PySem.W.mg_of X G g_by, F_by := F_by, b_by := b_by, g__whole_power := PySem.W.mg_of X G g__whole_power, F__whole_power := F__whole_power, b__whole_power := b__whole_power, g_power := PySem.W.mg_of X G g_power, F_power := F_power, b_power := b_power, g__law_cell := PySem.W.mg_of X G g__law_cell, F__law_cell := F__law_cell, b__law_cell := b__law_cell, g__law_low := PySem.W.mg_of X G g__law_low, F__law_low := F__law_low, b__law_low := b__law_low, g__law_plus := PySem.W.mg_of X G g__law_plus, F__law_plus := F__law_plus, b__law_plus := b__law_plus, g__law_times := PySem.W.mg_of X G g__law_times, F__law_times := F__law_times, b__law_times := b__law_times, g__law_by := PySem.W.mg_of X G g__law_by, F__law_by := F__law_by, b__law_by := b__law_by, g__law_number := PySem.W.mg_of X G g__law_number, F__law_number := F__law_number, b__law_number := b__law_number, g__law_power := PySem.W.mg_of X G g__law_power, F__law_power := F__law_power, b__law_power := b__law_power, g__law_refused := PySem.W.mg_of X G g__law_refused, F__law_refused := F__law_refused, b__law_refused := b__law_refused, g__law_is_one := PySem.W.mg_of X G g__law_is_one, F__law_is_one := F__law_is_one, b__law_is_one := b__law_is_one, g__law_things := PySem.W.mg_of X G g__law_things, F__law_things := F__law_things, b__law_things := b__law_things, g__law_pair_right := PySem.W.mg_of X G g__law_pair_right, F__law_pair_right := F__law_pair_right, b__law_pair_right := b__law_pair_right, g_law := PySem.W.mg_of X G g_law, F_law := F_law, b_law := b_law, m_ValueError := PySem.W.mg_none_of X G m_ValueError, m_abs := PySem.W.mg_none_of X G m_abs, m_bool := PySem.W.mg_none_of X G m_bool, m_gcd := PySem.W.mg_of X G m_gcd, m_int := PySem.W.mg_none_of X G m_int, m_isinstance := PySem.W.mg_none_of X G m_isinstance, m_len := PySem.W.mg_none_of X G m_len, m_min := PySem.W.mg_none_of X G m_min, m_range := PySem.W.mg_none_of X G m_range, m_repr := PySem.W.mg_none_of X G m_repr, m_str := PySem.W.mg_none_of X G m_str, m_tuple := PySem.W.mg_none_of X G m_tuple, m_type := PySem.W.mg_none_of X G m_type, g_HollowError := PySem.W.mg_of X G g_HollowError, g_BadFraction := PySem.W.mg_of X G g_BadFraction, g_BadRule := PySem.W.mg_of X G g_BadRule, g_DeedError := PySem.W.mg_of X G g_DeedError, g_BookError := PySem.W.mg_of X G g_BookError, code__law_pair_right := rfl, code_law := rfl, neT__law_pair_right_law := neT__law_pair_right_law, xc_BadFraction := xc_BadFraction, kc_BadFraction := kc_BadFraction, bc_BadFraction := bc_BadFraction, tc_BadFraction := tc_BadFraction, ec_BadFraction := ⟨e1_BadFraction, e2_BadFraction, bc_BadFraction, e4_BadFraction, e5_BadFraction, e6_BadFraction, e7_BadFraction, e8_BadFraction⟩, ki_BadFraction_BadFraction := ki_BadFraction_BadFraction, ki_BadFraction_ValueError := ki_BadFraction_ValueError, ki_BadFraction_BadRule := ki_BadFraction_BadRule, ex_BadFraction := ex_BadFraction }
  refine ⟨x.fx, _, [(("_law_pair_right" : Str), c__law_pair_right, P__law_pair_right), (("law" : Str), c_law, P_law)], m_law, rfl, ?_, ?_, fun s v => .of_eq rfl, fun base _ _ tb => ok_law t ⟨tb (c__law_pair_right, P__law_pair_right) (by simp), tb (c_law, P_law) (by simp)⟩, hden⟩
  · intro y hy
    simp only [List.mem_cons, or_false, List.not_mem_nil] at hy
    rcases hy with rfl | rfl
    · exact ⟨r__law_pair_right, tabIn_of g__law_pair_right l__law_pair_right rfl t__law_pair_right v__law_pair_right, n__law_pair_right⟩
    · exact ⟨r_law, tabIn_of g_law l_law rfl t_law v_law, n_law⟩
  · intro y hy
    simp only [Tx.fx, List.mem_cons, or_false, List.not_mem_nil] at hy
    rcases hy with rfl | rfl
    · show P__law_pair_right ∈ [P__law_pair_right, P_law]
      simp
    · show P_law ∈ [P__law_pair_right, P_law]
      simp
end K01
open PySem PyProof.Rows
open PySem.W
set_option maxHeartbeats 0 in
theorem PySem.Challenge.cw_hollowrise_k01_fractions_holds : PySem.Challenge.rw_hollowrise_k01_fractions.Holds := by
  w_on; o_law
  k_head
  (case hw => w_witness2)
  k_fill
  refine DL.walk_D (l := PySem.Challenge.rw_hollowrise_k01_fractions) (n := 63) (k := 11) (x := "script") rfl (by decide) rfl ⟨rfl, by decide, by decide⟩ (fun w h Y => PySem.W.km_in_of Y) ?F
  case F =>
    intro w mg fa h Y KX G hmg
    refine' K01.all_mk KX G hmg ⟨_, rfl⟩ ⟨_, rfl⟩ ?g_is_whole ?l_is_whole ?q_is_whole ?k_is_whole ?g_is_tuple_of ?l_is_tuple_of ?q_is_tuple_of ?k_is_tuple_of ?g_is_fraction ?l_is_fraction ?q_is_fraction ?k_is_fraction ?g_fraction ?l_fraction ?q_fraction ?k_fraction ?g_plus ?l_plus ?q_plus ?k_plus ?g_less ?l_less ?q_less ?k_less ?g_times ?l_times ?q_times ?k_times ?g_by ?l_by ?q_by ?k_by ?g__whole_power ?l__whole_power ?q__whole_power ?k__whole_power ?g_power ?l_power ?q_power ?k_power ?g__law_cell ?l__law_cell ?q__law_cell ?k__law_cell ?g__law_low ?l__law_low ?q__law_low ?k__law_low ?g__law_plus ?l__law_plus ?q__law_plus ?k__law_plus ?g__law_times ?l__law_times ?q__law_times ?k__law_times ?g__law_by ?l__law_by ?q__law_by ?k__law_by ?g__law_number ?l__law_number ?q__law_number ?k__law_number ?g__law_power ?l__law_power ?q__law_power ?k__law_power ?g__law_refused ?l__law_refused ?q__law_refused ?k__law_refused ?g__law_is_one ?l__law_is_one ?q__law_is_one ?k__law_is_one ?g__law_things ?l__law_things ?q__law_things ?k__law_things ?g__law_pair_right ?l__law_pair_right ?q__law_pair_right ?k__law_pair_right ?t__law_pair_right ?v__law_pair_right ?n__law_pair_right ?g_law ?l_law ?q_law ?k_law ?t_law ?v_law ?n_law ?m_ValueError ?m_abs ?m_bool ?m_gcd ?m_int ?m_isinstance ?m_len ?m_min ?m_range ?m_repr ?m_str ?m_tuple ?m_type ?g_HollowError ?g_BadFraction ?g_BadRule ?g_DeedError ?g_BookError ?neT__law_pair_right_law ?xc_BadFraction ?kc_BadFraction ?bc_BadFraction ?tc_BadFraction ?e1_BadFraction ?e2_BadFraction ?e4_BadFraction ?e5_BadFraction ?e6_BadFraction ?e7_BadFraction ?e8_BadFraction ?ki_BadFraction_BadFraction ?ki_BadFraction_ValueError ?ki_BadFraction_BadRule ?ex_BadFraction ?hden
    (case g_is_whole => k_is)
    (case l_is_whole => k_is)
    (case q_is_whole => k_is)
    (case k_is_whole => k_is)
    (case g_is_tuple_of => k_is)
    (case l_is_tuple_of => k_is)
    (case q_is_tuple_of => k_is)
    (case k_is_tuple_of => k_is)
    (case g_is_fraction => k_is)
    (case l_is_fraction => k_is)
    (case q_is_fraction => k_is)
    (case k_is_fraction => k_is)
    (case g_fraction => k_is)
    (case l_fraction => k_is)
    (case q_fraction => k_is)
    (case k_fraction => k_is)
    (case g_plus => k_is)
    (case l_plus => k_is)
    (case q_plus => k_is)
    (case k_plus => k_is)
    (case g_less => k_is)
    (case l_less => k_is)
    (case q_less => k_is)
    (case k_less => k_is)
    (case g_times => k_is)
    (case l_times => k_is)
    (case q_times => k_is)
    (case k_times => k_is)
    (case g_by => k_is)
    (case l_by => k_is)
    (case q_by => k_is)
    (case k_by => k_is)
    (case g__whole_power => k_is)
    (case l__whole_power => k_is)
    (case q__whole_power => k_is)
    (case k__whole_power => k_is)
    (case g_power => k_is)
    (case l_power => k_is)
    (case q_power => k_is)
    (case k_power => k_is)
    (case g__law_cell => k_is)
    (case l__law_cell => k_is)
    (case q__law_cell => k_is)
    (case k__law_cell => k_is)
    (case g__law_low => k_is)
    (case l__law_low => k_is)
    (case q__law_low => k_is)
    (case k__law_low => k_is)
    (case g__law_plus => k_is)
    (case l__law_plus => k_is)
    (case q__law_plus => k_is)
    (case k__law_plus => k_is)
    (case g__law_times => k_is)
    (case l__law_times => k_is)
    (case q__law_times => k_is)
    (case k__law_times => k_is)
    (case g__law_by => k_is)
    (case l__law_by => k_is)
    (case q__law_by => k_is)
    (case k__law_by => k_is)
    (case g__law_number => k_is)
    (case l__law_number => k_is)
    (case q__law_number => k_is)
    (case k__law_number => k_is)
    (case g__law_power => k_is)
    (case l__law_power => k_is)
    (case q__law_power => k_is)
    (case k__law_power => k_is)
    (case g__law_refused => k_is)
    (case l__law_refused => k_is)
    (case q__law_refused => k_is)
    (case k__law_refused => k_is)
    (case g__law_is_one => k_is)
    (case l__law_is_one => k_is)
    (case q__law_is_one => k_is)
    (case k__law_is_one => k_is)
    (case g__law_things => k_is)
    (case l__law_things => k_is)
    (case q__law_things => k_is)
    (case k__law_things => k_is)
    (case g__law_pair_right => k_is)
    (case l__law_pair_right => k_is)
    (case q__law_pair_right => k_is)
    (case k__law_pair_right => k_is)
    (case t__law_pair_right => k_is)
    (case v__law_pair_right => rfl)
    (case n__law_pair_right => kernel_rfl)
    (case g_law => k_is)
    (case l_law => k_is)
    (case q_law => k_is)
    (case k_law => k_is)
    (case t_law => k_is)
    (case v_law => rfl)
    (case n_law => kernel_rfl)
    (case m_ValueError => k_is)
    (case m_abs => k_is)
    (case m_bool => k_is)
    (case m_gcd => k_is)
    (case m_int => k_is)
    (case m_isinstance => k_is)
    (case m_len => k_is)
    (case m_min => k_is)
    (case m_range => k_is)
    (case m_repr => k_is)
    (case m_str => k_is)
    (case m_tuple => k_is)
    (case m_type => k_is)
    (case g_HollowError => k_is)
    (case g_BadFraction => k_is)
    (case g_BadRule => k_is)
    (case g_DeedError => k_is)
    (case g_BookError => k_is)
    (case neT__law_pair_right_law => decide)
    (case xc_BadFraction => k_exc)
    (case kc_BadFraction => k_is)
    (case bc_BadFraction => k_is)
    (case tc_BadFraction => k_is)
    (case e1_BadFraction => k_is)
    (case e2_BadFraction => k_is)
    (case e4_BadFraction => k_is)
    (case e5_BadFraction => k_is)
    (case e6_BadFraction => k_is)
    (case e7_BadFraction => k_is)
    (case e8_BadFraction => k_is)
    (case ki_BadFraction_BadFraction => kernel_rfl)
    (case ki_BadFraction_ValueError => kernel_rfl)
    (case ki_BadFraction_BadRule => kernel_rfl)
    (case ex_BadFraction => kernel_rfl)
    (case hden => exact K01.law_true)
