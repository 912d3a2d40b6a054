import PyProof.Rows.All
import HandS.Base
import HandS.Call
import HandS.List
import HandS.Exc
import HandS.ExcOwn
import HandS.Lambda
import HandS.Comp
import HandS.TryOnly
import HandS.Gcd
import HandS.Wide
import HandS.IsInst
import PyProof.IsRules
import PyProof.TypeOfCall
import PyProof.ReprRoads
import PyProof.CallFns
import PyProof.SliceList
import HandS.Words
import HandS.WordsList
import HandS.WordsExc
import HandS.ExcIs
import KE.KTryMore
import HandS.EndTab
import HandS.Dict
import HandS.EndBits
import KE.KNest
import HandS.Iter
import HandS.ForSpec
import KE.KExcSuper
import HandS.HeadWalk
import HandS.CallRecv
import KE.KExcInit
import HandS.TupMul
import HandS.Conv
import PyProof.EqAt
import PyProof.ReprBulk
import PyProof.FitsInt
import HandS.Deep
import HandS.TupAny
import KE.GoesEnum
import KE.GoesNew
import HandS.Walk
import HandS.Zip
import HandS.SortInts
import HandS.CallLocal
import HandS.Defaults
import HandS.SortRule
import HandS.Head0
import HandS.Head1
import HandS.Head2
import HandS.Head3
import HandS.HeadHook1
import HandS.HeadHook2
import HandS.HeadHook4
import KE.DataEq
import PySem.Challenge.RW_hollowrise_k62_minors_of_rows
import Wide.FinOn
import OpenK.AllK
import PyProof.EqKinds
import PyProof.TupleCall
import Open.SpecLaws
import KE.OsGo
set_option Elab.async false
set_option linter.all false
set_option maxRecDepth 100000
set_option maxHeartbeats 3900000
namespace DL
open PySem L2
inductive D where
  | non
  | bl (b : Bool)
  | int (i : Int)
  | str (x : Str)
  | tup (ds : List D)
  | lst (ds : List D)
  | scr (ns : List Int)
  | emp
  | loc (n : Nat)
  | exc (c : String) (fs : List (Str × D))
  | ty (n : String)
  | cls (c : String)
  | clo (f c : Addr) (q : Str) (σd : List (Option V)) (is : List Nat) (ds : List D)
  | ktp (ns : List Int)
  deriving Inhabited
/-- what has a number: a list, a dict with ints and texts as keys, one with tuples of these (l: while it is gone through) -/
inductive Ob where
  | lst (ds : List D)
  | dk (l : Bool) (kvs : List (Key × D))
  | dt (l : Bool) (kvs : List (List Key × D))
  deriving Inhabited
abbrev Store := List Ob
abbrev Env := List (Option D)
/-- a list of the text's own -/
def KL (K : PySem.W.Frag) (a : Addr) (xs : List V) : Prop :=
  ∃ (ob : Obj) (us : Array Value) (m : Nat), K.lookup a = some ob ∧ ob.cls = .type "list" ∧ ob.dict = none ∧ ob.data = .seq us m ∧ us.size ≤ sizeLine ∧ Vals xs us.toList
/-- a tuple of the text's own -/
def KT (K : PySem.W.Frag) (a : Addr) (xs : List V) : Prop :=
  ∃ (ob : Obj) (us : Array Value) (m : Nat), K.lookup a = some ob ∧ ob.cls = .type "tuple" ∧ ob.data = .seq us m ∧ us.size ≤ sizeLine ∧ Vals xs us.toList
/-- the fixed things: the text, the classes' places, the tables of code -/
structure Fx where
  K : PySem.W.Frag
  cl : String → Option Addr
  T : List (Addr × Str)
/-- an exception as an object: its class and its own dict's fields -/
def ExAt (H : Hp) (C : Addr) (a : Addr) (dd : Option Addr) : Prop := ∃ φ : Heap → Prop, H a = some (.ext φ) ∧ ∀ h, φ h → ∃ (oe : Obj) (vs : Array Value), h.get? a = some oe ∧ oe.cls = .ref C ∧ oe.dict = dd ∧ oe.data = .fields vs
mutual
def Rep (F : Fx) (L : List Addr) (H : Hp) : D → V → Prop
  | .non, v => v = .non
  | .bl b, v => v = .bl b
  | .int i, v => v = .int i
  | .str x, v => v = .str x
  | .tup ds, v => ∃ a vs, v = .ref a ∧ H a = some (.tup vs) ∧ Reps F L H ds vs
  | .lst ds, v => ∃ a vs, v = .ref a ∧ (H a = some (.lst vs) ∧ a ∉ L) ∧ Reps F L H ds vs
  | .scr ns, v => ∃ a, v = .ref a ∧ ((∃ o, H a = some (.frz o (.lst (ns.map V.int)))) ∨ KL F.K a (ns.map V.int))
  | .emp, v => ∃ a, v = .ref a ∧ H a = some (.dK []) ∧ a ∉ L
  | .loc n, v => ∃ a, v = .ref a ∧ L[n]? = some a
  | .ty n, v => v = .ty n
  | .cls c, v => ∃ C, v = .ref C ∧ F.cl c = some C
  | .ktp ns, v => ∃ a, v = .ref a ∧ KT F.K a (ns.map V.int)
  | .clo f c q σd is ds, v => (v = .ref f ∧ H c = some (LamX.CodeO c q)) ∧ ∃ vs, (∀ (j i : Nat), is[j]? = some i → ∃ w, vs[j]? = some w ∧ σd[i]? = some (some w)) ∧ Reps F L H ds vs
  | .exc c fs, v => ∃ a C dd, v = .ref a ∧ F.cl c = some C ∧ ExAt H C a dd ∧ a ∉ L ∧ (match dd with | none => fs = [] | some x => ∃ ws, H x = some (.xd ws) ∧ x ∉ L ∧ RepF F L H fs ws)
def Reps (F : Fx) (L : List Addr) (H : Hp) : List D → List V → Prop
  | [], vs => vs = []
  | d :: ds, vs => ∃ v r, vs = v :: r ∧ Rep F L H d v ∧ Reps F L H ds r
def RepF (F : Fx) (L : List Addr) (H : Hp) : List (Str × D) → List (Str × V) → Prop
  | [], ws => ws = []
  | (f, d) :: fs, ws => ∃ v r, ws = (f, v) :: r ∧ Rep F L H d v ∧ RepF F L H fs r
end
/-- pairs -/
def RepP {κ : Type} (F : Fx) (L : List Addr) (H : Hp) : List (κ × D) → List (κ × V) → Prop
  | [], vs => vs = []
  | (k, d) :: kvs, vs => ∃ v r, vs = (k, v) :: r ∧ Rep F L H d v ∧ RepP F L H kvs r
/-- it stands there, locked or not -/
def LkAt (H : Hp) (a : Addr) (l : Bool) (u : HO) : Prop := match l with
  | false => H a = some u
  | true => ∃ o, H a = some (.frz o u)
def ObR (F : Fx) (L : List Addr) (H : Hp) (a : Addr) : Ob → Prop
  | .lst ds => ∃ vs, H a = some (.lst vs) ∧ Reps F L H ds vs
  | .dk l kvs => ∃ vs, LkAt H a l (.dK vs) ∧ RepP F L H kvs vs
  | .dt l kvs => ∃ vs, LkAt H a l (.dT vs) ∧ RepP F L H kvs vs
/-- what the store keeps -/
def OwnO : HO → Prop
  | .lst _ => True
  | .dK _ => True
  | .dT _ => True
  | .frz _ u => match u with
    | .dK _ => True
    | .dT _ => True
    | _ => False
  | _ => False
theorem LkAt.any {H : Hp} {a : Addr} {l : Bool} {u : HO} (h : LkAt H a l u) : ∃ o, H a = some o ∧ (o = u ∨ ∃ ob, o = .frz ob u) := by
  cases l with
  | false => exact ⟨u, h, .inl rfl⟩
  | true =>
    obtain ⟨o, h⟩ := h
    exact ⟨_, h, .inr ⟨o, rfl⟩⟩
/-- the store as it lies -/
structure SM (F : Fx) (L : List Addr) (H : Hp) (M : Store) : Prop where
  len : L.length = M.length
  nd : L.Nodup
  obs : ∀ (n : Nat) (a : Addr) (o : Ob), L[n]? = some a → M[n]? = some o → ObR F L H a o
  tbs : LamX.Tabs F.T H
/-- no table -/
abbrev NoTb (o : HO) : Prop := ∀ ps, o ≠ .tbl ps
/-- one state after another: what was known stays, but for the store and the tables; the store's new places were free -/
structure Stp (L : List Addr) (H : Hp) (L' : List Addr) (H' : Hp) : Prop where
  ext : ∀ a o, H a = some o → a ∉ L → (∀ ps, o ≠ .tbl ps) → H' a = some o
  new : ∃ N, L' = L ++ N ∧ ∀ x ∈ N, ∀ o, H x = some o → ∃ ps, o = .tbl ps
  dom : ∀ a o, H a = some o → NoTb o → ∃ u, H' a = some u ∧ NoTb u
  frz : ∀ a o u, a ∈ L → H a = some (.frz o u) → H' a = some (.frz o u)
theorem Stp.refl (L : List Addr) (H : Hp) : Stp L H L H := ⟨fun _ _ e _ _ => e, ⟨[], (List.append_nil L).symm, fun x hx => absurd hx (by simp)⟩, fun a o e n => ⟨o, e, n⟩, fun _ _ _ _ e => e⟩
theorem Stp.trans {L L1 L2 : List Addr} {H H1 H2 : Hp} (a : Stp L H L1 H1) (b : Stp L1 H1 L2 H2) : Stp L H L2 H2 := by
  obtain ⟨N1, e1, f1⟩ := a.new
  obtain ⟨N2, e2, f2⟩ := b.new
  refine ⟨fun x o hx hn ht => b.ext x o (a.ext x o hx hn ht) ?_ ht, ⟨N1 ++ N2, by rw [e2, e1, List.append_assoc], fun x hx o ho => ?_⟩, fun x o hx ht => ?_, fun x o u hx e => b.frz x o u (by rw [e1]; exact List.mem_append_left _ hx) (a.frz x o u hx e)⟩
  · rw [e1]
    intro z
    rcases List.mem_append.mp z with z | z
    · exact hn z
    · obtain ⟨ps, q⟩ := f1 x z o hx
      exact ht ps q
  · rcases List.mem_append.mp hx with z | z
    · exact f1 x z o ho
    · apply Classical.byContradiction
      intro hc
      obtain ⟨u, h1, h2⟩ := a.dom x o ho (fun ps q => hc ⟨ps, q⟩)
      obtain ⟨ps, q⟩ := f2 x z u h1
      exact h2 ps q
  · obtain ⟨u, h1, h2⟩ := a.dom x o hx ht
    exact b.dom x u h1 h2
/-- a new object beside the store -/
theorem Stp.alloc {L : List Addr} {H : Hp} {p : Addr} {o : HO} (hp : H p = none) : Stp L H L (upd H p o) := by
  refine ⟨fun a u e _ _ => ?_, ⟨[], (List.append_nil L).symm, fun x hx => absurd hx (by simp)⟩, fun a u e n => ⟨u, ?_, n⟩, fun a o' u _ e => by rw [upd_ne (ne_of_none e hp)]; exact e⟩
  · rw [upd_ne (ne_of_none e hp)]
    exact e
  · rw [upd_ne (ne_of_none e hp)]
    exact e
/-- a new object of the store -/
theorem Stp.alloc' {L : List Addr} {H : Hp} {p : Addr} {o : HO} (hp : H p = none) : Stp L H (L ++ [p]) (upd H p o) := by
  refine ⟨(Stp.alloc hp).ext, ⟨[p], rfl, fun x hx u hu => ?_⟩, (Stp.alloc (L := L) hp).dom, (Stp.alloc (L := L) hp).frz⟩
  have e : x = p := by simpa using hx
  rw [e, hp] at hu
  cases hu
/-- an object of the store is changed -/
theorem Stp.put {L : List Addr} {H : Hp} {p : Addr} {o : HO} (hp : p ∈ L) (hz : ∀ o' u, H p ≠ some (.frz o' u)) (hn : NoTb o := by exact fun ps z => nomatch z) : Stp L H L (upd H p o) := by
  refine ⟨fun a u e n _ => ?_, ⟨[], (List.append_nil L).symm, fun x hx => absurd hx (by simp)⟩, fun a u e n => ?_, fun a o' u _ e => by rw [upd_ne (fun z => hz o' u (by rw [← z]; exact e))]; exact e⟩
  · rw [upd_ne (fun z => n (by rw [z]; exact hp))]
    exact e
  · by_cases h : a = p
    · rw [h, upd_same]
      exact ⟨o, rfl, hn⟩
    · rw [upd_ne h]
      exact ⟨u, e, n⟩
section
variable {F : Fx} {L L' : List Addr} {H H' : Hp} {M M' : Store}
theorem Stp.get (s : Stp L H L' H') {n : Nat} {a : Addr} (e : L[n]? = some a) : L'[n]? = some a := by
  obtain ⟨N, rfl, _⟩ := s.new
  rw [List.getElem?_append_left (List.getElem?_eq_some_iff.mp e).1]
  exact e
theorem Stp.out (s : Stp L H L' H') {a : Addr} {o : HO} (e : H a = some o) (n : a ∉ L) (ht : NoTb o := by exact fun ps z => nomatch z) : a ∉ L' := by
  obtain ⟨N, rfl, f⟩ := s.new
  intro z
  rcases List.mem_append.mp z with z | z
  · exact n z
  · obtain ⟨ps, q⟩ := f a z o e
    exact ht ps q
theorem SM.get (m : SM F L H M) {n : Nat} {a : Addr} (e : L[n]? = some a) : ∃ o, M[n]? = some o ∧ ObR F L H a o := by
  have h : n < M.length := by rw [← m.len]; exact (List.getElem?_eq_some_iff.mp e).1
  exact ⟨M[n], List.getElem?_eq_getElem h, m.obs n a _ e (List.getElem?_eq_getElem h)⟩
theorem SM.kind (m : SM F L H M) {a : Addr} (e : a ∈ L) : ∃ o, H a = some o ∧ OwnO o := by
  obtain ⟨n, hn⟩ := List.mem_iff_getElem?.mp e
  obtain ⟨o, _, r⟩ := m.get hn
  cases o with
  | lst ds =>
    obtain ⟨vs, h, _⟩ := r
    exact ⟨_, h, trivial⟩
  | dk l kvs =>
    obtain ⟨vs, h, _⟩ := r
    obtain ⟨o, h, rfl | ⟨ob, rfl⟩⟩ := h.any
    · exact ⟨_, h, trivial⟩
    · exact ⟨_, h, trivial⟩
  | dt l kvs =>
    obtain ⟨vs, h, _⟩ := r
    obtain ⟨o, h, rfl | ⟨ob, rfl⟩⟩ := h.any
    · exact ⟨_, h, trivial⟩
    · exact ⟨_, h, trivial⟩
/-- what is known to be of another kind is not of the store -/
theorem SM.not (m : SM F L H M) {a : Addr} {o : HO} (h : H a = some o) (n : ¬ OwnO o) : a ∉ L := fun z => by
  obtain ⟨u, e, q⟩ := m.kind z
  rw [h] at e
  cases e
  exact n q
/-- what is read of a thing that stays -/
theorem rd_stay (s : Stp L H L' H') {a : Addr} {u : HO} (h : Rd H a u) (n : a ∉ L) (ht : ∀ ps, u ≠ .tbl ps) : Rd H' a u := by
  rcases h with h | ⟨o, h⟩
  · exact .inl (s.ext a _ h n ht)
  · exact .inr ⟨o, s.ext a _ h n fun ps z => by cases z⟩
theorem tup_out (m : SM F L H M) {a : Addr} {vs : List V} (h : Rd H a (.tup vs)) : a ∉ L := by
  rcases h with h | ⟨o, h⟩
  · exact m.not h id
  · exact m.not h id
theorem sqt_stay (m : SM F L H M) (s : Stp L H L' H') {a : Addr} {vs : List V} (h : SqT F.K H a vs) : SqT F.K H' a vs := by
  rcases h with h | h
  · exact .inl (rd_stay s h (tup_out m h) fun ps z => by cases z)
  · exact .inr h
theorem exat_stay (s : Stp L H L' H') {C a : Addr} {dd : Option Addr} (h : ExAt H C a dd) (n : a ∉ L) : ExAt H' C a dd ∧ a ∉ L' := by
  obtain ⟨φ, e, q⟩ := h
  exact ⟨⟨φ, s.ext a _ e n fun ps z => (by cases z), q⟩, s.out e n⟩
mutual
theorem Rep.stay (m : SM F L H M) (s : Stp L H L' H') : ∀ (d : D) (v : V), Rep F L H d v → Rep F L' H' d v
  | .non, _, h => h
  | .bl _, _, h => h
  | .int _, _, h => h
  | .str _, _, h => h
  | .ty _, _, h => h
  | .cls _, _, h => h
  | .ktp _, _, h => h
  | .clo f c q σd is ds, _, h => by
    obtain ⟨⟨h1, h2⟩, vs, h3, h4⟩ := h
    refine ⟨⟨h1, s.ext c _ h2 (m.not h2 id) fun ps z => ?_⟩, vs, h3, Reps.stay m s ds vs h4⟩
    · unfold LamX.CodeO at z
      cases z
  | .tup ds, _, h => by
    obtain ⟨a, vs, e, t, r⟩ := h
    exact ⟨a, vs, e, s.ext a _ t (m.not t id) fun ps z => (by cases z), Reps.stay m s ds vs r⟩
  | .lst ds, _, h => by
    obtain ⟨a, vs, e, t, r⟩ := h
    exact ⟨a, vs, e, ⟨s.ext a _ t.1 t.2 fun ps z => (by cases z), s.out t.1 t.2⟩, Reps.stay m s ds vs r⟩
  | .scr ns, _, h => by
    obtain ⟨a, e, t⟩ := h
    refine ⟨a, e, ?_⟩
    rcases t with ⟨o, t⟩ | t
    · exact .inl ⟨o, s.ext a _ t (m.not t id) fun ps z => (by cases z)⟩
    · exact .inr t
  | .emp, _, h => by
    obtain ⟨a, e, t, n⟩ := h
    exact ⟨a, e, s.ext a _ t n fun ps z => (by cases z), s.out t n⟩
  | .loc n, _, h => by
    obtain ⟨a, e, t⟩ := h
    exact ⟨a, e, s.get t⟩
  | .exc c fs, _, h => by
    obtain ⟨a, C, dd, e, hc, x, n, k⟩ := h
    obtain ⟨x', n'⟩ := exat_stay s x n
    refine ⟨a, C, dd, e, hc, x', n', ?_⟩
    cases dd with
    | none => exact k
    | some y =>
      obtain ⟨ws, h1, h2, h3⟩ := k
      exact ⟨ws, s.ext y _ h1 h2 fun ps z => (by cases z), s.out h1 h2, RepF.stay m s fs ws h3⟩
theorem Reps.stay (m : SM F L H M) (s : Stp L H L' H') : ∀ (ds : List D) (vs : List V), Reps F L H ds vs → Reps F L' H' ds vs
  | [], _, h => h
  | d :: ds, _, h => by
    obtain ⟨v, r, e, h1, h2⟩ := h
    exact ⟨v, r, e, Rep.stay m s d v h1, Reps.stay m s ds r h2⟩
theorem RepF.stay (m : SM F L H M) (s : Stp L H L' H') : ∀ (fs : List (Str × D)) (ws : List (Str × V)), RepF F L H fs ws → RepF F L' H' fs ws
  | [], _, h => h
  | (f, d) :: fs, _, h => by
    obtain ⟨v, r, e, h1, h2⟩ := h
    exact ⟨v, r, e, Rep.stay m s d v h1, RepF.stay m s fs r h2⟩
end
end
theorem RepP.stay {κ : Type} {F : Fx} {L L' : List Addr} {H H' : Hp} {M : Store} (m : SM F L H M) (s : Stp L H L' H') : ∀ (kvs : List (κ × D)) (vs : List (κ × V)), RepP F L H kvs vs → RepP F L' H' kvs vs
  | [], _, h => h
  | (k, d) :: kvs, _, h => by
    obtain ⟨v, r, e, h1, h2⟩ := h
    exact ⟨v, r, e, Rep.stay m s d v h1, RepP.stay m s kvs r h2⟩
theorem LkAt.imp {H H' : Hp} {a : Addr} {l : Bool} {u : HO} (ho : OwnO u) (hf : ∀ o, OwnO (.frz o u)) (e : ∀ o, H a = some o → OwnO o → H' a = some o) (h : LkAt H a l u) : LkAt H' a l u := by
  cases l with
  | false => exact e _ h ho
  | true =>
    obtain ⟨o, h⟩ := h
    exact ⟨o, e _ h (hf o)⟩
theorem ObR.stay {F : Fx} {L L' : List Addr} {H H' : Hp} {M : Store} {a : Addr} (m : SM F L H M) (s : Stp L H L' H') (e : ∀ o, H a = some o → OwnO o → H' a = some o) : ∀ o : Ob, ObR F L H a o → ObR F L' H' a o
  | .lst ds, ⟨vs, h, r⟩ => ⟨vs, e _ h trivial, Reps.stay m s ds vs r⟩
  | .dk l ds, ⟨vs, h, r⟩ => ⟨vs, h.imp trivial (fun _ => trivial) e, RepP.stay m s ds vs r⟩
  | .dt l ds, ⟨vs, h, r⟩ => ⟨vs, h.imp trivial (fun _ => trivial) e, RepP.stay m s ds vs r⟩
/-- the names' values -/
def EnvR (F : Fx) (L : List Addr) (H : Hp) (e : Env) (σ : St) : Prop := ∀ (i : Nat) (d : D), e[i]? = some (some d) → ∃ v, σ[i]? = some (some v) ∧ Rep F L H d v
structure SR (F : Fx) (L : List Addr) (H : Hp) (M : Store) (e : Env) (σ : St) : Prop where
  l : σ.length = e.length
  m : SM F L H M
  e : EnvR F L H e σ
theorem EnvR.stay {F : Fx} {L L' : List Addr} {H H' : Hp} {M : Store} {e : Env} {σ : St} (m : SM F L H M) (s : Stp L H L' H') (h : EnvR F L H e σ) : EnvR F L' H' e σ := fun i d q => by
  obtain ⟨v, h1, h2⟩ := h i d q
  exact ⟨v, h1, Rep.stay m s d v h2⟩
theorem SR.stay {F : Fx} {L L' : List Addr} {H H' : Hp} {M M' : Store} {e : Env} {σ : St} (h : SR F L H M e σ) (s : Stp L H L' H') (m : SM F L' H' M') : SR F L' H' M' e σ := ⟨h.l, m, h.e.stay h.m s⟩
/-- an object beside the store leaves the store -/
theorem SM.alloc {F : Fx} {L : List Addr} {H : Hp} {M : Store} {p : Addr} {o : HO} (m : SM F L H M) (hp : H p = none) : SM F L (upd H p o) M := by
  have s : Stp L H L (upd H p o) := Stp.alloc hp
  refine ⟨m.len, m.nd, fun n a ob h1 h2 => ?_, m.tbs.ext fun b x e => by rw [upd_ne (ne_of_none e hp)]; exact e⟩
  exact ObR.stay m s (fun u hu _ => by rw [upd_ne (ne_of_none hu hp)]; exact hu) ob (m.obs n a ob h1 h2)
/-- an exception that leaves: its class, its fields by its own dict -/
def ExR (F : Fx) (L : List Addr) (H : Hp) (c : String) (fs : List (Str × D)) (cls : Value) (dd : Option Addr) : Prop :=
  ∃ C, F.cl c = some C ∧ cls = .ref C ∧ (match dd with | none => fs = [] | some x => ∃ ws, H x = some (.xd ws) ∧ x ∉ L ∧ RepF F L H fs ws)
/-- a result: a value, or an exception; and the store. none: nothing is said -/
inductive Out (α : Type) where
  | val (d : α)
  | exc (c : String) (fs : List (Str × D))
abbrev RD (α : Type) := Option (Out α × Store)
abbrev RE := RD D
abbrev DenE := Env → Store → RE
def ok {α : Type} (d : α) (M : Store) : RD α := some (.val d, M)
def bindE {α β : Type} (r : RD α) (f : α → Store → RD β) : RD β := match r with
  | some (.val d, M) => f d M
  | some (.exc c fs, M) => some (.exc c fs, M)
  | none => none
/-- what is wanted of a result; rp: how it lies -/
def PostG {α β : Type} (F : Fx) (rp : List Addr → Hp → α → β → Prop) (e : Env) (L : List Addr) (H : Hp) (σ : St) (W : WX) (Q : β → Hp → Prop) : RD α → Prop
  | some (.val d, M') => ∀ (L' : List Addr) (H' : Hp) (v : β), Stp L H L' H' → SR F L' H' M' e σ → rp L' H' d v → Q v H'
  | some (.exc c fs, M') => ∀ (L' : List Addr) (H' : Hp) (cls : Value) (dd : Option Addr), Stp L H L' H' → SR F L' H' M' e σ → ExR F L' H' c fs cls dd → W cls dd σ H'
  | none => False
abbrev Post (F : Fx) := PostG (α := D) (β := V) F (Rep F)
abbrev PostA (F : Fx) := PostG (α := List D) (β := List V) F (Reps F)
/-- the expression x is den; a test; arguments -/
def DE (F : Fx) (X : Cx) (W : WX) (x : Expr) (den : DenE) : Prop :=
  ∃ t, PE X x t ∧ ∀ (e : Env) (M : Store) (L : List Addr) (σ : St) (H : Hp) (Q : VK), SR F L H M e σ → Post F e L H σ W Q (den e M) → t σ H Q
def DT (F : Fx) (X : Cx) (W : WX) (x : Expr) (den : DenE) : Prop :=
  ∃ t, PT X x t ∧ ∀ (e : Env) (M : Store) (L : List Addr) (σ : St) (H : Hp) (Q : Bool → Hp → Prop), SR F L H M e σ → Post F e L H σ W (fun v H' => ∃ b, v = .bl b ∧ Q b H') (den e M) → t σ H Q
def DW (F : Fx) (X : Cx) (W : WX) (x : Expr) (den : DenE) : Prop :=
  ∃ t, PW X x t ∧ ∀ (e : Env) (M : Store) (L : List Addr) (σ : St) (H : Hp) (Q : Bool → Hp → Prop), SR F L H M e σ → Post F e L H σ W (fun v H' => ∃ b, v = .bl b ∧ Q b H') (den e M) → t σ H Q
def DA (F : Fx) (X : Cx) (W : WX) (xs : List Expr) (den : Env → Store → RD (List D)) : Prop :=
  ∃ t, PA X xs t ∧ ∀ (e : Env) (M : Store) (L : List Addr) (σ : St) (H : Hp) (Q : List V → Hp → Prop), SR F L H M e σ → PostA F e L H σ W Q (den e M) → t σ H Q
section
variable {α β γ δ : Type} {F : Fx} {rp : List Addr → Hp → α → β → Prop} {rq : List Addr → Hp → γ → δ → Prop} {e : Env} {L L1 : List Addr} {H H1 : Hp} {M : Store} {σ : St} {W : WX} {Q Q' : β → Hp → Prop} {P : δ → Hp → Prop}
/-- as Post, from a state further on -/
theorem PostG.go (s : Stp L H L1 H1) : ∀ {r : RD α}, PostG F rp e L H σ W Q r → PostG F rp e L1 H1 σ W Q r
  | some (.val d, M'), h => fun L' H' v s' r rv => h L' H' v (s.trans s') r rv
  | some (.exc c fs, M'), h => fun L' H' cls dd s' r rv => h L' H' cls dd (s.trans s') r rv
  | none, h => h
theorem PostG.imp (k : ∀ v H', Q v H' → Q' v H') : ∀ {r : RD α}, PostG F rp e L H σ W Q r → PostG F rp e L H σ W Q' r
  | some (.val d, M'), h => fun L' H' v s' r rv => k v H' (h L' H' v s' r rv)
  | some (.exc c fs, M'), h => h
  | none, h => h
/-- one behind the other -/
theorem PostG.bind {f : α → Store → RD γ} (k : ∀ d M1 L1 H1 v, Stp L H L1 H1 → SR F L1 H1 M1 e σ → rp L1 H1 d v → PostG F rq e L1 H1 σ W P (f d M1) → Q v H1) :
    ∀ {r : RD α}, PostG F rq e L H σ W P (bindE r f) → PostG F rp e L H σ W Q r
  | some (.val d, M1), h => fun L1 H1 v s r rv => k d M1 L1 H1 v s r rv (PostG.go s h)
  | some (.exc c fs, M1), h => h
  | none, h => h
theorem PostG.ok {d : α} {v : β} (h : PostG F rp e L H σ W Q (ok d M)) (r : SR F L H M e σ) (rv : rp L H d v) : Q v H := h L H v (Stp.refl L H) r rv
end
end DL
namespace DL
open PySem L2
def nameD (i : Nat) : DenE := fun e M => match e[i]? with
  | some (some d) => ok d M
  | _ => none
def cD (d : D) : DenE := fun _ M => ok d M
/-- the list behind a value -/
def getL (M : Store) : D → Option (List D)
  | .lst ds => some ds
  | .scr ns => some (ns.map D.int)
  | .loc n => match M[n]? with
    | some (.lst ds) => some ds
    | _ => none
  | _ => none
def truD (M : Store) : D → Option Bool
  | .non => some false
  | .bl b => some b
  | .int i => some (i != 0)
  | .str x => if x.length ≤ sizeLine then some ((x.length : Int) != 0) else none
  | .tup ds => some (!ds.isEmpty)
  | .lst ds => some (!ds.isEmpty)
  | .scr ns => some (!(ns.map D.int).isEmpty)
  | .emp => some false
  | .loc n => (getL M (.loc n)).map fun ds => !ds.isEmpty
  | _ => none
section
variable {F : Fx} {X : Cx} {W : WX} {L : List Addr} {H : Hp} {M : Store} {e : Env} {σ : St}
theorem de_name (i : Nat) {x : Str} {pos : Pos} (hN : X.N[i]? = some x := by rfl) (hv : Vis X.env.scope x := by first | exact Or.inl rfl | exact Or.inr (Or.inl rfl) | exact Or.inr (Or.inr rfl)) (h1 : (x == ("__debug__" : Str)) = false := by decide)
    (h2 : (x == ("__classdict__" : Str)) = false := by decide) : DE F X W (.Name x pos) (nameD i) := by
  refine ⟨tVar i, pe_var hN hv h1 h2, fun e M L σ H Q r p => ?_⟩
  unfold nameD at p
  split at p
  · rename_i d hd
    obtain ⟨v, a, b⟩ := r.e i d hd
    exact ⟨v, a, p.ok r b⟩
  · exact False.elim p
theorem de_int {i : Int} {j pos} : DE F X W (.Constant (.int i) j pos) (cD (.int i)) := ⟨_, pe_int, fun e M L σ H Q r p => p.ok r rfl⟩
theorem de_bl {b : Bool} {j pos} : DE F X W (.Constant (.bool b) j pos) (cD (.bl b)) := ⟨_, pe_bl, fun e M L σ H Q r p => p.ok r rfl⟩
theorem de_non {j pos} : DE F X W (.Constant .none j pos) (cD .non) := ⟨_, pe_non, fun e M L σ H Q r p => p.ok r rfl⟩
theorem de_str {x : Str} {j pos} : DE F X W (.Constant (.str x) j pos) (cD (.str x)) := ⟨_, pe_str, fun e M L σ H Q r p => p.ok r rfl⟩
/-- a list stands there -/
def isL (M : Store) (n : Nat) : Bool := match M[n]? with
  | some (.lst _) => true
  | _ => false
theorem isL_at {n : Nat} {ds : List D} (h : M[n]? = some (.lst ds)) : isL M n = true := by
  unfold isL
  rw [h]
theorem isL_out {n : Nat} (h : isL M n = true) : ∃ ds, M[n]? = some (.lst ds) := by
  unfold isL at h
  split at h
  · exact ⟨_, by assumption⟩
  · cases h
theorem SM.lst (m : SM F L H M) {n : Nat} {a : Addr} (e : L[n]? = some a) (h : isL M n = true) : ∃ vs, H a = some (.lst vs) := by
  obtain ⟨ds, h⟩ := isL_out h
  obtain ⟨o, h1, h2⟩ := m.get e
  rw [h] at h1
  cases h1
  obtain ⟨vs, h3, _⟩ := h2
  exact ⟨vs, h3⟩
/-- reading behind what is represented -/
theorem reps_len : ∀ {ds : List D} {vs : List V}, Reps F L H ds vs → ds.length = vs.length
  | [], _, h => by
    have h' : _ = [] := h
    rw [h']
    rfl
  | d :: ds, _, h => by
    obtain ⟨v, r, rfl, _, h2⟩ := h
    rw [List.length_cons, List.length_cons, reps_len h2]
theorem reps_get : ∀ {ds : List D} {vs : List V} {j : Nat} {d : D}, Reps F L H ds vs → ds[j]? = some d → ∃ v, vs[j]? = some v ∧ Rep F L H d v
  | [], _, _, _, _, q => by simp at q
  | a :: ds, _, 0, d, h, q => by
    obtain ⟨v, r, rfl, h1, h2⟩ := h
    have q' : a = d := by simpa using q
    subst q'
    exact ⟨v, rfl, h1⟩
  | a :: ds, _, j + 1, d, h, q => by
    obtain ⟨v, r, rfl, h1, h2⟩ := h
    obtain ⟨u, h3, h4⟩ := reps_get (j := j) h2 (by simpa using q)
    exact ⟨u, by simpa using h3, h4⟩
theorem reps_app : ∀ {ds es : List D} {vs ws : List V}, Reps F L H ds vs → Reps F L H es ws → Reps F L H (ds ++ es) (vs ++ ws)
  | [], _, _, _, h, k => by
    have h' : _ = [] := h
    rw [h']
    exact k
  | d :: ds, _, _, _, h, k => by
    obtain ⟨v, r, rfl, h1, h2⟩ := h
    exact ⟨v, r ++ _, rfl, h1, reps_app h2 k⟩
theorem reps_snoc {ds : List D} {vs : List V} {d : D} {v : V} (h : Reps F L H ds vs) (k : Rep F L H d v) : Reps F L H (ds ++ [d]) (vs ++ [v]) := reps_app h ⟨v, [], rfl, k, rfl⟩
theorem reps_set : ∀ {ds : List D} {vs : List V} {d : D} {v : V} (j : Nat), Reps F L H ds vs → Rep F L H d v → Reps F L H (ds.set j d) (vs.set j v)
  | [], _, _, _, j, h, _ => by
    have h' : _ = [] := h
    rw [h']
    exact (rfl : ([] : List V) = [])
  | a :: ds, _, d, v, 0, h, k => by
    obtain ⟨w, r, rfl, h1, h2⟩ := h
    exact ⟨v, r, rfl, k, h2⟩
  | a :: ds, _, d, v, j + 1, h, k => by
    obtain ⟨w, r, rfl, h1, h2⟩ := h
    exact ⟨w, _, rfl, h1, reps_set j h2 k⟩
theorem reps_ints : ∀ (ns : List Int), Reps F L H (ns.map D.int) (ns.map V.int)
  | [] => rfl
  | n :: ns => ⟨.int n, _, rfl, rfl, reps_ints ns⟩
/-- the list behind a represented value -/
theorem getL_sq (hm : SM F L H M) {d : D} {ds : List D} {v : V} (g : getL M d = some ds) (r : Rep F L H d v) : ∃ a vs, v = .ref a ∧ SqL F.K H a vs ∧ Reps F L H ds vs := by
  cases d with
  | lst es =>
    have g' : es = ds := Option.some.inj g
    subst g'
    obtain ⟨a, vs, e1, e2, e3⟩ := r
    exact ⟨a, vs, e1, .inl (.inl e2.1), e3⟩
  | scr ns =>
    have g' : ns.map D.int = ds := Option.some.inj g
    subst g'
    obtain ⟨a, e1, e2⟩ := r
    refine ⟨a, _, e1, ?_, reps_ints ns⟩
    rcases e2 with ⟨o, e2⟩ | e2
    · exact .inl (.inr ⟨o, e2⟩)
    · exact .inr e2
  | loc n =>
    obtain ⟨a, e1, e2⟩ := r
    obtain ⟨o, h1, h2⟩ := hm.get e2
    cases o with
    | lst es =>
      unfold getL at g
      dsimp only at g
      rw [h1] at g
      have g' : es = ds := Option.some.inj g
      subst g'
      obtain ⟨vs, h3, h4⟩ := h2
      exact ⟨a, vs, e1, .inl (.inl h3), h4⟩
    | dk _ _ => unfold getL at g; dsimp only at g; rw [h1] at g; cases g
    | dt _ _ => unfold getL at g; dsimp only at g; rw [h1] at g; cases g
  | non => exact nomatch g
  | bl b => exact nomatch g
  | int i => exact nomatch g
  | str x => exact nomatch g
  | tup es => exact nomatch g
  | emp => exact nomatch g
  | exc c fs => exact nomatch g
  | ty c => exact nomatch g
  | cls c => exact nomatch g
  | clo f c q σd is ds => exact nomatch g
  | ktp ns => exact nomatch g
theorem tru_of (hm : SM F L H M) {d : D} {v : V} {b : Bool} (g : truD M d = some b) (r : Rep F L H d v) : TruV F.K v H b := by
  have emp : ∀ {ds : List D} {vs : List V}, Reps F L H ds vs → (!ds.isEmpty) = !vs.isEmpty := fun {ds vs} h => by
    have l := reps_len h
    cases ds with
    | nil =>
      cases vs with
      | nil => rfl
      | cons y ys => simp at l
    | cons x xs =>
      cases vs with
      | nil => simp at l
      | cons y ys => rfl
  cases d with
  | non =>
    have r' : v = .non := r
    subst r'
    exact (Option.some.inj g).symm
  | bl c =>
    have r' : v = .bl c := r
    subst r'
    exact (Option.some.inj g).symm
  | int i =>
    have r' : v = .int i := r
    subst r'
    exact (Option.some.inj g).symm
  | str x =>
    have r' : v = .str x := r
    subst r'
    unfold truD at g
    dsimp only at g
    split at g
    · rename_i hx
      exact ⟨hx, (Option.some.inj g).symm⟩
    · cases g
  | tup ds =>
    obtain ⟨a, vs, rfl, e2, e3⟩ := r
    have e2 := (Or.inl (Or.inl e2) : SqT F.K H a vs)
    have g' : (!ds.isEmpty) = b := Option.some.inj g
    exact .inr (.inl ⟨vs, e2, by rw [← g', emp e3]⟩)
  | lst ds =>
    obtain ⟨a, vs, rfl, e2, e3⟩ := getL_sq (ds := ds) hm rfl r
    have g' : (!ds.isEmpty) = b := Option.some.inj g
    exact .inl ⟨vs, e2, by rw [← g', emp e3]⟩
  | scr ns =>
    obtain ⟨a, vs, rfl, e2, e3⟩ := getL_sq (ds := ns.map D.int) hm rfl r
    have g' : (!(ns.map D.int).isEmpty) = b := Option.some.inj g
    exact .inl ⟨vs, e2, by rw [← g', emp e3]⟩
  | emp =>
    obtain ⟨a, rfl, e2, _⟩ := r
    exact .inr (.inr ⟨[], e2, (Option.some.inj g).symm⟩)
  | loc n =>
    unfold truD at g
    dsimp only at g
    cases q : getL M (.loc n) with
    | none => rw [q] at g; cases g
    | some ds =>
      rw [q] at g
      obtain ⟨a, vs, rfl, e2, e3⟩ := getL_sq hm q r
      have g' : (!ds.isEmpty) = b := Option.some.inj g
      exact .inl ⟨vs, e2, by rw [← g', emp e3]⟩
  | exc c fs => cases g
  | ty c => cases g
  | cls c => cases g
  | clo f c q σd is ds => cases g
  | ktp ns => cases g
/-- a value as a test -/
def asT (d : D) (M : Store) : RE := match truD M d with
  | some b => ok (.bl b) M
  | none => none
theorem dt_val (hK : X.K = F.K := by rfl) {x : Expr} {da : DenE} (ha : DE F X W x da) (he : ∀ whole, isTrue x X.env whole = (do let v ← whole; standAt x.pos; holding [v] (truthy v)) := by intro _; rfl) : DT F X W x (fun e M => bindE (da e M) asT) := by
  obtain ⟨t, p1, p2⟩ := ha
  refine ⟨_, pt_truth p1 he, fun e M L σ H Q r p => ?_⟩
  refine p2 e M L σ H _ r (PostG.bind (fun d M1 L1 H1 v s1 r1 rv q => ?_) p)
  unfold asT at q
  split at q
  · rename_i b hb
    obtain ⟨b', e1, e2⟩ := q.ok r1 rfl
    cases e1
    exact ⟨b, by rw [hK]; exact tru_of r1.m hb rv, e2⟩
  · exact False.elim q
/-- an operator by its reading r does f -/
def OpOk (F : Fx) (r : R2) (f : D → D → Store → RE) : Prop := ∀ (d1 d2 : D) (M : Store) (L : List Addr) (H : Hp) (e : Env) (σ : St) (W : WX) (v1 v2 : V) (Q : VK), SR F L H M e σ → Rep F L H d1 v1 → Rep F L H d2 v2 → Post F e L H σ W Q (f d1 d2 M) → r v1 v2 H Q
def binD (f : D → D → Store → RE) (da db : DenE) : DenE := fun e M => bindE (da e M) fun d1 M1 => bindE (db e M1) fun d2 M2 => f d1 d2 M2
theorem bin_ok {x y : Expr} {da db : DenE} {ta tb : TE} {r : R2} {f : D → D → Store → RE} (hf : OpOk F r f)
    (ha : ∀ (e : Env) (M : Store) (L : List Addr) (σ : St) (H : Hp) (Q : VK), SR F L H M e σ → Post F e L H σ W Q (da e M) → ta σ H Q)
    (hb : ∀ (e : Env) (M : Store) (L : List Addr) (σ : St) (H : Hp) (Q : VK), SR F L H M e σ → Post F e L H σ W Q (db e M) → tb σ H Q)
    (e : Env) (M : Store) (L : List Addr) (σ : St) (H : Hp) (Q : VK) (sr : SR F L H M e σ) (p : Post F e L H σ W Q (binD f da db e M)) : tOp r ta tb σ H Q := by
  refine ha e M L σ H _ sr (PostG.bind (fun d1 M1 L1 H1 v1 s1 r1 rv1 q => ?_) p)
  refine hb e M1 L1 σ H1 _ r1 (PostG.bind (fun d2 M2 L2 H2 v2 s2 r2 rv2 q2 => ?_) q)
  exact hf d1 d2 M2 L2 H2 e σ W v1 v2 Q r2 (Rep.stay r1.m s2 d1 v1 rv1) rv2 q2
theorem de_bin {op : Operator} {r : R2} {f : D → D → Store → RE} {x y : Expr} {da db : DenE} {pos : Pos} (hf : OpOk F r f) (ho : OpR X (binaryOp op) r) (ha : DE F X W x da) (hb : DE F X W y db) : DE F X W (.BinOp x op y pos) (binD f da db) := by
  obtain ⟨ta, pa, qa⟩ := ha
  obtain ⟨tb, pb, qb⟩ := hb
  exact ⟨_, pe_op ho pa pb, bin_ok (x := x) (y := y) hf qa qb⟩
theorem de_cmp {op : CmpOp} {r : R2} {f : D → D → Store → RE} {x y : Expr} {da db : DenE} {pos : Pos} (hf : OpOk F r f) (ho : OpR X (compareOp op) r) (ha : DE F X W x da) (hb : DE F X W y db) (hm : behindInMarks op y = false) : DE F X W (.Compare x [op] [y] pos) (binD f da db) := by
  obtain ⟨ta, pa, qa⟩ := ha
  obtain ⟨tb, pb, qb⟩ := hb
  exact ⟨_, pe_cmpR ho pa pb hm, bin_ok (x := x) (y := y) hf qa qb⟩
theorem dt_cmp {op : CmpOp} {r : R2} {f : D → D → Store → RE} {x y : Expr} {da db : DenE} {pos : Pos} (hf : OpOk F r f) (ho : OpR X (compareOp op) r) (ha : DE F X W x da) (hb : DE F X W y db) (hm : behindInMarks op y = false) : DT F X W (.Compare x [op] [y] pos) (binD f da db) := by
  obtain ⟨ta, pa, qa⟩ := ha
  obtain ⟨tb, pb, qb⟩ := hb
  exact ⟨_, pt_cmpR ho pa pb hm, fun e M L σ H Q sr p => bin_ok (x := x) (y := y) hf qa qb e M L σ H _ sr p⟩
theorem orR {g : Value → Value → Sem Value} {r r' : R2} (h : OpR X g r) (h' : OpR X g r') : OpR X g (fun x y H Q => r x y H Q ∨ r' x y H Q) := by
  intro p₀ s₀ σ₀ H₀ x y v u Q₀ I₀ rx ry q
  rcases q with q | q
  · exact h p₀ s₀ σ₀ H₀ x y v u Q₀ I₀ rx ry q
  · exact h' p₀ s₀ σ₀ H₀ x y v u Q₀ I₀ rx ry q
def unD (f : D → Store → RE) (da : DenE) : DenE := fun e M => bindE (da e M) f
def UnOk (F : Fx) (r : V → Hp → VK → Prop) (f : D → Store → RE) : Prop := ∀ (d : D) (M : Store) (L : List Addr) (H : Hp) (e : Env) (σ : St) (W : WX) (v : V) (Q : VK), SR F L H M e σ → Rep F L H d v → Post F e L H σ W Q (f d M) → r v H Q
theorem de_un {op : UnaryOp} {r : V → Hp → VK → Prop} {f : D → Store → RE} {x : Expr} {da : DenE} {pos : Pos} (hf : UnOk F r f) (ho : UnR X (unaryOp op) r) (ha : DE F X W x da) : DE F X W (.UnaryOp op x pos) (unD f da) := by
  obtain ⟨ta, pa, qa⟩ := ha
  exact ⟨_, pe_un ho pa, fun e M L σ H Q sr p => qa e M L σ H _ sr (PostG.bind (fun d1 M1 L1 H1 v1 s1 r1 rv1 q => hf d1 M1 L1 H1 e σ W v1 Q r1 rv1 q) p)⟩
def negF : D → Store → RE
  | .int i, M => ok (.int (-i)) M
  | _, _ => none
theorem neg_ok : UnOk F (rU fun i => .int (-i)) negF := fun d M L H e σ W v Q sr rv p => by
  unfold negF at p
  split at p
  · rename_i i
    have q : v = .int i := rv
    subst q
    exact ⟨i, rfl, p.ok sr rfl⟩
  · exact False.elim p
/-- two ints -/
def intF (c : Int → Int → Bool) (g : Int → Int → D) : D → D → Store → RE
  | .int i, .int j, M => if c i j = true then ok (g i j) M else none
  | _, _, _ => none
theorem int_ok {C : Int → Int → Prop} {c : Int → Int → Bool} {g : Int → Int → V} {g' : Int → Int → D} (hc : ∀ i j, c i j = true → C i j) (hg : ∀ L H i j, Rep F L H (g' i j) (g i j)) : OpOk F (rI C g) (intF c g') := fun d1 d2 M L H e σ W v1 v2 Q sr r1 r2 p => by
  unfold intF at p
  split at p
  · rename_i i j
    have q1 : v1 = .int i := r1
    have q2 : v2 = .int j := r2
    subst q1 q2
    split at p
    · rename_i h
      exact ⟨i, j, rfl, rfl, hc i j h, p.ok sr (hg L H i j)⟩
    · exact False.elim p
  · exact False.elim p
def intF0 (g : Int → Int → D) : D → D → Store → RE
  | .int i, .int j, M => ok (g i j) M
  | _, _, _ => none
theorem int_ok0 {g : Int → Int → V} {g' : Int → Int → D} (hg : ∀ L H i j, Rep F L H (g' i j) (g i j)) : OpOk F (rI0 g) (intF0 g') := fun d1 d2 M L H e σ W v1 v2 Q sr r1 r2 p => by
  unfold intF0 at p
  split at p
  · rename_i i j
    have q1 : v1 = .int i := r1
    have q2 : v2 = .int j := r2
    subst q1 q2
    exact ⟨i, j, rfl, rfl, p.ok sr (hg L H i j)⟩
  · exact False.elim p
abbrev subF := intF0 fun i j => .int (i - j)
theorem sub_ok : OpOk F (rI0 fun i j => .int (i - j)) subF := int_ok0 fun _ _ _ _ => rfl
abbrev ltF := intF0 fun i j => .bl (decide (i < j))
theorem lt_ok : OpOk F (rI0 fun i j => .bl (decide (i < j))) ltF := int_ok0 fun _ _ _ _ => rfl
abbrev leF := intF0 fun i j => .bl (decide (i ≤ j))
theorem le_ok : OpOk F (rI0 fun i j => .bl (decide (i ≤ j))) leF := int_ok0 fun _ _ _ _ => rfl
abbrev gtF := intF0 fun i j => .bl (decide (j < i))
theorem gt_ok : OpOk F (rI0 fun i j => .bl (decide (j < i))) gtF := int_ok0 fun _ _ _ _ => rfl
abbrev geF := intF0 fun i j => .bl (decide (j ≤ i))
theorem ge_ok : OpOk F (rI0 fun i j => .bl (decide (j ≤ i))) geF := int_ok0 fun _ _ _ _ => rfl
end
end DL
namespace DL
open PySem L2
section
variable {F : Fx} {X : Cx} {W : WX} {L : List Addr} {H : Hp} {M : Store} {e : Env} {σ : St}
theorem fresh_out (m : SM F L H M) {p : Addr} (hp : H p = none) : p ∉ L := fun z => by
  obtain ⟨o, q, _⟩ := m.kind z
  rw [hp] at q
  cases q
/-- a new list, a new tuple, as a value -/
theorem post_lst {Q : VK} {ds : List D} {vs : List V} {p : Addr} (h : Post F e L H σ W Q (ok (.lst ds) M)) (sr : SR F L H M e σ) (r : Reps F L H ds vs) (hp : H p = none) : Q (.ref p) (upd H p (.lst vs)) := by
  have s : Stp L H L (upd H p (.lst vs)) := Stp.alloc hp
  exact h L _ (.ref p) s (sr.stay s (sr.m.alloc hp)) ⟨p, vs, rfl, ⟨upd_same, fresh_out sr.m hp⟩, Reps.stay sr.m s ds vs r⟩
theorem post_tup {Q : VK} {ds : List D} {vs : List V} {p : Addr} (h : Post F e L H σ W Q (ok (.tup ds) M)) (sr : SR F L H M e σ) (r : Reps F L H ds vs) (hp : H p = none) : Q (.ref p) (upd H p (.tup vs)) := by
  have s : Stp L H L (upd H p (.tup vs)) := Stp.alloc hp
  exact h L _ (.ref p) s (sr.stay s (sr.m.alloc hp)) ⟨p, vs, rfl, upd_same, Reps.stay sr.m s ds vs r⟩
/-- the list behind a value that is no script -/
def getW (M : Store) : D → Option (List D)
  | .scr _ => none
  | d => getL M d
theorem getW_lst (hm : SM F L H M) {d : D} {ds : List D} {v : V} (g : getW M d = some ds) (r : Rep F L H d v) : ∃ a vs, v = .ref a ∧ H a = some (.lst vs) ∧ Reps F L H ds vs := by
  cases d with
  | lst es =>
    have g' : es = ds := Option.some.inj g
    subst g'
    obtain ⟨a, vs, e1, e2, e3⟩ := r
    exact ⟨a, vs, e1, e2.1, e3⟩
  | loc n =>
    obtain ⟨a, e1, e2⟩ := r
    obtain ⟨o, h1, h2⟩ := hm.get e2
    cases o with
    | lst es =>
      unfold getW getL at g
      dsimp only at g
      rw [h1] at g
      have g' : es = ds := Option.some.inj g
      subst g'
      obtain ⟨vs, h3, h4⟩ := h2
      exact ⟨a, vs, e1, h3, h4⟩
    | dk _ _ => unfold getW getL at g; dsimp only at g; rw [h1] at g; cases g
    | dt _ _ => unfold getW getL at g; dsimp only at g; rw [h1] at g; cases g
  | scr ns => exact nomatch g
  | non => exact nomatch g
  | bl b => exact nomatch g
  | int i => exact nomatch g
  | str x => exact nomatch g
  | tup es => exact nomatch g
  | emp => exact nomatch g
  | exc c fs => exact nomatch g
  | ty c => exact nomatch g
  | cls c => exact nomatch g
  | clo f c q σd is ds => exact nomatch g
  | ktp ns => exact nomatch g
def addF : D → D → Store → RE
  | .int i, .int j, M => ok (.int (i + j)) M
  | .str x, .str y, M => if x.length + y.length ≤ sizeLine then ok (.str (x ++ y)) M else none
  | .tup xs, .tup ys, M => if xs.length + ys.length ≤ sizeLine ∧ xs ≠ [] then ok (.tup (xs ++ ys)) M else none
  | x, y, M => match getW M x, getW M y with
    | some xs, some ys => if xs.length + ys.length ≤ sizeLine then ok (.lst (xs ++ ys)) M else none
    | _, _ => none
abbrev rAddD (K : PySem.W.Frag) : R2 := fun x y H Q => (rI0 (fun i j => .int (i + j)) x y H Q) ∨ ((∃ i j, x = .str i ∧ y = .str j ∧ i.length + j.length ≤ sizeLine ∧ Q (.str (i ++ j)) H) ∨ (rCat x y H Q ∨ rCatT K x y H Q))
theorem opr_add : OpR X (binaryOp .Add) (rAddD X.K) := orR op_add (orR op_add_str (orR op_cat op_catT))
theorem add_ok : OpOk F (rAddD F.K) addF := fun d1 d2 M L H e σ W v1 v2 Q sr r1 r2 p => by
  unfold addF at p
  split at p
  · rename_i i j
    have q1 : v1 = .int i := r1
    have q2 : v2 = .int j := r2
    subst q1 q2
    exact .inl ⟨i, j, rfl, rfl, p.ok sr rfl⟩
  · rename_i x y
    have q1 : v1 = .str x := r1
    have q2 : v2 = .str y := r2
    subst q1 q2
    split at p
    · rename_i hz
      exact .inr (.inl ⟨x, y, rfl, rfl, hz, p.ok sr rfl⟩)
    · exact False.elim p
  · rename_i xs ys
    obtain ⟨a, vs, rfl, a2, a3⟩ := r1
    obtain ⟨b, ws, rfl, b2, b3⟩ := r2
    have a2p := a2
    have a2 := (Or.inl (Or.inl a2) : SqT F.K H a vs)
    have b2 := (Or.inl (Or.inl b2) : SqT F.K H b ws)
    split at p
    · rename_i hz
      have l1 := reps_len a3
      have l2 := reps_len b3
      refine .inr (.inr (.inr ⟨a, b, vs, ws, rfl, rfl, a2, b2, fun z => hz.2 ?_, by rw [← l1, ← l2]; exact hz.1, fun z => ?_, fun z p' hp => ?_⟩))
      · rw [z] at l1
        exact List.length_eq_zero_iff.mp l1
      · have z2 : ys = [] := by
          rw [z] at l2
          exact List.length_eq_zero_iff.mp l2
        rw [z2, List.append_nil] at p
        exact p.ok sr ⟨a, vs, rfl, a2p, a3⟩
      · exact post_tup p sr (reps_app a3 b3) hp
    · exact False.elim p
  · split at p
    · rename_i xs ys h1 h2
      obtain ⟨a, vs, rfl, a2, a3⟩ := getW_lst sr.m h1 r1
      obtain ⟨b, ws, rfl, b2, b3⟩ := getW_lst sr.m h2 r2
      split at p
      · rename_i hz
        have l1 := reps_len a3
        have l2 := reps_len b3
        exact .inr (.inr (.inl ⟨a, b, vs, ws, rfl, rfl, a2, b2, by rw [← l1, ← l2]; exact hz, fun p' hp => post_lst p sr (reps_app a3 b3) hp⟩))
      · exact False.elim p
    · exact False.elim p
def mulF : D → D → Store → RE
  | .int i, .int j, M => if i.natAbs.log2 + j.natAbs.log2 < 1000000 then ok (.int (i * j)) M else none
  | x, .int k, M => match getW M x with
    | some xs => if -(2 ^ 63) ≤ k ∧ k < 2 ^ 63 ∧ xs.length * k.toNat ≤ sizeLine then ok (.lst (List.replicate k.toNat xs).flatten) M else none
    | none => none
  | _, _, _ => none
abbrev rMulD : R2 := fun x y H Q => (rI CMulW (fun i j => .int (i * j)) x y H Q) ∨ rRep x y H Q
theorem opr_mul : OpR X (binaryOp .Mult) rMulD := orR op_mulW op_rep
theorem reps_rep {ds : List D} {vs : List V} (h : Reps F L H ds vs) : ∀ n : Nat, Reps F L H (List.replicate n ds).flatten (List.replicate n vs).flatten
  | 0 => (rfl : ([] : List V) = [])
  | n + 1 => by
    simp only [List.replicate_succ, List.flatten_cons]
    exact reps_app h (reps_rep h n)
theorem mul_ok : OpOk F rMulD mulF := fun d1 d2 M L H e σ W v1 v2 Q sr r1 r2 p => by
  unfold mulF at p
  split at p
  · rename_i i j
    have q1 : v1 = .int i := r1
    have q2 : v2 = .int j := r2
    subst q1 q2
    split at p
    · rename_i hz
      exact .inl ⟨i, j, rfl, rfl, hz, p.ok sr rfl⟩
    · exact False.elim p
  · rename_i k _
    have q2 : v2 = .int k := r2
    subst q2
    split at p
    · rename_i xs h1
      obtain ⟨a, vs, rfl, a2, a3⟩ := getW_lst sr.m h1 r1
      split at p
      · rename_i hz
        exact .inr ⟨a, k, vs, rfl, rfl, a2, hz.1, hz.2.1, by rw [← reps_len a3]; exact hz.2.2, fun p' hp => post_lst p sr (reps_rep a3 _) hp⟩
      · exact False.elim p
    · exact False.elim p
  · exact False.elim p
def CDivG (_ j : Int) : Prop := j ≠ 0 ∧ j.natAbs.log2 < 9000
theorem opr_fdiv : OpR X (binaryOp .FloorDiv) (rI CDivG fun i j => .int (i.fdiv j)) := opI fun i j t u s₀ Q₀ E₀ hc q => PyProof.Rows.floordiv_int hc.1 q (.inl (PyProof.noPylong_of_log2 hc.2))
abbrev fdivF := intF (fun _ j => decide (j ≠ 0 ∧ j.natAbs.log2 < 9000)) fun i j => .int (i.fdiv j)
theorem fdiv_ok : OpOk F (rI CDivG fun i j => .int (i.fdiv j)) fdivF := int_ok (fun i j h => of_decide_eq_true (p := j ≠ 0 ∧ j.natAbs.log2 < 9000) h) fun _ _ _ _ => rfl
abbrev fmodF := intF (fun _ j => decide (j ≠ 0)) fun i j => .int (i.fmod j)
theorem fmod_ok : OpOk F (rI (fun _ j => j ≠ 0) fun i j => .int (i.fmod j)) fmodF := int_ok (fun i j h => of_decide_eq_true h) fun _ _ _ _ => rfl
def CPowG (i j : Int) : Prop := 0 ≤ j ∧ (i.natAbs.log2 + 1) * j.toNat ≤ 134217728
theorem opr_pow : OpR X (binaryOp .Pow) (rI CPowG fun i j => .int (i ^ j.toNat)) := opI fun i j t u s₀ Q₀ E₀ hc q => by
  refine PyProof.Rows.pow_int hc.1 ?_ q
  obtain ⟨n, rfl⟩ := Int.eq_ofNat_of_zero_le hc.1
  have h2 := hc.2
  rw [Int.toNat_natCast] at h2
  have h3 : Builtin.Int.intBits i ≤ i.natAbs.log2 + 1 := by
    unfold Builtin.Int.intBits
    split
    · exact Nat.zero_le _
    · exact Nat.le_refl _
  have h4 : Builtin.Int.intBits i * n ≤ 134217728 := Nat.le_trans (Nat.mul_le_mul_right n h3) h2
  exact_mod_cast h4
abbrev powF := intF (fun i j => decide (0 ≤ j ∧ (i.natAbs.log2 + 1) * j.toNat ≤ 134217728)) fun i j => .int (i ^ j.toNat)
theorem pow_ok : OpOk F (rI CPowG fun i j => .int (i ^ j.toNat)) powF := int_ok (fun i j h => of_decide_eq_true (p := 0 ≤ j ∧ (i.natAbs.log2 + 1) * j.toNat ≤ 134217728) h) fun _ _ _ _ => rfl
mutual
def D.py : D → Option PyData
  | .non => some .none
  | .bl b => some (.bool b)
  | .int i => some (.int i)
  | .str x => some (.str x)
  | .tup ds => (D.pys ds).map .tuple
  | .lst ds => (D.pys ds).map .list
  | _ => none
def D.pys : List D → Option (List PyData)
  | [] => some []
  | d :: ds => match D.py d, D.pys ds with
    | some p, some ps => some (p :: ps)
    | _, _ => none
end
/-- a value read whole -/
def pyV (M : Store) : D → Option PyData
  | .loc n => (getL M (.loc n)).bind fun ds => (D.pys ds).map .list
  | .scr ns => some (.list (ns.map .int))
  | d => D.py d
mutual
theorem dp_of : ∀ {d : D} {v : V} {p : PyData}, Rep F L H d v → D.py d = some p → Dp F.K H v p
  | .non, _, _, r, h => by
    have q : _ = V.non := r
    have h' : PyData.none = _ := Option.some.inj h
    rw [q, ← h']
    exact .non
  | .bl b, _, _, r, h => by
    have q : _ = V.bl b := r
    have h' : PyData.bool b = _ := Option.some.inj h
    rw [q, ← h']
    exact .bl b
  | .int i, _, _, r, h => by
    have q : _ = V.int i := r
    have h' : PyData.int i = _ := Option.some.inj h
    rw [q, ← h']
    exact .int i
  | .str x, _, _, r, h => by
    have q : _ = V.str x := r
    have h' : PyData.str x = _ := Option.some.inj h
    rw [q, ← h']
    exact .str x
  | .tup ds, _, _, r, h => by
    obtain ⟨a, vs, rfl, e2, e3⟩ := r
    have e2 := (Or.inl (Or.inl e2) : SqT F.K H a vs)
    have h1 : (D.pys ds).map PyData.tuple = _ := h
    cases q : D.pys ds with
    | none => rw [q] at h1; cases h1
    | some ps =>
      rw [q] at h1
      have h' : PyData.tuple ps = _ := Option.some.inj h1
      rw [← h']
      exact .tup e2 (dps_of e3 q)
  | .lst ds, _, _, r, h => by
    obtain ⟨a, vs, rfl, e2, e3⟩ := r
    have h1 : (D.pys ds).map PyData.list = _ := h
    cases q : D.pys ds with
    | none => rw [q] at h1; cases h1
    | some ps =>
      rw [q] at h1
      have h' : PyData.list ps = _ := Option.some.inj h1
      rw [← h']
      exact .lst (.inl (.inl e2.1)) (dps_of e3 q)
  | .scr _, _, _, _, h => nomatch h
  | .emp, _, _, _, h => nomatch h
  | .loc _, _, _, _, h => nomatch h
  | .exc _ _, _, _, _, h => nomatch h
  | .ty _, _, _, _, h => nomatch h
  | .cls _, _, _, _, h => nomatch h
  | .clo _ _ _ _ _ _, _, _, _, h => nomatch h
  | .ktp _, _, _, _, h => nomatch h
theorem dps_of : ∀ {ds : List D} {vs : List V} {ps : List PyData}, Reps F L H ds vs → D.pys ds = some ps → DpAll F.K H vs ps
  | [], _, _, r, h => by
    have q : _ = [] := r
    have h' : [] = _ := Option.some.inj h
    rw [q, ← h']
    exact .nil
  | d :: ds, _, _, r, h => by
    obtain ⟨v, vs, rfl, r1, r2⟩ := r
    unfold D.pys at h
    split at h
    · rename_i p ps h1 h2
      have h' : p :: ps = _ := Option.some.inj h
      rw [← h']
      exact .cons (dp_of r1 h1) (dps_of r2 h2)
    · cases h
end
theorem dps_ints : ∀ ns : List Int, DpAll F.K H (ns.map V.int) (ns.map PyData.int)
  | [] => .nil
  | n :: ns => .cons (.int n) (dps_ints ns)
theorem dp_at (hm : SM F L H M) {d : D} {v : V} {p : PyData} (r : Rep F L H d v) (h : pyV M d = some p) : Dp F.K H v p := by
  cases d with
  | loc n =>
    have h1 : (getL M (.loc n)).bind (fun ds => (D.pys ds).map PyData.list) = some p := h
    cases q : getL M (.loc n) with
    | none => rw [q] at h1; cases h1
    | some ds =>
      rw [q] at h1
      obtain ⟨a, vs, rfl, e2, e3⟩ := getL_sq hm q r
      have h2 : (D.pys ds).map PyData.list = some p := h1
      cases q2 : D.pys ds with
      | none => rw [q2] at h2; cases h2
      | some ps =>
        rw [q2] at h2
        have h' : PyData.list ps = p := Option.some.inj h2
        rw [← h']
        exact .lst e2 (dps_of e3 q2)
  | scr ns =>
    obtain ⟨a, vs, rfl, e2, e3⟩ := getL_sq (ds := ns.map D.int) hm rfl r
    obtain ⟨a', e1', e2'⟩ := r
    cases e1'
    have h' : PyData.list (ns.map .int) = p := Option.some.inj h
    rw [← h']
    have sq : SqL F.K H a (ns.map V.int) := by
      rcases e2' with ⟨o, e2'⟩ | e2'
      · exact .inl (.inr ⟨o, e2'⟩)
      · exact .inr e2'
    exact .lst sq (dps_ints ns)
  | non => exact dp_of r h
  | bl b => exact dp_of r h
  | int i => exact dp_of r h
  | str x => exact dp_of r h
  | tup es => exact dp_of r h
  | lst es => exact dp_of r h
  | emp => exact dp_of r h
  | exc c fs => exact dp_of r h
  | ty c => exact dp_of r h
  | cls c => exact dp_of r h
  | clo f c q σd is ds => exact dp_of r h
  | ktp ns => exact dp_of r h
def eqvF (n : Bool) : D → D → Store → RE
  | .int i, .int j, M => ok (.bl (n != decide (i = j))) M
  | .str i, .str j, M => ok (.bl (n != decide (i = j))) M
  | x, y, M => match pyV M x, pyV M y with
    | some p, some q => if SeqAt.shaped p = true ∧ SeqAt.shaped q = true then ok (.bl (n != PyData.eqv p q)) M else none
    | _, _ => none
abbrev eqF := eqvF false
abbrev neF := eqvF true
abbrev rEqV (K : PySem.W.Frag) : R2 := fun x y H Q => rEq x y H Q ∨ rEqD K x y H Q
abbrev rNeV (K : PySem.W.Frag) : R2 := fun x y H Q => rNe x y H Q ∨ rNeD K x y H Q
theorem opr_eq (hu : X.A.units + 64 < cLine) : OpR X (compareOp .Eq) (rEqV X.K) := orR op_eq (op_eqD hu)
theorem opr_ne (hu : X.A.units + 64 < cLine) : OpR X (compareOp .NotEq) (rNeV X.K) := orR op_ne (op_neD hu)
theorem int_dec (i j : Int) : decide (V.int i = V.int j) = decide (i = j) := by
  by_cases h : i = j
  · rw [h, decide_eq_true rfl, decide_eq_true rfl]
  · rw [decide_eq_false h, decide_eq_false fun z => h (V.int.inj z)]
theorem str_dec (i j : Str) : decide (V.str i = V.str j) = decide (i = j) := by
  by_cases h : i = j
  · rw [h, decide_eq_true rfl, decide_eq_true rfl]
  · rw [decide_eq_false h, decide_eq_false fun z => h (V.str.inj z)]
theorem f_ne (b : Bool) : (false != b) = b := by cases b <;> rfl
theorem t_ne (b : Bool) : (true != b) = !b := by cases b <;> rfl
theorem eq_ok : OpOk F (rEqV F.K) eqF := fun d1 d2 M L H e σ W v1 v2 Q sr r1 r2 p => by
  unfold eqF eqvF at p
  split at p
  · rename_i i j
    have q1 : v1 = .int i := r1
    have q2 : v2 = .int j := r2
    subst q1 q2
    rw [f_ne, ← int_dec] at p
    exact .inl ⟨rfl, p.ok sr rfl⟩
  · rename_i i j
    have q1 : v1 = .str i := r1
    have q2 : v2 = .str j := r2
    subst q1 q2
    rw [f_ne, ← str_dec] at p
    exact .inl ⟨rfl, p.ok sr rfl⟩
  · split at p
    · rename_i a b h1 h2
      split at p
      · rename_i hs
        rw [f_ne] at p
        exact .inr ⟨a, b, dp_at sr.m r1 h1, dp_at sr.m r2 h2, hs.1, hs.2, p.ok sr rfl⟩
      · exact False.elim p
    · exact False.elim p
theorem ne_ok : OpOk F (rNeV F.K) neF := fun d1 d2 M L H e σ W v1 v2 Q sr r1 r2 p => by
  unfold neF eqvF at p
  split at p
  · rename_i i j
    have q1 : v1 = .int i := r1
    have q2 : v2 = .int j := r2
    subst q1 q2
    rw [t_ne, ← int_dec] at p
    exact .inl ⟨rfl, p.ok sr rfl⟩
  · rename_i i j
    have q1 : v1 = .str i := r1
    have q2 : v2 = .str j := r2
    subst q1 q2
    rw [t_ne, ← str_dec] at p
    exact .inl ⟨rfl, p.ok sr rfl⟩
  · split at p
    · rename_i a b h1 h2
      split at p
      · rename_i hs
        rw [t_ne] at p
        exact .inr ⟨a, b, dp_at sr.m r1 h1, dp_at sr.m r2 h2, hs.1, hs.2, p.ok sr rfl⟩
      · exact False.elim p
    · exact False.elim p
def isNone : D → Bool
  | .non => true
  | _ => false
theorem isNone_of {d : D} {v : V} (r : Rep F L H d v) : decide (v = .non) = isNone d := by
  cases d with
  | non =>
    have q : v = .non := r
    rw [q]
    rfl
  | bl b => rw [show v = .bl b from r]; rfl
  | int i => rw [show v = .int i from r]; rfl
  | str x => rw [show v = .str x from r]; rfl
  | ty n => rw [show v = .ty n from r]; rfl
  | cls c => obtain ⟨C, rfl, _⟩ := r; rfl
  | clo f c q σd is ds => obtain ⟨⟨rfl, _⟩, _⟩ := r; rfl
  | ktp ns => obtain ⟨a, rfl, _⟩ := r; rfl
  | tup ds => obtain ⟨a, vs, rfl, _⟩ := r; rfl
  | lst ds => obtain ⟨a, vs, rfl, _⟩ := r; rfl
  | scr ds => obtain ⟨a, rfl, _⟩ := r; rfl
  | emp => obtain ⟨a, rfl, _⟩ := r; rfl
  | loc n => obtain ⟨a, rfl, _⟩ := r; rfl
  | exc c fs => obtain ⟨a, C, dd, rfl, _⟩ := r; rfl
def isF (n : Bool) : D → D → Store → RE
  | x, .non, M => ok (.bl (n != isNone x)) M
  | .ty a, .ty b, M => ok (.bl (n != decide (a = b))) M
  | _, _, _ => none
abbrev rIsV (n : Bool) : R2 := fun x y H Q => (y = .non ∧ Q (.bl (n != decide (x = .non))) H) ∨ ∃ a b, x = .ty a ∧ y = .ty b ∧ Q (.bl (n != decide (a = b))) H
theorem beq_type (a b : String) : (Value.type a == .type b) = decide (a = b) := by
  by_cases h : a = b
  · rw [h, decide_eq_true rfl, beq_self_eq_true]
  · rw [decide_eq_false h, beq_eq_false_iff_ne.mpr fun z => h (Value.type.inj z)]
theorem opr_is : OpR X (compareOp .Is) (rIsV false) := by
  refine orR (r := fun x y H Q => y = .non ∧ Q (.bl (false != decide (x = .non))) H) (fun p₀ s₀ σ₀ H₀ x y v u Q₀ I₀ rx ry q => ?_) (fun p₀ s₀ σ₀ H₀ x y v u Q₀ I₀ rx ry q => ?_)
  · obtain ⟨q1, q2⟩ := q
    rw [f_ne] at q2
    exact op_isN p₀ s₀ σ₀ H₀ x y v u Q₀ I₀ rx ry ⟨q1, q2⟩
  · obtain ⟨a, b, rfl, rfl, q2⟩ := q
    cases rx
    cases ry
    rw [f_ne] at q2
    exact wpAny_is_plain rfl ⟨_, H₀, I₀, by rw [beq_type]; rfl, q2⟩
theorem opr_isnot : OpR X (compareOp .IsNot) (rIsV true) := by
  refine orR (r := fun x y H Q => y = .non ∧ Q (.bl (true != decide (x = .non))) H) (fun p₀ s₀ σ₀ H₀ x y v u Q₀ I₀ rx ry q => ?_) (fun p₀ s₀ σ₀ H₀ x y v u Q₀ I₀ rx ry q => ?_)
  · obtain ⟨q1, q2⟩ := q
    rw [t_ne] at q2
    exact op_notN p₀ s₀ σ₀ H₀ x y v u Q₀ I₀ rx ry ⟨q1, q2⟩
  · obtain ⟨a, b, rfl, rfl, q2⟩ := q
    cases rx
    cases ry
    rw [t_ne] at q2
    exact wpAny_isNot_plain rfl ⟨_, H₀, I₀, by rw [beq_type]; rfl, q2⟩
theorem is_ok {n : Bool} : OpOk F (rIsV n) (isF n) := fun d1 d2 M L H e σ W v1 v2 Q sr r1 r2 p => by
  unfold isF at p
  split at p
  · have q2 : v2 = .non := r2
    rw [← isNone_of r1] at p
    exact .inl ⟨q2, p.ok sr rfl⟩
  · rename_i a b
    have q1 : v1 = .ty a := r1
    have q2 : v2 = .ty b := r2
    exact .inr ⟨a, b, q1, q2, p.ok sr rfl⟩
  · exact False.elim p
end
end DL
namespace DL
open PySem L2
section
variable {F : Fx} {X : Cx} {W : WX} {L : List Addr} {H : Hp} {M : Store} {e : Env} {σ : St}
theorem reps_at {ds : List D} {vs : List V} {i : Int} {d : D} (r : Reps F L H ds vs) (h : atI ds i = some d) : ∃ v, atI vs i = some v ∧ Rep F L H d v := by
  unfold atI at h ⊢
  rw [← reps_len r]
  cases q : ixN ds.length i with
  | none => rw [q] at h; cases h
  | some j =>
    rw [q] at h
    exact reps_get r h
def ixF : D → D → Store → RE
  | .tup ds, .int i, M => match atI ds i with
    | some d => ok d M
    | none => none
  | .str z, .int i, M => if z.length ≤ sizeLine then (match atI z.cps.toList i with
    | some c => ok (.str ⟨#[c]⟩) M
    | none => none) else none
  | x, .int i, M => match getL M x with
    | some ds => (match atI ds i with
      | some d => ok d M
      | none => none)
    | none => none
  | _, _, _ => none
abbrev rIxD (K : PySem.W.Frag) : R2 := fun x y H Q => rIxT K x y H Q ∨ (rIxS x y H Q ∨ rIxL K x y H Q)
theorem ixr_all : IxR X (rIxD X.K) := ix_tup.or (ix_str.or ix_list)
theorem ix_ok : OpOk F (rIxD F.K) ixF := fun d1 d2 M L H e σ W v1 v2 Q sr r1 r2 p => by
  unfold ixF at p
  split at p
  · rename_i ds i
    have q2 : v2 = .int i := r2
    subst q2
    obtain ⟨a, vs, rfl, a2, a3⟩ := r1
    have a2 := (Or.inl (Or.inl a2) : SqT F.K H a vs)
    split at p
    · rename_i d hd
      obtain ⟨v, h1, h2⟩ := reps_at a3 hd
      exact .inl ⟨a, vs, i, v, rfl, rfl, a2, h1, p.ok sr h2⟩
    · exact False.elim p
  · rename_i z i
    have q1 : v1 = .str z := r1
    have q2 : v2 = .int i := r2
    subst q1 q2
    split at p
    · rename_i hz
      split at p
      · rename_i c hc
        exact .inr (.inl ⟨z, i, c, rfl, rfl, hz, hc, p.ok sr rfl⟩)
      · exact False.elim p
    · exact False.elim p
  · rename_i i _ _
    have q2 : v2 = .int i := r2
    subst q2
    split at p
    · rename_i ds h1
      obtain ⟨a, vs, rfl, a2, a3⟩ := getL_sq sr.m h1 r1
      split at p
      · rename_i d hd
        obtain ⟨v, h3, h4⟩ := reps_at a3 hd
        exact .inr (.inr ⟨a, vs, i, v, rfl, rfl, a2, h3, p.ok sr h4⟩)
      · exact False.elim p
    · exact False.elim p
  · exact False.elim p
theorem de_ix {x y : Expr} {da db : DenE} {pos : Pos} (ha : DE F X W x da) (hb : DE F X W y db) (hK : X.K = F.K := by rfl) (hs : PlainIx y := by exact fun _ _ => rfl) : DE F X W (.Subscript x y pos) (binD ixF da db) := by
  obtain ⟨ta, pa, qa⟩ := ha
  obtain ⟨tb, pb, qb⟩ := hb
  have h := @ixr_all X
  rw [hK] at h
  exact ⟨_, pe_ix h pa pb hs, bin_ok (x := x) (y := y) ix_ok qa qb⟩
/-- a part of a slice: nothing, or an int -/
def DO (F : Fx) (X : Cx) (W : WX) (x : Option Expr) (den : Env → Store → RD (Option Int)) : Prop :=
  ∃ t, PO X x t ∧ ∀ (e : Env) (M : Store) (L : List Addr) (σ : St) (H : Hp) (Q : Option Int → Hp → Prop), SR F L H M e σ → PostG F (fun _ _ d v => d = v) e L H σ W Q (den e M) → t σ H Q
theorem do_none : DO F X W none (fun _ M => ok none M) := ⟨_, po_none, fun e M L σ H Q sr p => p.ok sr rfl⟩
theorem do_some {x : Expr} {da : DenE} (ha : DE F X W x da) : DO F X W (some x) (fun e M => bindE (da e M) fun d M1 => match d with
    | .int i => ok (some i) M1
    | _ => none) := by
  obtain ⟨ta, pa, qa⟩ := ha
  refine ⟨_, po_some pa, fun e M L σ H Q sr p => qa e M L σ H _ sr (PostG.bind (fun d M1 L1 H1 v s1 r1 rv q => ?_) p)⟩
  split at q
  · rename_i i
    exact ⟨i, rv, q.ok r1 rfl⟩
  · exact False.elim q
def pickL {α : Type} (xs : List α) (lo hi st : Option Int) : List α := (sliceRange (sliceBounds lo hi st xs.length).1 (sliceBounds lo hi st xs.length).2.1 (sliceBounds lo hi st xs.length).2.2).filterMap (xs[·]?)
theorem reps_pick {ds : List D} {vs : List V} (r : Reps F L H ds vs) : ∀ l : List Nat, Reps F L H (l.filterMap (ds[·]?)) (l.filterMap (vs[·]?))
  | [] => (rfl : ([] : List V) = [])
  | n :: l => by
    have ih := reps_pick r l
    rw [List.filterMap_cons, List.filterMap_cons]
    cases q : ds[n]? with
    | none =>
      have q2 : vs[n]? = none := by
        rw [List.getElem?_eq_none_iff] at q ⊢
        rw [← reps_len r]
        exact q
      rw [q2]
      exact ih
    | some d =>
      obtain ⟨v, h1, h2⟩ := reps_get r q
      rw [h1]
      exact ⟨v, _, rfl, h2, ih⟩
theorem vals_pick {vs : List V} {us : List Value} (r : Vals vs us) : ∀ l : List Nat, Vals (l.filterMap (vs[·]?)) (l.filterMap (us.toArray[·]?))
  | [] => .nil
  | n :: l => by
    have ih := vals_pick r l
    rw [List.filterMap_cons, List.filterMap_cons]
    cases q : vs[n]? with
    | none =>
      have q2 : us.toArray[n]? = none := by
        rw [List.getElem?_toArray]
        exact r.none_of q
      rw [q2]
      exact ih
    | some d =>
      obtain ⟨u, h1, h2⟩ := r.get q
      have q2 : us.toArray[n]? = some u := by
        rw [List.getElem?_toArray]
        exact h1
      rw [q2]
      exact .cons h2 ih
/-- xs[lo:hi:st], a list; the step is not 0 -/
def slcF (d : D) (lo hi st : Option Int) (M : Store) : RE := match getL M d with
  | some ds => if st = some 0 then none else ok (.lst (pickL ds lo hi st)) M
  | none => none
theorem de_slice3 {x : Expr} {lo hi st : Option Expr} {da : DenE} {dl dh dt : Env → Store → RD (Option Int)} {pos p2 : Pos} (ha : DE F X W x da) (hl : DO F X W lo dl) (hh : DO F X W hi dh) (ht : DO F X W st dt) (hK : X.K = F.K := by rfl) :
    DE F X W (.Subscript x (.Slice lo hi st p2) pos) (fun e M => bindE (da e M) fun d M1 => bindE (dl e M1) fun l M2 => bindE (dh e M2) fun h M3 => bindE (dt e M3) fun t M4 => slcF d l h t M4) := by
  obtain ⟨ta, pa, qa⟩ := ha
  obtain ⟨tl, pl, ql⟩ := hl
  obtain ⟨th, ph, qh⟩ := hh
  obtain ⟨tt, pt, qt⟩ := ht
  refine ⟨fun σ H Q => ta σ H fun x H1 => tl σ H1 fun l H2 => th σ H2 fun u H3 => tt σ H3 fun t H4 => ∃ a vs, x = .ref a ∧ SqL X.K H4 a vs ∧ t ≠ some 0 ∧ ∀ p, H4 p = none → Q (.ref p) (upd H4 p (.lst (pickL vs l u t))), ⟨fun p₀ s₀ σ₀ H₀ Q₀ I₀ h₀ => ?_⟩, fun e M L σ H Q sr p => ?_⟩
  · refine PyProof.Rows.Subscript_ (thn (pa.run p₀ s₀ σ₀ H₀ _ I₀ h₀) fun v s1 ⟨x1, H1, I1, r1, q1⟩ => ?_)
    refine wpAny_Slice (thn (pl.run p₀ s1 σ₀ H1 _ I1 q1) fun vl s2 ⟨l, H2, I2, pl, q2⟩ => thn (ph.run p₀ s2 σ₀ H2 _ I2 q2) fun vu s3 ⟨u, H3, I3, pu, q3⟩ => ?_)
    refine thn (pt.run p₀ s3 σ₀ H3 _ I3 q3) fun vt s4 ⟨t, H4, I4, pst, q4⟩ => ?_
    obtain ⟨a, vs, rfl, hq, h0, hx⟩ := q4
    have rv : v = Value.ref a := r1
    subst rv
    have I5 : Inv X p₀ σ₀ H4 { s4 with heap := s4.heap.push { cls := .type "slice", data := .fields #[vl, vu, vt] } } := I4.kept (t' := s4.toks) fun b ob q => Heap.get?_push_of_some _ q
    obtain ⟨its, rz, hpl, hz⟩ := I5.list hq
    have hln := rz.length
    obtain ⟨ops, hops⟩ : ∃ ops, subscripted (.Slice lo hi st p2) false (.ref a) (.ref s4.heap.objs.size) = operate ops (getItem (.ref a) (.ref s4.heap.objs.size)) := by
      cases st with
      | none => exact ⟨_, rfl⟩
      | some y => exact ⟨_, rfl⟩
    refine PyProof.Rows.tail_any (ops := ops) hpl.isList.typeIs slot_list_getitem.lookup (wpAny_getItem_list_slice hpl.isList (Heap.IsSliceOf.new _ vl vu vt) pl pu pst h0 ?_ (by rw [List.size_toArray, ← hln]; exact hz)) hops
    have hsz : ({ s4 with heap := s4.heap.push { cls := .type "slice", data := .fields #[vl, vu, vt] } } : Shared).heap.objs.size ≤ _ := Nat.le_refl _
    have hf := I5.hok.fresh hsz
    have vp : Vals (pickL vs l u t) (slicePick its.toArray l u t).toList := by
      unfold pickL slicePick
      rw [List.size_toArray, ← hln]
      exact vals_pick rz _
    have lz : (pickL vs l u t).length ≤ sizeLine := by
      rw [vp.length]
      have h1 : (slicePick its.toArray l u t).toList.length ≤ its.toArray.size := slicePick_size_le its.toArray l u t
      have h2 : its.toArray.size = vs.length := by rw [List.size_toArray, hln]
      exact Nat.le_trans (Nat.le_trans h1 (Nat.le_of_eq h2)) hz
    refine ⟨.ref _, _, I5.laid (o := .lst (pickL vs l u t)) (t' := s4.toks) (fun b w q => Heap.get?_push_of_some _ q) hsz ⟨lz, _, 0, vp, ?_⟩, rfl, hx _ hf⟩
    exact Heap.get?_push_size _ (by rw [Array.toArray_toList] <;> rfl)
  · refine qa e M L σ H _ sr (PostG.bind (fun d1 M1 L1 H1 v1 s1 r1 rv1 q => ?_) p)
    refine ql e M1 L1 σ H1 _ r1 (PostG.bind (fun d2 M2 L2 H2 v2 s2 r2 rv2 q => ?_) q)
    refine qh e M2 L2 σ H2 _ r2 (PostG.bind (fun d3 M3 L3 H3 v3 s3 r3 rv3 q => ?_) q)
    refine qt e M3 L3 σ H3 _ r3 (PostG.bind (fun d4 M4 L4 H4 v4 s4 r4 rv4 q => ?_) q)
    subst rv2 rv3 rv4
    have rv := Rep.stay r3.m s4 d1 v1 (Rep.stay r2.m s3 d1 v1 (Rep.stay r1.m s2 d1 v1 rv1))
    unfold slcF at q
    split at q
    · rename_i ds hd
      obtain ⟨a, vs, rfl, a2, a3⟩ := getL_sq r4.m hd rv
      split at q
      · exact False.elim q
      · rename_i h0
        refine ⟨a, vs, rfl, by rw [hK]; exact a2, h0, fun p' hp => post_lst q r4 ?_ hp⟩
        unfold pickL
        rw [← reps_len a3]
        exact reps_pick a3 _
    · exact False.elim q
def brD {α : Type} (dt : DenE) (da db : Env → Store → RD α) : Env → Store → RD α := fun e M => bindE (dt e M) fun d M1 => match d with
  | .bl true => da e M1
  | .bl false => db e M1
  | _ => none
theorem de_ifExp {c x y : Expr} {dc da db : DenE} {pos : Pos} (hc : DT F X W c dc) (ha : DE F X W x da) (hb : DE F X W y db) : DE F X W (.IfExp c x y pos) (brD dc da db) := by
  obtain ⟨tc, pc, qc⟩ := hc
  obtain ⟨ta, pa, qa⟩ := ha
  obtain ⟨tb, pb, qb⟩ := hb
  refine ⟨_, pe_ifExp pc pa pb, fun e M L σ H Q sr p => qc e M L σ H _ sr (PostG.bind (fun d M1 L1 H1 v s1 r1 rv q => ?_) p)⟩
  split at q
  · refine ⟨true, rv, ?_⟩
    rw [if_pos rfl]
    exact qa e M1 L1 σ H1 Q r1 q
  · refine ⟨false, rv, ?_⟩
    rw [if_neg fun z => Bool.false_ne_true z]
    exact qb e M1 L1 σ H1 Q r1 q
  · exact False.elim q
def andD (da db : DenE) : DenE := brD da db (cD (.bl false))
def orD (da db : DenE) : DenE := brD da (cD (.bl true)) db
def notF : D → Store → RE
  | .bl b, M => ok (.bl (!b)) M
  | _, _ => none
theorem de_one {op} {x : Expr} {da : DenE} {pos : Pos} (ha : DE F X W x da) : DE F X W (.BoolOp op [x] pos) da := by
  obtain ⟨ta, pa, qa⟩ := ha
  exact ⟨ta, pe_one pa, qa⟩
theorem de_and {x y : Expr} {rest : List Expr} {da db : DenE} {pos : Pos} (ha : DE F X W x da) (hb : DE F X W (.BoolOp .And (y :: rest) pos) db) : DE F X W (.BoolOp .And (x :: y :: rest) pos) (andD da db) := by
  obtain ⟨ta, pa, qa⟩ := ha
  obtain ⟨tb, pb, qb⟩ := hb
  refine ⟨_, pe_and pa pb, fun e M L σ H Q sr p => qa e M L σ H _ sr (PostG.bind (fun d M1 L1 H1 v s1 r1 rv q => ?_) p)⟩
  split at q
  · refine ⟨true, rv, ?_⟩
    rw [if_pos rfl]
    exact qb e M1 L1 σ H1 Q r1 q
  · refine ⟨false, rv, ?_⟩
    rw [if_neg fun z => Bool.false_ne_true z]
    exact q.ok r1 rfl
  · exact False.elim q
theorem de_not {x : Expr} {da : DenE} {pos : Pos} (ha : DE F X W x da) : DE F X W (.UnaryOp .Not x pos) (unD notF da) := by
  obtain ⟨ta, pa, qa⟩ := ha
  refine ⟨_, pe_not pa, fun e M L σ H Q sr p => qa e M L σ H _ sr (PostG.bind (fun d M1 L1 H1 v s1 r1 rv q => ?_) p)⟩
  unfold notF at q
  split at q
  · rename_i b
    exact ⟨b, rv, q.ok r1 rfl⟩
  · exact False.elim q
/-- tests -/
theorem DW.dt {x : Expr} {da : DenE} (h : DW F X W x da) : DT F X W x da := by
  obtain ⟨t, p, q⟩ := h
  exact ⟨t, p.pt, q⟩
theorem dw_and1 {x : Expr} {da : DenE} {pos : Pos} (ha : DT F X W x da) : DW F X W (.BoolOp .And [x] pos) da := by
  obtain ⟨ta, pa, qa⟩ := ha
  exact ⟨ta, pw_and1 pa, qa⟩
theorem dw_or1 {x : Expr} {da : DenE} {pos : Pos} (ha : DT F X W x da) : DW F X W (.BoolOp .Or [x] pos) da := by
  obtain ⟨ta, pa, qa⟩ := ha
  exact ⟨ta, pw_or1 pa, qa⟩
theorem dw_and {x y : Expr} {rest : List Expr} {da db : DenE} {pos : Pos} (ha : DT F X W x da) (hb : DW F X W (.BoolOp .And (y :: rest) pos) db) : DW F X W (.BoolOp .And (x :: y :: rest) pos) (andD da db) := by
  obtain ⟨ta, pa, qa⟩ := ha
  obtain ⟨tb, pb, qb⟩ := hb
  refine ⟨_, pw_and pa pb, fun e M L σ H Q sr p => qa e M L σ H _ sr (PostG.bind (fun d M1 L1 H1 v s1 r1 rv q => ?_) p)⟩
  split at q
  · refine ⟨true, rv, ?_⟩
    rw [if_pos rfl]
    exact qb e M1 L1 σ H1 Q r1 q
  · refine ⟨false, rv, ?_⟩
    rw [if_neg fun z => Bool.false_ne_true z]
    obtain ⟨b, hb, hq⟩ := q.ok r1 rfl
    cases hb
    exact hq
  · exact False.elim q
theorem dw_or {x y : Expr} {rest : List Expr} {da db : DenE} {pos : Pos} (ha : DT F X W x da) (hb : DW F X W (.BoolOp .Or (y :: rest) pos) db) : DW F X W (.BoolOp .Or (x :: y :: rest) pos) (orD da db) := by
  obtain ⟨ta, pa, qa⟩ := ha
  obtain ⟨tb, pb, qb⟩ := hb
  refine ⟨_, pw_or pa pb, fun e M L σ H Q sr p => qa e M L σ H _ sr (PostG.bind (fun d M1 L1 H1 v s1 r1 rv q => ?_) p)⟩
  split at q
  · refine ⟨true, rv, ?_⟩
    rw [if_pos rfl]
    obtain ⟨b, hb, hq⟩ := q.ok r1 rfl
    cases hb
    exact hq
  · refine ⟨false, rv, ?_⟩
    rw [if_neg fun z => Bool.false_ne_true z]
    exact qb e M1 L1 σ H1 Q r1 q
  · exact False.elim q
theorem dt_not {x : Expr} {da : DenE} {pos : Pos} (ha : DT F X W x da) : DT F X W (.UnaryOp .Not x pos) (unD notF da) := by
  obtain ⟨ta, pa, qa⟩ := ha
  refine ⟨_, pt_not pa, fun e M L σ H Q sr p => qa e M L σ H _ sr (PostG.bind (fun d M1 L1 H1 v s1 r1 rv q => ?_) p)⟩
  unfold notF at q
  split at q
  · rename_i b
    obtain ⟨b', hb, hq⟩ := q.ok r1 rfl
    cases hb
    exact ⟨b, rv, hq⟩
  · exact False.elim q
abbrev DenA := Env → Store → RD (List D)
def nilA : DenA := fun _ M => ok [] M
def consA (da : DenE) (dr : DenA) : DenA := fun e M => bindE (da e M) fun d M1 => bindE (dr e M1) fun ds M2 => ok (d :: ds) M2
theorem da_nil : DA F X W [] nilA := ⟨_, pa_nil, fun e M L σ H Q sr p => p.ok sr (rfl : ([] : List V) = [])⟩
theorem da_cons {x : Expr} {xs : List Expr} {da : DenE} {dr : DenA} (ha : DE F X W x da) (hr : DA F X W xs dr) (hs : starEach (x :: xs) X.env = (false, eval x X.env) :: starEach xs X.env := by rfl) : DA F X W (x :: xs) (consA da dr) := by
  obtain ⟨ta, pa, qa⟩ := ha
  obtain ⟨tr, pr, qr⟩ := hr
  refine ⟨_, pa_cons pa pr hs, fun e M L σ H Q sr p => qa e M L σ H _ sr (PostG.bind (fun d M1 L1 H1 v s1 r1 rv q => ?_) p)⟩
  refine qr e M1 L1 σ H1 _ r1 (PostG.bind (fun ds M2 L2 H2 vs s2 r2 rvs q2 => ?_) q)
  exact q2.ok r2 ⟨v, vs, rfl, Rep.stay r1.m s2 d v rv, rvs⟩
def tupD (dr : DenA) : DenE := fun e M => bindE (dr e M) fun ds M1 => if ds.length ≤ 100000 then ok (.tup ds) M1 else none
def lstD (dr : DenA) : DenE := fun e M => bindE (dr e M) fun ds M1 => if ds.length ≤ 100000 then ok (.lst ds) M1 else none
theorem sz_ok {n : Nat} (h : n ≤ 100000) : n ≤ sizeLine := Nat.le_trans h (by decide)
theorem de_tup {xs : List Expr} {dr : DenA} {x1} {pos : Pos} (hr : DA F X W xs dr) : DE F X W (.Tuple xs x1 pos) (tupD dr) := by
  obtain ⟨tr, pr, qr⟩ := hr
  refine ⟨_, pe_tup pr, fun e M L σ H Q sr p => qr e M L σ H _ sr (PostG.bind (fun ds M1 L1 H1 vs s1 r1 rv q => ?_) p)⟩
  split at q
  · rename_i hl
    exact ⟨by rw [← reps_len rv]; exact sz_ok hl, fun p' hp => post_tup q r1 rv hp⟩
  · exact False.elim q
theorem de_lst {xs : List Expr} {dr : DenA} {pos : Pos} (hr : DA F X W xs dr) : DE F X W (.List xs pos) (lstD dr) := by
  obtain ⟨tr, pr, qr⟩ := hr
  refine ⟨_, pe_lst pr, fun e M L σ H Q sr p => qr e M L σ H _ sr (PostG.bind (fun ds M1 L1 H1 vs s1 r1 rv q => ?_) p)⟩
  split at q
  · rename_i hl
    exact ⟨by rw [← reps_len rv]; exact sz_ok hl, fun p' hp => post_lst q r1 rv hp⟩
  · exact False.elim q
def CallOk (F : Fx) (r : List V → Hp → VK → Prop) (f : List D → Store → RE) : Prop := ∀ (ds : List D) (M : Store) (L : List Addr) (H : Hp) (e : Env) (σ : St) (W : WX) (vs : List V) (Q : VK), SR F L H M e σ → Reps F L H ds vs → Post F e L H σ W Q (f ds M) → r vs H Q
def callD (f : List D → Store → RE) (dr : DenA) : DenE := fun e M => bindE (dr e M) f
theorem call_post {r : List V → Hp → VK → Prop} {f : List D → Store → RE} (hf : CallOk F r f) {dr : DenA} {t : TA}
    (hr : ∀ (e : Env) (M : Store) (L : List Addr) (σ : St) (H : Hp) (Q : List V → Hp → Prop), SR F L H M e σ → PostA F e L H σ W Q (dr e M) → t σ H Q)
    (e : Env) (M : Store) (L : List Addr) (σ : St) (H : Hp) (Q : VK) (sr : SR F L H M e σ) (p : Post F e L H σ W Q (callD f dr e M)) : tCB r t σ H Q :=
  hr e M L σ H _ sr (PostG.bind (fun ds M1 L1 H1 vs s1 r1 rv q => hf ds M1 L1 H1 e σ W vs Q r1 rv q) p)
theorem de_callB {x : Str} {p pos : Pos} {a : Expr} {as : List Expr} {dr : DenA} {id : String} {r : List V → Hp → VK → Prop} {f : List D → Store → RE} (hf : CallOk F r f) (hc : CallR X (.builtin id) r) (hm : X.mg x = none) (hr : DA F X W (a :: as) dr) (hg : Gl X x := by rfl) (hv : bootBuiltins x = some (.builtin id) := by decide +kernel) (hn : x ≠ "__name__" := by decide) (hdb : (x == ("__debug__" : Str)) = false := by decide)
    (he : starEach (a :: as) X.env = (false, eval a X.env) :: starEach as X.env := by rfl) (hpl : (backTo pos (starEach as X.env)).any (·.1) = false := by rfl) : DE F X W (.Call (.Name x p) (a :: as) [] pos) (callD f dr) := by
  obtain ⟨tr, pr, qr⟩ := hr
  exact ⟨_, pe_callB hc hg hm hv pr hn hdb he hpl, call_post hf qr⟩
theorem de_callTy {x : Str} {p pos : Pos} {a : Expr} {as : List Expr} {dr : DenA} {T : String} {r : List V → Hp → VK → Prop} {f : List D → Store → RE} (hf : CallOk F r f) (hc : CallR X (.type T) r) (hm : X.mg x = none) (hr : DA F X W (a :: as) dr) (hg : Gl X x := by rfl) (hv : bootBuiltins x = some (.type T) := by decide +kernel) (hn : x ≠ "__name__" := by decide) (hdb : (x == ("__debug__" : Str)) = false := by decide)
    (he : starEach (a :: as) X.env = (false, eval a X.env) :: starEach as X.env := by rfl) (hpl : (backTo pos (starEach as X.env)).any (·.1) = false := by rfl) : DE F X W (.Call (.Name x p) (a :: as) [] pos) (callD f dr) := by
  obtain ⟨tr, pr, qr⟩ := hr
  exact ⟨_, pe_callTy hc hg hm hv pr hn hdb he hpl, call_post hf qr⟩
theorem de_callG {x : Str} {p pos : Pos} {a : Expr} {as : List Expr} {dr : DenA} {id : String} {r : List V → Hp → VK → Prop} {f : List D → Store → RE} (hf : CallOk F r f) (hc : CallR X (.builtin id) r) (hm : X.mg x = some (.builtin id)) (hr : DA F X W (a :: as) dr) (hg : Gl X x := by rfl) (hdb : (x == ("__debug__" : Str)) = false := by decide)
    (he : starEach (a :: as) X.env = (false, eval a X.env) :: starEach as X.env := by rfl) (hpl : (backTo pos (starEach as X.env)).any (·.1) = false := by rfl) : DE F X W (.Call (.Name x p) (a :: as) [] pos) (callD f dr) := by
  obtain ⟨tr, pr, qr⟩ := hr
  exact ⟨_, pe_callBfun hc hg hm pr hdb he hpl, call_post hf qr⟩
/-- a built-in class by its name, as a value -/
theorem de_cls {x : Str} {T : String} {pos : Pos} (hm : X.mg x = none) (hg : Gl X x := by rfl) (hv : bootBuiltins x = some (.type T) := by decide +kernel) (hn : x ≠ "__name__" := by decide) (hd : (x == ("__debug__" : Str)) = false := by decide) : DE F X W (.Name x pos) (cD (.ty T)) :=
  ⟨_, pe_bltn (v := .ty T) hg hm hv rfl hn hd, fun e M L σ H Q sr p => p.ok sr rfl⟩
theorem reps1 {d : D} {vs : List V} (h : Reps F L H [d] vs) : ∃ v, vs = [v] ∧ Rep F L H d v := by
  obtain ⟨v, r, rfl, h1, h2⟩ := h
  have h3 : r = [] := h2
  exact ⟨v, by rw [h3], h1⟩
theorem reps2 {d d' : D} {vs : List V} (h : Reps F L H [d, d'] vs) : ∃ v v', vs = [v, v'] ∧ Rep F L H d v ∧ Rep F L H d' v' := by
  obtain ⟨v, r, rfl, h1, h2⟩ := h
  obtain ⟨v', rfl, h3⟩ := reps1 h2
  exact ⟨v, v', rfl, h1, h3⟩
def lenF : List D → Store → RE
  | [.tup ds], M => ok (.int (ds.length : Int)) M
  | [.str x], M => if x.length ≤ sizeLine then ok (.int (x.length : Int)) M else none
  | [.ktp ns], M => ok (.int (ns.length : Int)) M
  | [d], M => match getL M d with
    | some ds => ok (.int (ds.length : Int)) M
    | none => none
  | _, _ => none
abbrev rLenD (K : PySem.W.Frag) : List V → Hp → VK → Prop := fun xs H Q => ∃ x n, xs = [x] ∧ LenV K x H n ∧ Q (.int n) H
theorem len_ok : CallOk F (rLenD F.K) lenF := fun ds M L H e σ W vs Q sr rv p => by
  unfold lenF at p
  split at p
  · obtain ⟨v, rfl, a, ws, rfl, a2, a3⟩ := reps1 rv
    exact ⟨_, _, rfl, .inr ⟨ws, .inl (.inl a2), reps_len a3⟩, p.ok sr rfl⟩
  · rename_i x
    obtain ⟨v, rfl, h1⟩ := reps1 rv
    have q1 : v = .str x := h1
    subst q1
    split at p
    · rename_i hx
      exact ⟨_, _, rfl, ⟨hx, rfl⟩, p.ok sr rfl⟩
    · exact False.elim p
  · rename_i ns
    obtain ⟨v, rfl, a, rfl, a2⟩ := reps1 rv
    exact ⟨_, _, rfl, .inr ⟨_, .inr a2, (List.length_map ..).symm⟩, p.ok sr rfl⟩
  · split at p
    · rename_i ds h1
      obtain ⟨v, rfl, h2⟩ := reps1 rv
      obtain ⟨a, ws, rfl, a2, a3⟩ := getL_sq sr.m h1 h2
      exact ⟨_, _, rfl, .inl ⟨ws, a2, reps_len a3⟩, p.ok sr rfl⟩
    · exact False.elim p
  · exact False.elim p
def absF : List D → Store → RE
  | [.int i], M => ok (.int (if i < 0 then -i else i)) M
  | _, _ => none
theorem abs_ok : CallOk F (fun xs H Q => ∃ i, xs = [.int i] ∧ Q (.int (if i < 0 then -i else i)) H) absF := fun ds M L H e σ W vs Q sr rv p => by
  unfold absF at p
  split at p
  · rename_i i
    obtain ⟨v, rfl, h1⟩ := reps1 rv
    exact ⟨i, by rw [show v = .int i from h1], p.ok sr rfl⟩
  · exact False.elim p
def int2F (g : Int → Int → Int) : List D → Store → RE
  | [.int i, .int j], M => ok (.int (g i j)) M
  | _, _ => none
theorem int2_ok {g : Int → Int → Int} : CallOk F (fun xs H Q => ∃ i j, xs = [.int i, .int j] ∧ Q (.int (g i j)) H) (int2F g) := fun ds M L H e σ W vs Q sr rv p => by
  unfold int2F at p
  split at p
  · rename_i i j
    obtain ⟨v, v', rfl, h1, h2⟩ := reps2 rv
    exact ⟨i, j, by rw [show v = .int i from h1, show v' = .int j from h2], p.ok sr rfl⟩
  · exact False.elim p
abbrev minF := int2F fun i j => if j < i then j else i
abbrev gcdF := int2F fun i j => ((Nat.gcd i.natAbs j.natAbs : Nat) : Int)
theorem gcd_ok : CallOk F rGcd gcdF := fun ds M L H e σ W vs Q sr rv p => int2_ok ds M L H e σ W vs Q sr rv p
def intcF : List D → Store → RE
  | [.int i], M => ok (.int i) M
  | [.bl b], M => ok (.int (if b then 1 else 0)) M
  | _, _ => none
theorem intc_ok : CallOk F (fun xs H Q => (∃ i, xs = [.int i] ∧ Q (.int i) H) ∨ ∃ k, xs = [.bl k] ∧ Q (.int (if k then 1 else 0)) H) intcF := fun ds M L H e σ W vs Q sr rv p => by
  unfold intcF at p
  split at p
  · rename_i i
    obtain ⟨v, rfl, h1⟩ := reps1 rv
    exact .inl ⟨i, by rw [show v = .int i from h1], p.ok sr rfl⟩
  · rename_i b
    obtain ⟨v, rfl, h1⟩ := reps1 rv
    exact .inr ⟨b, by rw [show v = .bl b from h1], p.ok sr rfl⟩
  · exact False.elim p
end
end DL
namespace DL
open PySem L2
/-- where a def's body stands: what is raised is wished as W; room for k calls; nothing is handled; no repr runs -/
structure Dc (X : Cx) (W : WX) (k : Nat) : Prop where
  tk : Takes X W
  room : Room k X.A
  calm : X.calm = true
  gd : X.A.guards = some []
  own : PassesOwn (model X.prog X.w) X.A X.env X.xe
theorem Dc.mono {X : Cx} {W : WX} {j k : Nat} (d : Dc X W k) (h : j ≤ k) : Dc X W j := ⟨d.tk, d.room.mono h, d.calm, d.gd, d.own⟩
theorem Dc.u64 {X : Cx} {W : WX} {k : Nat} (d : Dc X W k) : X.A.units + 64 < cLine := d.room.units
section
variable {F : Fx} {X : Cx} {W : WX} {L : List Addr} {H : Hp} {M : Store} {e : Env} {σ : St}
def tyN : D → Option String
  | .non => some "NoneType"
  | .bl _ => some "bool"
  | .int _ => some "int"
  | .str _ => some "str"
  | .tup _ => some "tuple"
  | .lst _ => some "list"
  | .scr _ => some "list"
  | .emp => some "dict"
  | .ktp _ => some "tuple"
  | _ => none
/-- with the store -/
def tyM (M : Store) : D → Option String
  | .loc n => match M[n]? with
    | some (Ob.lst _) => some "list"
    | _ => none
  | d => tyN d
/-- a value's class in the heap -/
inductive TyD (K : PySem.W.Frag) (H : Hp) : V → String → Prop
  | non : TyD K H .non "NoneType"
  | bl (b : Bool) : TyD K H (.bl b) "bool"
  | int (i : Int) : TyD K H (.int i) "int"
  | str (x : Str) : TyD K H (.str x) "str"
  | tup {a : Addr} {xs : List V} (q : SqT K H a xs) : TyD K H (.ref a) "tuple"
  | lst {a : Addr} {xs : List V} (q : SqL K H a xs) : TyD K H (.ref a) "list"
  | dic {a : Addr} {kvs : List (Key × V)} (q : H a = some (.dK kvs)) : TyD K H (.ref a) "dict"
theorem tyd_of (hm : SM F L H M) {d : D} {v : V} {T : String} (r : Rep F L H d v) (h : tyN d = some T) : TyD F.K H v T := by
  cases d with
  | non =>
    have q : v = .non := r
    cases Option.some.inj h
    rw [q]
    exact .non
  | bl b =>
    have q : v = .bl b := r
    cases Option.some.inj h
    rw [q]
    exact .bl b
  | int i =>
    have q : v = .int i := r
    cases Option.some.inj h
    rw [q]
    exact .int i
  | str x =>
    have q : v = .str x := r
    cases Option.some.inj h
    rw [q]
    exact .str x
  | tup ds =>
    obtain ⟨a, vs, rfl, e2, _⟩ := r
    cases Option.some.inj h
    exact .tup (.inl (.inl e2))
  | lst ds =>
    obtain ⟨a, vs, rfl, e2, _⟩ := getL_sq (ds := ds) hm rfl r
    cases Option.some.inj h
    exact .lst e2
  | scr ns =>
    obtain ⟨a, vs, rfl, e2, _⟩ := getL_sq (ds := ns.map D.int) hm rfl r
    cases Option.some.inj h
    exact .lst e2
  | loc n => cases h
  | emp =>
    obtain ⟨a, rfl, e2, _⟩ := r
    cases Option.some.inj h
    exact .dic e2
  | exc c fs => cases h
  | ty n => cases h
  | cls n => cases h
  | clo f c q σd is ds => cases h
  | ktp ns =>
    obtain ⟨a, rfl, a2⟩ := r
    cases Option.some.inj h
    exact .tup (.inr a2)
theorem tym_of (hm : SM F L H M) {d : D} {v : V} {T : String} (r : Rep F L H d v) (h : tyM M d = some T) : TyD F.K H v T := by
  by_cases hl : ∃ n, d = .loc n
  · obtain ⟨n, rfl⟩ := hl
    unfold tyM at h
    dsimp only at h
    split at h
    · rename_i ds hd
      cases Option.some.inj h
      obtain ⟨a, rfl, e2⟩ := r
      obtain ⟨o, h1, h2⟩ := hm.get e2
      rw [hd] at h1
      cases h1
      obtain ⟨vs, h3, _⟩ := h2
      exact .lst (.inl (.inl h3))
    · cases h
  · have e : tyM M d = tyN d := by
      cases d with
      | loc n => exact absurd ⟨n, rfl⟩ hl
      | _ => rfl
    rw [e] at h
    exact tyd_of hm r h
theorem TyD.x {K : PySem.W.Frag} {v : V} {T : String} (h : TyD K H v T) : TyX K H v (.type T) := by
  cases h with
  | non => exact .base .non
  | bl b => exact .base (.bl b)
  | int i => exact .base (.int i)
  | str x => exact .base (.str x)
  | tup q =>
    rcases q with (q | ⟨o, q⟩) | ⟨o, its, n, q1, q2, _⟩
    · exact .base (.tup q)
    · exact .fTuple q
    · exact .kTuple q1 q2
  | lst q =>
    rcases q with (q | ⟨o, q⟩) | ⟨o, its, n, q1, q2, _⟩
    · exact .base (.lst q)
    · exact .base (.frz q)
    · exact .kList q1 q2
  | dic q => exact .base (.dK q)
def rTyp (K : PySem.W.Frag) : List V → Hp → VK → Prop := fun vs H Q => ∃ v T, vs = [v] ∧ TyD K H v T ∧ Q (.ty T) H
theorem callr_type : CallR X (.type "type") (rTyp X.K) := by
  intro p₀ s₀ σ₀ H₀ vs us Q₀ I₀ r h
  obtain ⟨v, T, rfl, t, q⟩ := h
  obtain ⟨u, eu1, rx⟩ := vals1 r
  subst eu1
  have fin : EP X p₀ σ₀ Q₀ (.type T) s₀ := ⟨.ty T, H₀, I₀, rfl, q⟩
  cases t with
  | non =>
    have z : u = .none := rx
    subst z
    exact call_type_of (typeIs_none s₀) (by decide +kernel) fin
  | bl b =>
    have z : u = .bool b := rx
    subst z
    exact call_type_of (PySem.typeIs_bool s₀ b) (by decide +kernel) fin
  | int i =>
    obtain ⟨k, rfl⟩ := rx
    exact call_type_of (typeIs_int s₀ i k) (by decide +kernel) fin
  | str x =>
    obtain ⟨k, rfl⟩ := rx
    exact call_type_of (typeIs_str s₀ x k) (by decide +kernel) fin
  | tup q2 =>
    cases rx
    obtain ⟨its, rv, p2, _⟩ := I₀.tuple q2
    exact call_type_of p2.typeIs (by decide +kernel) fin
  | lst q2 =>
    cases rx
    obtain ⟨its, rv, p2, _⟩ := I₀.list q2
    exact call_type_of p2.isList.typeIs (by decide +kernel) fin
  | @dic a kvs q2 =>
    cases rx
    obtain ⟨_, _, ws, _, o, es, ep, h1, h2, _⟩ := (show ObjOk X.prog X.w H₀ s₀.heap a (.dK kvs) from I₀.hok a _ q2)
    exact call_type_of (Tx := "dict") ⟨o, h1, h2.1⟩ (by decide +kernel) fin
def typF : List D → Store → RE
  | [d], M => match tyM M d with
    | some T => ok (.ty T) M
    | none => none
  | _, _ => none
theorem typ_ok : CallOk F (rTyp F.K) typF := fun ds M L H e σ W vs Q sr rv p => by
  unfold typF at p
  split at p
  · obtain ⟨v, rfl, h1⟩ := reps1 rv
    split at p
    · rename_i T hT
      exact ⟨v, T, rfl, tym_of sr.m h1 hT, p.ok sr rfl⟩
    · exact False.elim p
  · exact False.elim p
def isiF : List D → Store → RE
  | [d, .ty S], M => match tyM M d with
    | some T => (match kitB T S with
      | some b => ok (.bl b) M
      | none => none)
    | none => none
  | _, _ => none
theorem isi_ok : CallOk F (rIsi F.K) isiF := fun ds M L H e σ W vs Q sr rv p => by
  unfold isiF at p
  split at p
  · rename_i d S
    obtain ⟨v, v', rfl, h1, h2⟩ := reps2 rv
    have z : v' = .ty S := h2
    subst z
    split at p
    · rename_i T hT
      split at p
      · rename_i b hb
        exact ⟨v, .ty S, .type T, .type S, b, rfl, .ty S, (tym_of sr.m h1 hT).x, kit_ty hb, p.ok sr rfl⟩
      · exact False.elim p
    · exact False.elim p
  · exact False.elim p
end
def PostF (F : Fx) (L : List Addr) (H : Hp) (Q : VK) (E : XK) : RE → Prop
  | some (.val d, M') => ∀ (L' : List Addr) (H' : Hp) (v : V), Stp L H L' H' → SM F L' H' M' → Rep F L' H' d v → Q v H'
  | some (.exc c fs, M') => ∀ (L' : List Addr) (H' : Hp) (cls : Value) (dd : Option Addr), Stp L H L' H' → SM F L' H' M' → ExR F L' H' c fs cls dd → E cls dd H'
  | none => False
abbrev DenF := List D → Store → RE
def spD (F : Fx) (den : DenF) : Sp := fun vs H Q E => ∃ L M ds, SM F L H M ∧ Reps F L H ds vs ∧ PostF F L H Q E (den ds M)
structure FnD (P : Program) (w : World) (F : Fx) (mg : Str → Option Value) (base : Heap) (k : Nat) (f : Addr) (fd : FuncData) (ps : List Str) (den : DenF) : Prop where
  run : ∀ (A : Around) (outer : List PySem.Env) (s : Shared) (H : Hp) (args : Args) (us : List Value) (vs : List V) (Q : VK) (E : XK), Room k A → A.guards = some [] → Env0 P w F.K mg base A outer s H → BindsTo s fd args (ps.zip us) → Vals vs us →
    vs.length = ps.length → spD F den vs H Q E → codeAny (model P w) A (.call (.ref f) args) (CR (L2.CX P w) outer P w H s Q E) s
theorem FnD.mono {P : Program} {w : World} {F : Fx} {mg : Str → Option Value} {base : Heap} {j k : Nat} {f : Addr} {fd : FuncData} {ps : List Str} {den : DenF} (h : FnD P w F mg base j f fd ps den) (hk : j ≤ k) : FnD P w F mg base k f fd ps den :=
  ⟨fun A outer s H args us vs Q E hr => h.run A outer s H args us vs Q E (hr.mono hk)⟩
section
variable {F : Fx} {X : Cx} {W : WX} {k : Nat} {f : Addr} {fd : FuncData} {ps : List Str} {den : DenF} {ds : List Value} {dvs : List V}
/-- f(..) with the defaults dvs behind -/
def tCallD (F : Fx) (W : WX) (den : DenF) (n : Nat) (dvs : List V) (t : TA) : TE := fun σ H Q => t σ H fun vs H1 => (vs ++ dvs).length = n ∧ spD F den (vs ++ dvs) H1 Q (WE W σ)
theorem run_fnD {p₀ : List (Addr × Obj)} {σ : St} {H : Hp} {s : Shared} {Q : VK} {us : List Value} {vs : List V} (hK : X.K = F.K) (h : FnD X.prog X.w F X.mg X.base k f fd ps den) (d : Dc X W k) (hb : Binds X.K fd ps ds) (hd : Vals dvs ds) (I : L2.Inv X p₀ σ H s) (r : Vals vs us)
    (hl : (vs ++ dvs).length = ps.length) (q : spD F den (vs ++ dvs) H Q (WE W σ)) : wpAny (model X.prog X.w) X.A (call (.ref f) us) (EP X p₀ σ Q) X.xe s := by
  have r2 := r.append hd
  have e0 := I.env0
  rw [hK] at e0
  refine wpAny_call (codeAny_mono (h.run X.A X.stack s H ⟨us, []⟩ (us ++ ds) (vs ++ dvs) Q (WE W σ) d.room d.gd e0 (hb s us I.kIn (by rw [← r2.length]; exact hl)) r2 hl q) fun res s' hq => ?_)
  cases res with
  | error y => exact passAt d.tk σ p₀ H s y s' I hq
  | ok fl =>
    cases fl with
    | ret u => exact I.after hq
    | next => exact (show False from hq).elim
    | brk => exact (show False from hq).elim
    | cont => exact (show False from hq).elim
theorem pe_callD {x : Str} {p pos : Pos} {a : Expr} {as : List Expr} {t : TA} (hK : X.K = F.K) (h : FnD X.prog X.w F X.mg X.base k f fd ps den) (d : Dc X W k) (hg : Gl X x) (hm : X.mg x = some (.ref f)) (hk : PySem.W.keepIn X.K (.ref f) = true) (hb : Binds X.K fd ps ds) (hd : Vals dvs ds)
    (ha : PA X (a :: as) t) (hdb : (x == ("__debug__" : Str)) = false := by decide) (he : starEach (a :: as) X.env = (false, eval a X.env) :: starEach as X.env := by rfl) (hpl : (backTo pos (starEach as X.env)).any (·.1) = false := by rfl) :
    PE X (.Call (.Name x p) (a :: as) [] pos) (tCallD F W den ps.length dvs t) := by
  refine ⟨fun p₀ s₀ σ₀ H₀ Q₀ I₀ h₀ => wpAny_Call_Name_kw (ld_glob I₀ hg hm ?_ hdb)⟩
  refine PySem.W.callWith_K (h₀ := X.base) I₀.ok.mod.kin hk (thn (ha.run pos p₀ s₀ σ₀ H₀ _ I₀ h₀) fun us s1 y => ?_) he hpl
  obtain ⟨vs, H1, I1, r, q1, q2⟩ := y
  exact ⟨I1.kIn, run_fnD hK h d hb hd I1 r q1 q2⟩
/-- the arguments as data, defaults dd behind -/
def fnD (den : DenF) (n : Nat) (dd : List D) (dr : DenA) : DenE := fun e M => bindE (dr e M) fun ds M1 => if (ds ++ dd).length = n then den (ds ++ dd) M1 else none
theorem post_fn {L1 : List Addr} {H1 : Hp} {M1 : Store} {e : Env} {σ : St} {Q : VK} (sr : SR F L1 H1 M1 e σ) : ∀ {r : RE}, Post F e L1 H1 σ W Q r → PostF F L1 H1 Q (WE W σ) r
  | some (.val d, M'), h => fun L' H' v s m rv => h L' H' v s (sr.stay s m) rv
  | some (.exc c fs, M'), h => fun L' H' cls dd s m rv => h L' H' cls dd s (sr.stay s m) rv
  | none, h => h
theorem call_fin {dr : DenA} {t : TA} {dd : List D} (hdd : ∀ L H, Reps F L H dd dvs)
    (hr : ∀ (e : Env) (M : Store) (L : List Addr) (σ : St) (H : Hp) (Q : List V → Hp → Prop), SR F L H M e σ → PostA F e L H σ W Q (dr e M) → t σ H Q)
    (n : Nat) (e : Env) (M : Store) (L : List Addr) (σ : St) (H : Hp) (Q : VK) (sr : SR F L H M e σ) (p : Post F e L H σ W Q (fnD den n dd dr e M)) : tCallD F W den n dvs t σ H Q := by
  refine hr e M L σ H _ sr (PostG.bind (fun ds1 M1 L1 H1 vs s1 r1 rv q => ?_) p)
  split at q
  · rename_i hn
    have ra := reps_app rv (hdd L1 H1)
    exact ⟨by rw [← reps_len ra]; exact hn, L1, M1, _, r1.m, ra, post_fn r1 q⟩
  · exact False.elim q
theorem de_call {x : Str} {p pos : Pos} {a : Expr} {as : List Expr} {dr : DenA} {dd : List D} (h : FnD X.prog X.w F X.mg X.base k f fd ps den) (d : Dc X W k) (hm : X.mg x = some (.ref f)) (hk : PySem.W.keepIn X.K (.ref f) = true) (hb : Binds X.K fd ps ds) (hd : Vals dvs ds) (hdd : ∀ L H, Reps F L H dd dvs)
    (hr : DA F X W (a :: as) dr) (hK : X.K = F.K := by rfl) (hg : Gl X x := by rfl) (hdb : (x == ("__debug__" : Str)) = false := by decide) (he : starEach (a :: as) X.env = (false, eval a X.env) :: starEach as X.env := by rfl) (hpl : (backTo pos (starEach as X.env)).any (·.1) = false := by rfl) :
    DE F X W (.Call (.Name x p) (a :: as) [] pos) (fnD den ps.length dd dr) := by
  obtain ⟨tr, pr, qr⟩ := hr
  exact ⟨_, pe_callD hK h d hg hm hk hb hd pr hdb he hpl, call_fin hdd qr ps.length⟩
end
inductive Flw where
  | nx (e : Env)
  | rt (d : D)
  | bk (e : Env)
  | ct (e : Env)
  | ex (c : String) (fs : List (Str × D)) (e : Env)
abbrev RS := Option (Flw × Store)
abbrev DenS := Env → Store → RS
def PostS (F : Fx) (L : List Addr) (H : Hp) (W : WX) (T : Ends) : RS → Prop
  | some (.nx e, M) => ∀ (L' : List Addr) (H' : Hp) (σ' : St), Stp L H L' H' → SR F L' H' M e σ' → T.nx σ' H'
  | some (.bk e, M) => ∀ (L' : List Addr) (H' : Hp) (σ' : St), Stp L H L' H' → SR F L' H' M e σ' → T.bk σ' H'
  | some (.ct e, M) => ∀ (L' : List Addr) (H' : Hp) (σ' : St), Stp L H L' H' → SR F L' H' M e σ' → T.ct σ' H'
  | some (.rt d, M) => ∀ (L' : List Addr) (H' : Hp) (v : V), Stp L H L' H' → SM F L' H' M → Rep F L' H' d v → T.rt v H'
  | some (.ex c fs e, M) => ∀ (L' : List Addr) (H' : Hp) (σ' : St) (cls : Value) (dd : Option Addr), Stp L H L' H' → SR F L' H' M e σ' → ExR F L' H' c fs cls dd → W cls dd σ' H'
  | none => False
def DS (F : Fx) (X : Cx) (W : WX) (st : Stmt) (den : DenS) : Prop :=
  ∃ t, PS X st t ∧ ∀ (e : Env) (M : Store) (L : List Addr) (σ : St) (H : Hp) (T : Ends), SR F L H M e σ → PostS F L H W T (den e M) → t T σ H
def DSs (F : Fx) (X : Cx) (W : WX) (sts : List Stmt) (den : DenS) : Prop :=
  ∃ t, PSs X sts t ∧ ∀ (e : Env) (M : Store) (L : List Addr) (σ : St) (H : Hp) (T : Ends), SR F L H M e σ → PostS F L H W T (den e M) → t T σ H
def thenS {α : Type} (r : RD α) (e : Env) (k : α → Store → RS) : RS := match r with
  | some (.val d, M) => k d M
  | some (.exc c fs, M) => some (.ex c fs e, M)
  | none => none
section
variable {F : Fx} {X : Cx} {W : WX} {L L1 : List Addr} {H H1 : Hp} {M : Store} {e : Env} {σ : St} {T : Ends}
theorem PostS.go (s : Stp L H L1 H1) : ∀ {r : RS}, PostS F L H W T r → PostS F L1 H1 W T r
  | some (.nx e, M), h => fun L' H' σ' s' r => h L' H' σ' (s.trans s') r
  | some (.bk e, M), h => fun L' H' σ' s' r => h L' H' σ' (s.trans s') r
  | some (.ct e, M), h => fun L' H' σ' s' r => h L' H' σ' (s.trans s') r
  | some (.rt d, M), h => fun L' H' v s' r rv => h L' H' v (s.trans s') r rv
  | some (.ex c fs e, M), h => fun L' H' σ' cls dd s' r x => h L' H' σ' cls dd (s.trans s') r x
  | none, h => h
theorem post_then {α β : Type} {rp : List Addr → Hp → α → β → Prop} {Q : β → Hp → Prop} {k : α → Store → RS} (kk : ∀ d M1 L1 H1 v, Stp L H L1 H1 → SR F L1 H1 M1 e σ → rp L1 H1 d v → PostS F L1 H1 W T (k d M1) → Q v H1) :
    ∀ {r : RD α}, PostS F L H W T (thenS r e k) → PostG F rp e L H σ W Q r
  | some (.val d, M1), h => fun L1 H1 v s r rv => kk d M1 L1 H1 v s r rv (PostS.go s h)
  | some (.exc c fs, M1), h => fun L' H' cls dd s' r x => h L' H' σ cls dd s' r x
  | none, h => h
theorem SR.set (sr : SR F L H M e σ) (i : Nat) {d : D} {v : V} (r : Rep F L H d v) : SR F L H M (e.set i (some d)) (σ.set i (some v)) := by
  refine ⟨by rw [List.length_set, List.length_set]; exact sr.l, sr.m, fun j d' q => ?_⟩
  by_cases hj : i = j
  · subst hj
    by_cases hl : i < e.length
    · rw [List.getElem?_set_self hl] at q
      cases q
      refine ⟨v, ?_, r⟩
      rw [List.getElem?_set_self (by rw [sr.l]; exact hl)]
    · rw [List.getElem?_eq_none (by rw [List.length_set]; omega)] at q
      cases q
  · rw [List.getElem?_set_ne hj] at q
    rw [List.getElem?_set_ne hj]
    exact sr.e j d' q
theorem SR.unset (sr : SR F L H M e σ) (i : Nat) (v : Option V) : SR F L H M (e.set i none) (σ.set i v) := by
  refine ⟨by rw [List.length_set, List.length_set]; exact sr.l, sr.m, fun j d' q => ?_⟩
  by_cases hj : i = j
  · subst hj
    by_cases hl : i < e.length
    · rw [List.getElem?_set_self hl] at q
      cases q
    · rw [List.getElem?_eq_none (by rw [List.length_set]; omega)] at q
      cases q
  · rw [List.getElem?_set_ne hj] at q
    rw [List.getElem?_set_ne hj]
    exact sr.e j d' q
def nilS : DenS := fun e M => some (.nx e, M)
def seqS (a b : DenS) : DenS := fun e M => match a e M with
  | some (.nx e', M') => b e' M'
  | r => r
theorem dss_nil : DSs F X W [] nilS := ⟨_, pss_nil, fun e M L σ H T sr p => p L H σ (Stp.refl L H) sr⟩
theorem dss_one {st : Stmt} {a : DenS} (ha : DS F X W st a) : DSs F X W [st] a := by
  obtain ⟨t, p, q⟩ := ha
  exact ⟨t, pss_one p, q⟩
theorem dss_cons {st : Stmt} {sts : List Stmt} {a b : DenS} (ha : DS F X W st a) (hb : DSs F X W sts b) : DSs F X W (st :: sts) (seqS a b) := by
  obtain ⟨t, pt, qt⟩ := ha
  obtain ⟨u, pu, qu⟩ := hb
  refine ⟨_, pss_cons pt pu, fun e M L σ H T sr p => ?_⟩
  refine qt e M L σ H _ sr ?_
  unfold seqS at p
  split at p
  · rename_i e' M' he
    rw [he]
    exact fun L' H' σ' s r => qu e' M' L' σ' H' T r (PostS.go s p)
  · rename_i r hr
    revert p
    cases q : a e M with
    | none => exact id
    | some y =>
      obtain ⟨fl, M'⟩ := y
      cases fl with
      | nx e' => exact absurd q (hr e' M')
      | bk e' => exact id
      | ct e' => exact id
      | rt d => exact id
      | ex c fs e' => exact id
def asgS (i : Nat) (da : DenE) : DenS := fun e M => thenS (da e M) e fun d M1 => some (.nx (e.set i (some d)), M1)
theorem ds_set (i : Nat) {x : Str} {y : Expr} {da : DenE} {pos pos' : Pos} (hN : X.N.Nodup) (ha : DE F X W y da) (hi : X.N[i]? = some x := by rfl) (hx : Loc X.env.scope x := by first | exact Or.inl rfl | exact Or.inr rfl) (hs : swapsWith y (some (.Name x pos')) pos.line X.env = pure false := by rfl)
    (hf : X.fn x = true ∨ X.env.scope.names.lookup x = some .local := by first | exact .inl rfl | exact .inr rfl) : DS F X W (.Assign [.Name x pos'] y pos) (asgS i da) := by
  obtain ⟨t, p, q⟩ := ha
  refine ⟨_, ps_set hN hi hx p hs hf, fun e M L σ H T sr pp => q e M L σ H _ sr (post_then (fun d M1 L1 H1 v s1 r1 rv q2 => ?_) pp)⟩
  exact q2 L1 H1 _ (Stp.refl L1 H1) (r1.set i rv)
def retS (da : DenE) : DenS := fun e M => thenS (da e M) e fun d M1 => some (.rt d, M1)
theorem ds_ret {y : Expr} {da : DenE} {pos : Pos} (ha : DE F X W y da) : DS F X W (.Return (some y) pos) (retS da) := by
  obtain ⟨t, p, q⟩ := ha
  refine ⟨_, ps_ret p, fun e M L σ H T sr pp => q e M L σ H _ sr (post_then (fun d M1 L1 H1 v s1 r1 rv q2 => ?_) pp)⟩
  exact q2 L1 H1 v (Stp.refl L1 H1) r1.m rv
def dropS (da : DenE) : DenS := fun e M => thenS (da e M) e fun _ M1 => some (.nx e, M1)
theorem ds_expr {y : Expr} {da : DenE} {pos : Pos} (ha : DE F X W y da) (hs : swapsWith y none pos.line X.env = pure false := by rfl) : DS F X W (.Expr y pos) (dropS da) := by
  obtain ⟨t, p, q⟩ := ha
  refine ⟨_, ps_expr p hs, fun e M L σ H T sr pp => q e M L σ H _ sr (post_then (fun d M1 L1 H1 v s1 r1 rv q2 => ?_) pp)⟩
  exact q2 L1 H1 σ (Stp.refl L1 H1) r1
def ifS (dc : DenE) (a b : DenS) : DenS := fun e M => thenS (dc e M) e fun d M1 => match d with
  | .bl true => a e M1
  | .bl false => b e M1
  | _ => none
theorem ds_if {c : Expr} {xs ys : List Stmt} {dc : DenE} {a b : DenS} {pos : Pos} (hc : DT F X W c dc) (ha : DSs F X W xs a) (hb : DSs F X W ys b) : DS F X W (.If c xs ys pos) (ifS dc a b) := by
  obtain ⟨tc, pc, qc⟩ := hc
  obtain ⟨ta, pa, qa⟩ := ha
  obtain ⟨tb, pb, qb⟩ := hb
  refine ⟨_, ps_if pc pa pb, fun e M L σ H T sr pp => qc e M L σ H _ sr (post_then (fun d M1 L1 H1 v s1 r1 rv q => ?_) pp)⟩
  split at q
  · refine ⟨true, rv, ?_⟩
    rw [if_pos rfl]
    exact qa e M1 L1 σ H1 T r1 q
  · refine ⟨false, rv, ?_⟩
    rw [if_neg fun z => Bool.false_ne_true z]
    exact qb e M1 L1 σ H1 T r1 q
  · exact False.elim q
end
end DL
namespace DL
open PySem L2
section
variable {F : Fx} {X : Cx} {W : WX} {L L1 : List Addr} {H H1 : Hp} {M : Store} {e : Env} {σ : St} {T : Ends} {k : Nat}
theorem drop_cons {α : Type} : ∀ {xs : List α} {j : Nat} {x : α}, xs[j]? = some x → xs.drop j = x :: xs.drop (j + 1)
  | [], _, _, h => by simp at h
  | a :: xs, 0, x, h => by
    have q : a = x := by simpa using h
    rw [q]
    rfl
  | a :: xs, j + 1, x, h => drop_cons (xs := xs) (j := j) (by simpa using h)
/-- a list that stays (a value; not one of the store) -/
def LstAt (K : PySem.W.Frag) (L : List Addr) (H : Hp) (a : Addr) (vs : List V) : Prop := (H a = some (.lst vs) ∧ a ∉ L) ∨ (∃ o, H a = some (.frz o (.lst vs))) ∨ KL K a vs
theorem LstAt.sq {K : PySem.W.Frag} {a : Addr} {vs : List V} (h : LstAt K L H a vs) : SqL K H a vs := by
  rcases h with ⟨h, _⟩ | ⟨o, h⟩ | h
  · exact .inl (.inl h)
  · exact .inl (.inr ⟨o, h⟩)
  · exact .inr h
theorem LstAt.stay {a : Addr} {vs : List V} (m : SM F L H M) (s : Stp L H L1 H1) (h : LstAt F.K L H a vs) : LstAt F.K L1 H1 a vs := by
  rcases h with ⟨h, n⟩ | ⟨o, h⟩ | h
  · exact .inl ⟨s.ext a _ h n fun ps z => (by cases z), s.out h n⟩
  · exact .inr (.inl ⟨o, s.ext a _ h (m.not h id) fun ps z => (by cases z)⟩)
  · exact .inr (.inr h)
def rngI (lo : Int) (n : Nat) : List D := (List.range n).map fun (j : Nat) => D.int (lo + (j : Int))
def small62 (i : Int) : Bool := decide (-(2 ^ 62) ≤ i ∧ i < 2 ^ 62)
theorem rng_len (lo : Int) (n : Nat) : (rngI lo n).length = n := by
  unfold rngI
  simp only [List.length_range, List.length_map]
def whileS (dt : DenE) (body : DenS) : Nat → DenS
  | 0, _, _ => none
  | n + 1, e, M => match dt e M with
    | some (.val (.bl true), M1) => (match body e M1 with
      | some (.nx e', M') => whileS dt body n e' M'
      | some (.ct e', M') => whileS dt body n e' M'
      | some (.bk e', M') => some (.nx e', M')
      | r => r)
    | some (.val (.bl false), M1) => some (.nx e, M1)
    | some (.exc c fs, M1) => some (.ex c fs e, M1)
    | _ => none
theorem ds_while {c : Expr} {body : List Stmt} {dt : DenE} {db : DenS} {pos : Pos} (fuel : Env → Store → Nat) (d : Dc X W k) (hc : DT F X W c dt) (hb : DSs F X W body db) : DS F X W (.While c body [] pos) (fun e M => whileS dt db (fuel e M) e M) := by
  obtain ⟨tc, pc, qc⟩ := hc
  obtain ⟨tb, pb, qb⟩ := hb
  refine ⟨_, ps_while d.own pc pb, fun e M L σ H T sr pp => ?_⟩
  refine ⟨fun n σ' H' => ∃ L' e' M', Stp L H L' H' ∧ SR F L' H' M' e' σ' ∧ PostS F L' H' W T (whileS dt db n e' M'), ⟨fuel e M, L, e, M, Stp.refl L H, sr, pp⟩, ?_⟩
  rintro n σ' H' ⟨L', e', M', s, r, p⟩
  cases n with
  | zero => exact False.elim p
  | succ n =>
    refine qc e' M' L' σ' H' _ r ?_
    unfold whileS at p
    revert p
    cases hd : dt e' M' with
    | none => exact id
    | some y =>
      obtain ⟨o, M1⟩ := y
      cases o with
      | exc c fs => exact fun p L2 H2 cls dd s2 r2 x => p L2 H2 σ' cls dd s2 r2 x
      | val dv =>
        intro p L2 H2 v s2 r2 rv
        revert p
        cases dv with
        | bl b =>
          cases b with
          | false =>
            intro p
            refine ⟨false, rv, ?_⟩
            rw [if_neg fun z => Bool.false_ne_true z]
            exact p L2 H2 σ' s2 r2
          | true =>
            intro p
            refine ⟨true, rv, ?_⟩
            rw [if_pos rfl]
            refine ⟨fun σ3 H3 => ∃ L' e' M', Stp L H L' H3 ∧ SR F L' H3 M' e' σ3 ∧ PostS F L' H3 W T (whileS dt db n e' M'), fun σ3 H3 z => ⟨n, Nat.lt_succ_self n, z⟩, qb e' M1 L2 σ' H2 _ r2 ?_⟩
            dsimp only at p
            revert p
            cases db e' M1 with
            | none => exact id
            | some y =>
              obtain ⟨fl, M3⟩ := y
              cases fl with
              | nx e3 => exact fun p L3 H3 σ3 s3 r3 => ⟨L3, e3, M3, (s.trans s2).trans s3, r3, PostS.go (s2.trans s3) p⟩
              | ct e3 => exact fun p L3 H3 σ3 s3 r3 => ⟨L3, e3, M3, (s.trans s2).trans s3, r3, PostS.go (s2.trans s3) p⟩
              | bk e3 => exact fun p => PostS.go s2 p
              | rt d3 => exact fun p => PostS.go s2 p
              | ex c fs e3 => exact fun p => PostS.go s2 p
        | non => exact fun p => False.elim p
        | int i => exact fun p => False.elim p
        | str i => exact fun p => False.elim p
        | tup i => exact fun p => False.elim p
        | lst i => exact fun p => False.elim p
        | scr i => exact fun p => False.elim p
        | emp => exact fun p => False.elim p
        | loc i => exact fun p => False.elim p
        | exc c i => exact fun p => False.elim p
        | ty i => exact fun p => False.elim p
        | cls i => exact fun p => False.elim p
        | clo f c q σd i ds => exact fun p => False.elim p
        | ktp ns => exact fun p => False.elim p
def ofBody (n : Nat) (den : DenS) : DenF := fun ds M => match den (ds.map some ++ List.replicate (n - ds.length) none) M with
  | some (.nx _, M') => ok .non M'
  | some (.rt d, M') => ok d M'
  | some (.ex c fs _, M') => some (.exc c fs, M')
  | _ => none
theorem start_env {ds : List D} {vs : List V} (n : Nat) (r : Reps F L H ds vs) (N : List Str) (hn : N.length = n) : EnvR F L H (ds.map some ++ List.replicate (n - ds.length) none) (L2.start N vs) ∧ (L2.start N vs).length = (ds.map some ++ List.replicate (n - ds.length) (none : Option D)).length := by
  have hl := reps_len r
  refine ⟨fun i d q => ?_, ?_⟩
  · by_cases hi : i < ds.length
    · rw [List.getElem?_append_left (by rw [List.length_map]; exact hi), List.getElem?_map] at q
      cases h : ds[i]? with
      | none => rw [h] at q; cases q
      | some d' =>
        rw [h] at q
        cases q
        obtain ⟨v, h1, h2⟩ := reps_get r h
        refine ⟨v, ?_, h2⟩
        unfold L2.start
        rw [List.getElem?_append_left (by rw [List.length_map, ← hl]; exact hi), List.getElem?_map, h1]
        rfl
    · rw [List.getElem?_append_right (by rw [List.length_map]; omega), List.getElem?_replicate] at q
      split at q
      · cases q
      · cases q
  · unfold L2.start
    rw [List.length_append, List.length_append, List.length_map, List.length_map, List.length_replicate, List.length_replicate, hn, hl]
theorem fn_mk0 {P : Program} {w : World} {mg : Str → Option Value} {base : Heap} {f : Addr} {fd : FuncData} {x qual : Str} {st : Stmt} {N ps : List Str} {den : DenS} {n : Nat} (Fn : Fun F.K x qual st f fd) (S : FnScope N ps (defScope st)) (hn : N.length = n)
    (body : ∀ (cdv : Value) (A : Around) (outer : List PySem.Env) (s : Shared) (H : Hp) (E : XK), fd.code = cdv → Dc (cxOf (L2.CX P w) P w F.K mg base N qual (defScope st) f cdv A outer s H E) (fun cls d _ H => E cls d H) k →
      DSs F (cxOf (L2.CX P w) P w F.K mg base N qual (defScope st) f cdv A outer s H E) (fun cls d _ H => E cls d H) (defBody st) den) : FnD P w F mg base (k + 1) f fd ps (ofBody n den) := by
  refine ⟨fun A outer s H args us vs Q E hr hg e0 hb hv hl sp => ?_⟩
  obtain ⟨oc, od, kV, doc, pm, an, cdv, ct, osl, rfl, lk, hcd⟩ := Fn.ex
  refine LamX.run_ofS lk hcd S hr e0 hb hv hl fun hr' => ?_
  have dc : Dc (cxOf (L2.CX P w) P w F.K mg base N qual (defScope st) f cdv A outer s H E) (fun cls d _ H => E cls d H) k := ⟨takes_of rfl rfl rfl rfl, hr', rfl, hg, passes_of rfl⟩
  obtain ⟨t, p1, p2⟩ := body cdv A outer s H E rfl dc
  obtain ⟨L, M, ds, m, r, p⟩ := sp
  obtain ⟨h1, h2⟩ := start_env n r N hn
  refine ⟨t, p1, p2 _ M L _ H _ ⟨h2, m, h1⟩ ?_⟩
  unfold ofBody at p
  revert p
  cases den (ds.map some ++ List.replicate (n - ds.length) none) M with
  | none => exact id
  | some y =>
    obtain ⟨fl, M'⟩ := y
    cases fl with
    | nx e' => exact fun p L' H' σ' s' r' => p L' H' .non s' r'.m rfl
    | rt d => exact id
    | ex c fs e' => exact fun p L' H' σ' cls dd s' r' x => p L' H' cls dd s' r'.m x
    | bk e' => exact False.elim
    | ct e' => exact False.elim
theorem fn_mk {P : Program} {w : World} {mg : Str → Option Value} {base : Heap} {f : Addr} {fd : FuncData} {x qual : Str} {st : Stmt} {N ps : List Str} {den : DenS} {n : Nat} (Fn : Fun F.K x qual st f fd) (S : FnScope N ps (defScope st)) (hn : N.length = n)
    (body : ∀ (cdv : Value) (A : Around) (outer : List PySem.Env) (s : Shared) (H : Hp) (E : XK), Dc (cxOf (L2.CX P w) P w F.K mg base N qual (defScope st) f cdv A outer s H E) (fun cls d _ H => E cls d H) k →
      DSs F (cxOf (L2.CX P w) P w F.K mg base N qual (defScope st) f cdv A outer s H E) (fun cls d _ H => E cls d H) (defBody st) den) : FnD P w F mg base (k + 1) f fd ps (ofBody n den) := fn_mk0 Fn S hn fun cdv A outer s H E _ dc => body cdv A outer s H E dc
end
end DL
namespace DL
open PySem L2
section
variable {F : Fx} {X : Cx} {W : WX} {L L1 : List Addr} {H H1 : Hp} {M : Store} {e : Env} {σ : St} {T : Ends} {k : Nat}
theorem nodup_at {α : Type} : ∀ {l : List α}, l.Nodup → ∀ {i j : Nat} {x : α}, l[i]? = some x → l[j]? = some x → i = j
  | [], _, _, _, _, q, _ => by simp at q
  | a :: l, n, 0, 0, _, _, _ => rfl
  | a :: l, n, 0, j + 1, x, h, q => by
    have e1 : a = x := by simpa using h
    have e2 : l[j]? = some x := by simpa using q
    rw [← e1] at e2
    exact absurd (List.mem_of_getElem? e2) (List.nodup_cons.mp n).1
  | a :: l, n, i + 1, 0, x, h, q => by
    have e1 : a = x := by simpa using q
    have e2 : l[i]? = some x := by simpa using h
    rw [← e1] at e2
    exact absurd (List.mem_of_getElem? e2) (List.nodup_cons.mp n).1
  | a :: l, n, i + 1, j + 1, x, h, q => by
    have z := nodup_at (l := l) (List.nodup_cons.mp n).2 (i := i) (j := j) (x := x) (by simpa using h) (by simpa using q)
    rw [z]
/-- the tables behind a step that touches none -/
theorem tbs_upd {p : Addr} {o : HO} (m : SM F L H M) (hp : ∀ ps, H p ≠ some (.tbl ps)) (hc : ∀ c q, H p ≠ some (LamX.CodeO c q)) : LamX.Tabs F.T (upd H p o) := by
  intro y hy
  obtain ⟨ps, h1, h2, h3⟩ := m.tbs y hy
  refine ⟨ps, ?_, h2, fun pos cv h => ?_⟩
  · rw [upd_ne (fun z => hp ps (by rw [← z]; exact h1))]
    exact h1
  · obtain ⟨c, e1, e2⟩ := h3 pos cv h
    refine ⟨c, e1, ?_⟩
    rw [upd_ne (fun z => hc c y.2 (by rw [← z]; exact e2))]
    exact e2
/-- a thing of the store is changed -/
theorem SM.putO (m : SM F L H M) {n : Nat} {a : Addr} {ob : Ob} {ho : HO} (hn : L[n]? = some a) (hz : ∀ o' u, H a ≠ some (.frz o' u)) (no : NoTb ho) (r : ∀ L' H', Stp L H L' H' → H' a = some ho → ObR F L' H' a ob) : SM F L (upd H a ho) (M.set n ob) ∧ Stp L H L (upd H a ho) := by
  have ha : a ∈ L := List.mem_of_getElem? hn
  have s : Stp L H L (upd H a ho) := Stp.put ha hz no
  obtain ⟨ws, hw, hwo⟩ := m.kind ha
  refine ⟨⟨by rw [List.length_set]; exact m.len, m.nd, fun j b o h1 h2 => ?_, tbs_upd m (fun ps z => ?_) fun c q z => ?_⟩, s⟩
  · by_cases hj : j = n
    · subst hj
      rw [h1] at hn
      cases hn
      have hl : j < M.length := by
        rw [← m.len]
        exact (List.getElem?_eq_some_iff.mp h1).1
      rw [List.getElem?_set_self hl] at h2
      cases h2
      exact r _ _ s upd_same
    · rw [List.getElem?_set_ne (Ne.symm hj)] at h2
      have ne : b ≠ a := fun z => hj (nodup_at m.nd h1 (by rw [z]; exact hn))
      exact ObR.stay m s (fun u hu _ => by rw [upd_ne ne]; exact hu) o (m.obs j b o h1 h2)
  · rw [hw] at z
    cases z
    exact hwo
  · rw [hw] at z
    unfold LamX.CodeO at z
    cases z
    exact hwo
/-- a list of the store is changed -/
theorem SM.put (m : SM F L H M) {n : Nat} {a : Addr} {ds : List D} {vs ws : List V} (hn : L[n]? = some a) (hz : H a = some (.lst ws)) (r : Reps F L H ds vs) : SM F L (upd H a (.lst vs)) (M.set n (.lst ds)) ∧ Stp L H L (upd H a (.lst vs)) := m.putO hn (fun o' u z => by rw [hz] at z; cases z) (fun ps z => nomatch z) fun L' H' s h => ⟨vs, h, Reps.stay m s ds vs r⟩
/-- a new thing of the store -/
theorem SM.ownO (m : SM F L H M) {p : Addr} {ob : Ob} {ho : HO} (hp : H p = none) (r : ∀ L' H', Stp L H L' H' → H' p = some ho → ObR F L' H' p ob) : SM F (L ++ [p]) (upd H p ho) (M ++ [ob]) ∧ Stp L H (L ++ [p]) (upd H p ho) := by
  have s : Stp L H (L ++ [p]) (upd H p ho) := Stp.alloc' hp
  refine ⟨⟨by rw [List.length_append, List.length_append, m.len]; rfl, List.nodup_append.mpr ⟨m.nd, by simp, fun x hx y hy z => ?_⟩, fun j b o h1 h2 => ?_, m.tbs.ext fun b x h => by rw [upd_ne (ne_of_none h hp)]; exact h⟩, s⟩
  · have hy' : y = p := by simpa using hy
    rw [z, hy'] at hx
    exact fresh_out m hp hx
  · by_cases hj : j < L.length
    · rw [List.getElem?_append_left hj] at h1
      rw [List.getElem?_append_left (by rw [← m.len]; exact hj)] at h2
      exact ObR.stay m s (fun u hu _ => by rw [upd_ne (ne_of_none hu hp)]; exact hu) o (m.obs j b o h1 h2)
    · rw [List.getElem?_append_right (by omega)] at h1
      rw [List.getElem?_append_right (by rw [← m.len]; omega)] at h2
      have hj0 : j - L.length = 0 := by
        have h3 := (List.getElem?_eq_some_iff.mp h1).1
        simp at h3
        omega
      rw [hj0] at h1
      rw [← m.len, hj0] at h2
      have e1 : p = b := by simpa using h1
      have e2 : ob = o := by simpa using h2
      subst e1 e2
      exact r _ _ s upd_same
/-- a new list of the store -/
theorem SM.own (m : SM F L H M) {p : Addr} {ds : List D} {vs : List V} (hp : H p = none) (r : Reps F L H ds vs) : SM F (L ++ [p]) (upd H p (.lst vs)) (M ++ [.lst ds]) ∧ Stp L H (L ++ [p]) (upd H p (.lst vs)) := m.ownO hp fun L' H' s h => ⟨vs, h, Reps.stay m s ds vs r⟩
abbrev DenG := D → DenS
def DG (F : Fx) (X : Cx) (W : WX) (tg : Expr) (den : DenG) : Prop :=
  ∃ t, PG X tg t ∧ ∀ (d : D) (v : V) (e : Env) (M : Store) (L : List Addr) (σ : St) (H : Hp) (T : Ends), SR F L H M e σ → Rep F L H d v → PostS F L H W T (den d e M) → t v σ H T.nx
def DGs (F : Fx) (X : Cx) (W : WX) (tgs : List Expr) (den : List D → DenS) : Prop :=
  ∃ t, PGs X tgs t ∧ ∀ (ds : List D) (vs : List V) (e : Env) (M : Store) (L : List Addr) (σ : St) (H : Hp) (T : Ends), SR F L H M e σ → Reps F L H ds vs → PostS F L H W T (den ds e M) → t vs σ H T.nx
def nameG (i : Nat) : DenG := fun d e M => some (.nx (e.set i (some d)), M)
theorem dg_name (i : Nat) {x : Str} {pos : Pos} (hN : X.N.Nodup) (hi : X.N[i]? = some x := by rfl) (hx : Loc X.env.scope x := by first | exact Or.inl rfl | exact Or.inr rfl) (hf : X.fn x = true ∨ X.env.scope.names.lookup x = some .local := by first | exact .inl rfl | exact .inr rfl) : DG F X W (.Name x pos) (nameG i) :=
  ⟨_, pg_name hN hi hx hf, fun d v e M L σ H T sr rv p => p L H _ (Stp.refl L H) (sr.set i rv)⟩
def nilG : List D → DenS
  | [], e, M => some (.nx e, M)
  | _, _, _ => none
def consG (g : DenG) (gs : List D → DenS) : List D → DenS
  | d :: ds, e, M => (match g d e M with
    | some (.nx e', M') => gs ds e' M'
    | _ => none)
  | _, _, _ => none
theorem dgs_nil : DGs F X W [] nilG := by
  refine ⟨_, pgs_nil, fun ds vs e M L σ H T sr rv p => ?_⟩
  cases ds with
  | nil => exact ⟨rv, p L H σ (Stp.refl L H) sr⟩
  | cons d ds => exact False.elim p
theorem dgs_cons {y : Expr} {ys : List Expr} {g : DenG} {gs : List D → DenS} (h1 : DG F X W y g) (h2 : DGs F X W ys gs) (hs : (assignEach (y :: ys) X.env).map (·.2) = assign y X.env :: (assignEach ys X.env).map (·.2) := by rfl) : DGs F X W (y :: ys) (consG g gs) := by
  obtain ⟨t, p1, q1⟩ := h1
  obtain ⟨u, p2, q2⟩ := h2
  refine ⟨_, pgs_cons p1 p2 hs, fun ds vs e M L σ H T sr rv p => ?_⟩
  cases ds with
  | nil => exact False.elim p
  | cons d ds =>
    obtain ⟨v, r, rfl, r1, r2⟩ := rv
    refine ⟨v, r, rfl, q1 d v e M L σ H { T with nx := fun σ' H' => u r σ' H' T.nx } sr r1 ?_⟩
    have p' : PostS F L H W T (match g d e M with
      | some (.nx e', M') => gs ds e' M'
      | _ => none) := p
    clear p
    revert p'
    cases g d e M with
    | none => exact id
    | some z =>
      obtain ⟨fl, M'⟩ := z
      cases fl with
      | nx e' => exact fun p L' H' σ' s r' => q2 ds r e' M' L' σ' H' T r' (Reps.stay sr.m s ds r r2) (PostS.go s p)
      | bk e' => exact False.elim
      | ct e' => exact False.elim
      | rt d' => exact False.elim
      | ex c fs e' => exact False.elim
def tupG (n : Nat) (gs : List D → DenS) : DenG := fun d e M => match d with
  | .tup ds => if ds.length = n then gs ds e M else none
  | .ktp ns => if ns.length = n then gs (ns.map D.int) e M else none
  | _ => none
theorem dg_tup {ys : List Expr} {kx : Nat} {pos : Pos} {n : Nat} {gs : List D → DenS} (hc : X.calm = true) (h : DGs F X W ys gs) (hK : X.K = F.K := by rfl) (hn : (assignEach ys X.env).length = n := by rfl) (hst : (assignEach ys X.env).findIdx? (·.1) = none := by rfl) : DG F X W (.Tuple ys kx pos) (tupG n gs) := by
  obtain ⟨t, p1, q1⟩ := h
  refine ⟨_, pg_tup hc p1 hn hst, fun d v e M L σ H T sr rv p => ?_⟩
  unfold tupG at p
  split at p
  · rename_i ds
    obtain ⟨a, vs, rfl, a2, a3⟩ := rv
    have a2 := (Or.inl (Or.inl a2) : SqT F.K H a vs)
    split at p
    · rename_i hl
      exact ⟨a, vs, rfl, by rw [hK]; exact a2, by rw [← reps_len a3]; exact hl, q1 ds vs e M L σ H T sr a3 p⟩
    · exact False.elim p
  · rename_i ns
    obtain ⟨a, rfl, a2⟩ := rv
    have a3 : SqT F.K H a (ns.map V.int) := .inr a2
    split at p
    · rename_i hl
      exact ⟨a, _, rfl, by rw [hK]; exact a3, by rw [List.length_map]; exact hl, q1 _ _ e M L σ H T sr (reps_ints ns) p⟩
    · exact False.elim p
  · exact False.elim p
/-- o[i] = .. -/
def subG (dob di : DenE) : DenG := fun d e M => thenS (dob e M) e fun o M1 => thenS (di e M1) e fun i M2 => match o, i with
  | .loc n, .int z => (match M2[n]? with
    | some (.lst ds) => (match ixN ds.length z with
      | some j => some (.nx e, M2.set n (.lst (ds.set j d)))
      | none => none)
    | _ => none)
  | _, _ => none
theorem dg_sub {o i : Expr} {dob di : DenE} {pos : Pos} (ho : DE F X W o dob) (hi : DE F X W i di) (ha : ∀ v, assign (.Subscript o i pos) X.env v = (do
      let o1 ← holding [v] (eval o X.env)
      let i1 ← holding [v, o1] (eval i X.env)
      standAt pos
      holding [v, o1, i1] (setItem o1 i1 v)
      release [v, o1, i1] []) := by intro _; rfl) : DG F X W (.Subscript o i pos) (subG dob di) := by
  obtain ⟨to, p1, q1⟩ := ho
  obtain ⟨ti, p2, q2⟩ := hi
  refine ⟨_, pg_sub p1 p2 set_list ha, fun d v e M L σ H T sr rv p => ?_⟩
  refine q1 e M L σ H _ sr (post_then (fun od M1 L1 H1 ov s1 r1 rov qa => ?_) p)
  refine q2 e M1 L1 σ H1 _ r1 (post_then (fun id' M2 L2 H2 iv s2 r2 riv q => ?_) qa)
  split at q
  · rename_i n z
    split at q
    · rename_i ds hds
      split at q
      · rename_i j hj
        obtain ⟨a, rfl, ha'⟩ := Rep.stay r1.m s2 _ _ rov
        have ziv : iv = .int z := riv
        subst ziv
        obtain ⟨o2, h1, h2⟩ := r2.m.get ha'
        rw [hds] at h1
        cases h1
        obtain ⟨vs, h3, h4⟩ := h2
        have rv2 := Rep.stay r1.m s2 _ _ (Rep.stay sr.m s1 _ _ rv)
        obtain ⟨m3, s3⟩ := SM.put r2.m ha' h3 (reps_set j h4 rv2)
        exact ⟨a, vs, z, j, rfl, rfl, h3, by rw [← reps_len h4]; exact hj, q L2 _ σ s3 (r2.stay s3 m3)⟩
      · exact False.elim q
    · exact False.elim q
  · exact False.elim q
def asgG (da : DenE) (g : DenG) : DenS := fun e M => thenS (da e M) e fun d M1 => g d e M1
theorem ds_asg {tg y : Expr} {da : DenE} {g : DenG} {pos : Pos} (ha : DE F X W y da) (hg : DG F X W tg g) (hs : swapsWithSole [tg] y pos.line X.env = pure false := by rfl) (hw : swappedStores [tg] y X.env = pure none := by rfl) (h1 : (assignEach [tg] X.env).map (·.2) = [assign tg X.env] := by rfl) : DS F X W (.Assign [tg] y pos) (asgG da g) := by
  obtain ⟨ta, p1, q1⟩ := ha
  obtain ⟨t, p2, q2⟩ := hg
  refine ⟨_, ps_asg p1 p2 hs hw h1, fun e M L σ H T sr pp => q1 e M L σ H _ sr (post_then (fun d M1 L1 H1 v s1 r1 rv q => ?_) pp)⟩
  exact q2 d v e M1 L1 σ H1 T r1 rv q
/-- a, b = x, y: two plain names -/
def parS (i j : Nat) (da db : DenE) : DenS := fun e M => thenS (da e M) e fun d M1 => thenS (db e M1) e fun d' M2 => some (.nx ((e.set i (some d)).set j (some d')), M2)
theorem ds_par (i j : Nat) {x y : Str} {a b : Expr} {da db : DenE} {px py pt pos : Pos} {kt k2 pt2} (hc : X.calm = true) (hN : X.N.Nodup) (ha : DE F X W a da) (hb : DE F X W b db) (hi : X.N[i]? = some x := by rfl) (hj : X.N[j]? = some y := by rfl) (hij : i ≠ j := by decide)
    (hx : X.env.scope.names.lookup x = some .local := by rfl) (hy : X.env.scope.names.lookup y = some .local := by rfl) (hw : swappedStores [.Tuple [.Name x px, .Name y py] kt pt] (.Tuple [a, b] k2 pt2) X.env = pure (some [x, y]) := by rfl)
    (hs : swapsWithSole [.Tuple [.Name x px, .Name y py] kt pt] (.Tuple [a, b] k2 pt2) pos.line X.env = pure false := by rfl) (h1 : starEach (a :: [b]) X.env = (false, eval a X.env) :: starEach [b] X.env := by rfl) (h2 : starEach (b :: []) X.env = (false, eval b X.env) :: starEach [] X.env := by rfl) :
    DS F X W (.Assign [.Tuple [.Name x px, .Name y py] kt pt] (.Tuple [a, b] k2 pt2) pos) (parS i j da db) := by
  obtain ⟨ta, p1, q1⟩ := ha
  obtain ⟨tb, p2, q2⟩ := hb
  refine ⟨_, ps_par hc hN hi hj hij hx hy (pa_cons p1 (pa_cons p2 pa_nil h2) h1) hw hs, fun e M L σ H T sr pp => q1 e M L σ H _ sr (post_then (fun d M1 L1 H1 v s1 r1 rv q => ?_) pp)⟩
  refine q2 e M1 L1 σ H1 _ r1 (post_then (fun d2 M2 L2 H2 v2 s2 r2 rv2 q => ?_) q)
  exact ⟨v, v2, rfl, q L2 H2 _ (Stp.refl L2 H2) ((r2.set i (Rep.stay r1.m s2 d v rv)).set j rv2)⟩
def ownS (i : Nat) (dr : DenA) : DenS := fun e M => thenS (dr e M) e fun ds M1 => if ds.length ≤ 100000 then some (.nx (e.set i (some (.loc M1.length))), M1 ++ [.lst ds]) else none
theorem ds_own (i : Nat) {x : Str} {ys : List Expr} {dr : DenA} {p2 pos pos' : Pos} (hN : X.N.Nodup) (hr : DA F X W ys dr) (hi : X.N[i]? = some x := by rfl) (hx : Loc X.env.scope x := by first | exact Or.inl rfl | exact Or.inr rfl) (hs : swapsWith (.List ys p2) (some (.Name x pos')) pos.line X.env = pure false := by rfl)
    (hf : X.fn x = true ∨ X.env.scope.names.lookup x = some .local := by first | exact .inl rfl | exact .inr rfl) : DS F X W (.Assign [.Name x pos'] (.List ys p2) pos) (ownS i dr) := by
  obtain ⟨t, p, q⟩ := hr
  refine ⟨_, ps_set hN hi hx (pe_lst p) hs hf, fun e M L σ H T sr pp => q e M L σ H _ sr (post_then (fun ds M1 L1 H1 vs s1 r1 rv q2 => ?_) pp)⟩
  split at q2
  · rename_i hl
    refine ⟨by rw [← reps_len rv]; exact sz_ok hl, fun p' hp => ?_⟩
    obtain ⟨m3, s3⟩ := SM.own r1.m hp rv
    have r3 := r1.stay s3 m3
    refine q2 _ _ _ s3 (r3.set i ⟨p', rfl, ?_⟩)
    rw [← r1.m.len, List.getElem?_append_right (Nat.le_refl _), Nat.sub_self]
    rfl
  · exact False.elim q2
/-- x.append(y) -/
def appS (dob da : DenE) : DenS := fun e M => thenS (dob e M) e fun o M1 => match o with
  | .loc n => if isL M1 n = true then thenS (da e M1) e fun d M2 => (match M2[n]? with
    | some (.lst ds) => if ds.length < 100000 then some (.nx e, M2.set n (.lst (ds ++ [d]))) else none
    | _ => none) else none
  | _ => none
theorem ds_app {o y : Expr} {dob da : DenE} {apos cpos pos : Pos} (ho : DE F X W o dob) (ha : DE F X W y da) (hb : attributeBase o "append" X.env (eval o X.env) = eval o X.env := by rfl)
    (hw : ((backTo cpos (starEach (y :: []) X.env)).all (fun x => !x.1) && (backToKw cpos (keywordEach [] X.env)).all (fun x => x.1.isSome) && decide ((y :: ([] : List Expr)).length + ([] : List Keyword).length + (if ([] : List Keyword).isEmpty then 0 else 1) < 30)) = true := by rfl)
    (hl : (apos.endLine == cpos.line) = true := by rfl) (h2 : starEach (y :: []) X.env = (false, eval y X.env) :: starEach [] X.env := by rfl) (hpl : (backTo cpos (starEach [] X.env)).any (·.1) = false := by rfl) (hs : swapsWith (.Call (.Attribute o "append" apos) [y] [] cpos) none pos.line X.env = pure false := by rfl) (hK : X.K = F.K := by rfl) :
    DS F X W (.Expr (.Call (.Attribute o "append" apos) [y] [] cpos) pos) (appS dob da) := by
  obtain ⟨to, p1, q1⟩ := ho
  obtain ⟨ta, p2, q2⟩ := ha
  refine ⟨_, ps_expr (pe_bm PySem.F.plainAttrs_list PySem.F.slot_list_append PySem.F.type_list_append mt_append p1 (pa_cons p2 pa_nil h2) hb hw hl h2 hpl) hs, fun e M L σ H T sr pp => q1 e M L σ H _ sr (post_then (fun od M1 L1 H1 ov s1 r1 rov q => ?_) pp)⟩
  split at q
  · rename_i n
    obtain ⟨a, rfl, ha'⟩ := rov
    split at q
    rotate_left
    · exact False.elim q
    rename_i hk
    obtain ⟨ws, hw'⟩ := r1.m.lst ha' hk
    refine ⟨.inl ⟨rfl, ws, .inl (.inl hw')⟩, q2 e M1 L1 σ H1 _ r1 (post_then (fun d M2 L2 H2 v s2 r2 rv q => ?_) q)⟩
    split at q
    · rename_i ds hds
      obtain ⟨o2, h1, h2⟩ := r2.m.get (s2.get ha')
      rw [hds] at h1
      cases h1
      obtain ⟨vs, h3, h4⟩ := h2
      split at q
      · rename_i hz
        obtain ⟨m3, s3⟩ := SM.put r2.m (s2.get ha') h3 (reps_snoc h4 rv)
        refine ⟨a, vs, v, rfl, rfl, h3, ?_, q L2 _ σ s3 (r2.stay s3 m3)⟩
        rw [← reps_len h4]
        exact Nat.lt_of_lt_of_le hz (by decide)
      · exact False.elim q
    · exact False.elim q
  · exact False.elim q
/-- what the text says of an own exception class without __init__ -/
structure ClsF (X : Cx) (C : Addr) (x : Str) : Prop where
  fx : ∃ (B newId initId : String) (bmB : List Value), ExcBaseFacts B newId initId bmB ∧ PySem.W.excIn X.K C bmB newId = true
  gC : X.mg x = some (.ref C)
  kC : PySem.W.keepIn X.K (.ref C) = true
  rs : Raises X (.ref C)
def raiseS (c : String) : DenS := fun e M => some (.ex c [] e, M)
theorem ds_raise {x m : Str} {j : Nat} {p p2 pos pos' : Pos} {C : Addr} (c : String) (d : Dc X W k) (hC : F.cl c = some C) (f : ClsF X C x) (hg : Gl X x := by rfl) (hdb : (x == ("__debug__" : Str)) = false := by decide) : DS F X W (.Raise (some (.Call (.Name x p) [.Constant (.str m) j p2] [] pos)) none pos') (raiseS c) := by
  obtain ⟨B, newId, initId, bmB, hF, hq⟩ := f.fx
  refine ⟨_, ps_raise d.calm d.tk (pmk_own hF hq f.gC f.kC f.rs hg hdb), fun e M L σ H T sr pp => ?_⟩
  exact pp L H σ (.ref C) none (Stp.refl L H) sr ⟨C, hC, rfl, rfl⟩
end
end DL
namespace DL
open PySem L2
/-- an exception's object as it stands, told to the abstract heap -/
def exP (C a : Addr) (dd : Option Addr) : Heap → Prop := fun h => ∃ (oe : Obj) (vs : Array Value), h.get? a = some oe ∧ oe.cls = .ref C ∧ oe.dict = dd ∧ oe.data = .fields vs
section
variable {F : Fx} {X : Cx} {W : WX} {L L1 : List Addr} {H H1 : Hp} {M : Store} {e : DL.Env} {σ : St} {T : Ends} {k : Nat} {p₀ : List (Addr × Obj)} {s : Shared}
/-- an object that nothing told of is told -/
theorem inv_track {a : Addr} {oe : Obj} {vs : Array Value} {φ : Heap → Prop} (I : L2.Inv X p₀ σ H s) (ha : s.heap.get? a = some oe) (hd : oe.data = .fields vs) (na : H a = none) (nL : a ≠ X.env.locals) (n0 : X.s_0.heap.get? a = none) (np : ∀ p ∈ X.pn ++ p₀, p.1 ≠ a) (hφ : φ s.heap)
    (st : ∀ h1 h2 : Heap, φ h1 → (∀ o, h1.get? a = some o → h2.get? a = some o) → φ h2) : L2.Inv X p₀ σ (upd H a (.ext φ)) s := by
  have old : ∀ b o, X.s_0.heap.get? b = some o → b ≠ a := fun b o q z => by
    rw [z, n0] at q
    cases q
  have other : ∀ b (o : HO), H b = some o → upd H a (.ext φ) b = some o := fun b o q => by
    rw [upd_ne (ne_of_none q na)]
    exact q
  refine ⟨I.ok, I.os, I.bare, ⟨I.base.keep, I.base.slot, fun b o q n hx => ?_, I.base.there, fun b xs q => other b _ (I.base.tups b xs q), fun b o u q => other b _ (I.base.frzs b o u q), fun b ps q => ?_⟩, I.loc, I.cell, ?_, fun x c q => ?_, fun p hp => ?_, fun b o q => ?_, I.len⟩
  · rw [upd_ne (old b o q)]
    exact I.base.free b o q n hx
  · obtain ⟨more, z⟩ := I.base.tbls b ps q
    exact ⟨more, other b _ z⟩
  · rw [upd_ne (Ne.symm nL)]
    exact I.free
  · have ne : c ≠ a := fun z => by
      obtain ⟨v, oc, ho, hdc⟩ := I.cell x c q
      rw [z, ha] at ho
      cases ho
      rw [hd] at hdc
      cases hdc
    rw [upd_ne ne]
    exact I.freeC x c q
  · obtain ⟨q1, q2, q3⟩ := I.pin p hp
    refine ⟨q1, ?_, q3⟩
    rw [upd_ne (np p hp)]
    exact q2
  · by_cases hb : b = a
    · subst hb
      rw [upd_same] at q
      cases q
      exact ⟨hφ, ⟨oe, ha⟩, st⟩
    · rw [upd_ne hb] at q
      exact (I.hok b o q).stay (fun c u _ z => z) (fun c z => other c _ z) fun c xs z => other c _ z
theorem flying_keep {B h h' : Heap} {l : List PySem.Env} {a : Addr} {Z : Obj → Prop} (fl : HandSPX.FlyingZ B l a Z h) (kp : ∀ b o, h.get? b = some o → h'.get? b = some o) : HandSPX.FlyingZ B l a Z h' := by
  obtain ⟨k1, k2, k3, oe, vs, T', oT, ts, q1, q2, q3, q4, q5, q6, q7, q8, q9⟩ := fl
  exact ⟨fun b o q => kp b o (k1 b o q), k2, PySem.Heap.FunFrames.of_keeps (fun b o q _ => ⟨o, kp b o q, rfl⟩) k3, oe, vs, T', oT, ts, kp _ _ q1, q2, q3, q4, q5, q6, kp _ _ q7, q8, q9⟩
/-- the classes that a clause names, looked at -/
def Cla (X : Cx) (te : Expr) (ct : Value → Bool) : Prop := ∀ (a : Addr) (pn p₁ : List (Addr × Obj)) (σ : St) (H : Hp) (s : Shared) (cls : Value) (Q : Bool → Shared → Prop) (E : Value → Shared → Prop), L2.Inv (X.suite a pn) p₁ σ H s →
  (∃ oe, s.heap.get? a = some oe ∧ oe.cls = cls) → ct cls = true → (∀ s' : Shared, (∀ b o, s.heap.get? b = some o → s'.heap.get? b = some o) → s'.os = s.os → PyProof.Rows.AllBare s'.gens → Q true s') →
  wpAny (model X.prog X.w) (X.A.mark (some (.ref a))) (eval te X.env) (fun c s₁ => wpAny (model X.prog X.w) (X.A.mark (some (.ref a))) (excMatches (.ref a) c) Q E s₁) E s
theorem ld_cls {a : Addr} {pn p₁ : List (Addr × Obj)} {x : Str} {c : Value} {p : Pos} {Q : Value → Shared → Prop} {E : Value → Shared → Prop} (hc : Names X x c) (I : L2.Inv (X.suite a pn) p₁ σ H s) (q : Q c s) : wpAny (model X.prog X.w) (X.A.mark (some (.ref a))) (eval (.Name x p) X.env) Q E s := by
  obtain ⟨hg, hdb, hm | ⟨hm, hv, hn⟩⟩ := hc
  · exact ld_glob (X := X.suite a pn) I hg hm q hdb
  · exact ld_blt (X := X.suite a pn) I hg hm hv q hn hdb
theorem looks_at {M : Model} {h : Heap} {a : Addr} {oe : Obj} {cls : Value} (ha : h.get? a = some oe) (hc : oe.cls = cls) : PySem.W.Looks M h (typeOf (.ref a)) cls := fun A Q E s k q => wpAny_typeOf_ref (k _ _ ha) (by rw [hc]; exact q)
theorem cla_name {x : Str} {c : Value} {p : Pos} {ct : Value → Bool} (hc : Names X x c) (h : ∀ cls, ct cls = true → PySem.W.exmOne X.K cls c = some true) : Cla X (.Name x p) ct := by
  intro a pn p₁ σ H s cls Q E I hcls hct q
  obtain ⟨oe, h1, h2⟩ := hcls
  exact ld_cls hc I ((PySem.W.exm_one (M := model X.prog X.w) I.kIn (looks_at h1 h2) (h cls hct)).here (q s (fun _ _ z => z) rfl I.bare))
/-- behind the body's exception: the suite with the error at i, then i is empty -/
def sufS (i : Nat) (su : DenS) (c : String) (fs : List (Str × D)) (e' : DL.Env) (M' : Store) : RS := match su (e'.set i (some (.exc c fs))) M' with
  | some (.nx e2, M2) => some (.nx (e2.set i none), M2)
  | some (.bk e2, M2) => some (.bk (e2.set i none), M2)
  | some (.ct e2, M2) => some (.ct (e2.set i none), M2)
  | some (.rt d, M2) => some (.rt d, M2)
  | _ => none
def tryS (i : Nat) (ct : String → Bool) (db su : DenS) : DenS := fun e M => match db e M with
  | some (.ex c fs e', M') => if ct c = true then sufS i su c fs e' M' else none
  | r => r
theorem ds_try {te : Expr} {n : Str} {b₀ : Stmt} {suite body : List Stmt} {pos pos' : Pos} {db su : DenS} {cv : Value → Bool} (i : Nat) (ct : String → Bool) (d : Dc X W k) (hs : X.stack = X.env :: X.outer) (hf : X.env.frame = some X.env.locals) (hex : X.ex = []) (hN : X.N.Nodup) (hi : X.N[i]? = some n) (hln : X.env.kindOf n = some .local)
    (hc : Cla X te cv) (hcv : ∀ c C, F.cl c = some C → ct c = true → cv (.ref C) = true)
    (hb : ∀ (W' : WX) (pn : List (Addr × Obj)) (xe : Value → Shared → Prop), Dc (X.tr pn xe) W' k → DSs F (X.tr pn xe) W' body db)
    (hsu : ∀ (a : Addr) (pn : List (Addr × Obj)), DSs F (X.suite a pn) (fun _ _ _ _ => False) (b₀ :: suite) su) :
    DS F X W (.Try body [.ExceptHandler (some te) (some n) (b₀ :: suite) pos'] [] [] pos) (tryS i ct db su) := by
  refine ⟨fun T σ H => ∃ (e : DL.Env) (M : Store) (L : List Addr), SR F L H M e σ ∧ PostS F L H W T (tryS i ct db su e M), ⟨fun p₁ s₁ σ₁ H₁ T₁ I₁ h₁ => ?_⟩, fun e M L σ H T sr pp => ⟨e, M, L, sr, pp⟩⟩
  obtain ⟨e, M, L, sr, pp⟩ := h₁
  have okk := I₁.ok
  have hfr : X.A.frames = some (X.env :: X.outer) := by rw [okk.frames, hs]
  have lcn : Loc X.env.scope n := .inl hln
  -- the wish about the body's exceptions
  let W' : WX := fun cls dd σ' H' => ∃ (c : String) (fs : List (Str × D)) (e' : DL.Env) (M' : Store) (L' : List Addr), SR F L' H' M' e' σ' ∧ ExR F L' H' c fs cls dd ∧ ct c = true ∧ PostS F L' H' W T₁ (sufS i su c fs e' M')
  let xe' : Value → Shared → Prop := fun u s1 => wpAny (model X.prog X.w) X.A (noteFrame u X.env) (fun _ s2 => wpAny (model X.prog X.w) X.A (setFlight u none) (fun _ s3 => wpAny (model X.prog X.w) X.A (handleBy u X.env [.ExceptHandler (some te) (some n) (b₀ :: suite) pos']) (SP X p₁ T₁) X.xe s3) X.xe s2) X.xe s1
  have tk' : Takes (X.tr (X.pn ++ p₁) xe') W' := by
    intro u s' xx
    obtain ⟨a, B, sI, pins', σ', H', cls, dd, rfl, J', nb, up, sky, na, os, ag, c, fs, e', M', L', sr', hx', hct, pp'⟩ := xx
    have J : L2.Inv X p₁ σ' H' sI := J'.ofTry okk
    have sky' : Sky B (X.env :: X.outer) a (Zc cls dd) X.env.locals s'.heap := by rw [← hs]; exact sky
    show wpAny _ X.A (noteFrame (.ref a) X.env) _ _ _
    have Bn : B.get? a = none := by
      rcases sky' with ⟨_, z, _⟩ | z | z
      · exact z
      · exact z.2.1
      · exact z.2.1
    refine Sky.land Zc.steady hfr hf sky' fun hh ff uu => ?_
    have JL : L2.Inv X p₁ σ' H' { s' with heap := hh } := J.landed nb ff.1 (up.trans uu) os ag
    obtain ⟨ox, xs9, eo, zo, od9⟩ := ff.there
    have nfr : a ∉ frs (X.env :: X.outer) := fun hm => by
      obtain ⟨_, o', e2, hnf⟩ := ff.2.2.1.mem hm
      rw [eo] at e2
      cases e2
      exact hnf _ od9
    have nl1 : a ≠ X.env.locals := fun z => nfr (List.mem_filterMap.mpr ⟨X.env, List.mem_cons_self, by rw [hf, z]⟩)
    have nf1 : a ∉ X.fs := fun hm => by
      obtain ⟨env', he, q⟩ := List.mem_filterMap.mp hm
      exact nfr (List.mem_filterMap.mpr ⟨env', List.mem_cons_of_mem _ he, q⟩)
    have sIn : sI.heap.get? a = none := by
      cases z : sI.heap.get? a with
      | none => rfl
      | some o =>
        have z2 := nb a o z (by rw [hs]; exact nfr)
        rw [Bn] at z2
        cases z2
    have s0n : X.s_0.heap.get? a = none := by
      cases z : X.s_0.heap.get? a with
      | none => rfl
      | some o =>
        obtain ⟨o', z2⟩ := J.base.there a o z (by rw [hex]; simp)
        rw [sIn] at z2
        cases z2
    have np : ∀ p ∈ X.pn ++ p₁, p.1 ≠ a := fun p hp z => by
      obtain ⟨q1, _⟩ := J.pin p hp
      rw [z, sIn] at q1
      cases q1
    have SU := JL.suite eo od9 na nl1 nf1
    refine wpAny_handleBy_cons (codeAny_handlers_test ?_) fun q => nomatch q
    obtain ⟨C, hC, rfl, hfd⟩ := hx'
    refine hc a _ [] σ' H' _ (.ref C) _ _ SU ⟨ox, eo, zo.1⟩ (hcv c C hC hct) fun s4 k4 o4 b4 => ?_
    apply codeAny_handlers_suite_as
    have fl4 : HandSPX.FlyingZ B (X.env :: X.outer) a (Zc (.ref C) dd) s4.heap := flying_keep ff k4
    refine HandSPX.lands_againZ fl4 fun h5 fl5 up5 => ?_
    have up4 : hh.UpToSlots s4.heap := Heap.UpToSlots.of_keeps k4
    have J5 : L2.Inv X p₁ σ' H' { s4 with heap := h5 } := J.landed nb fl5.1 (((up.trans uu).trans up4).trans up5) (o4.trans os) b4
    obtain ⟨oe5, vs5, he5, hz5, hd5⟩ := fl5.there
    have J6 : L2.Inv X p₁ σ' (upd H' a (.ext (exP C a dd))) { s4 with heap := h5 } := inv_track J5 he5 hd5 na nl1 s0n np ⟨oe5, vs5, he5, hz5.1, hz5.2, hd5⟩ fun h1 h2 ⟨o1, w1, q1, q2, q3, q4⟩ kk => ⟨o1, w1, kk _ q1, q2, q3, q4⟩
    have S6 : L2.Inv (X.suite a (X.pn ++ p₁)) [] σ' (upd H' a (.ext (exP C a dd))) { s4 with heap := h5 } :=
      ⟨J6.ok.suite _ _, J6.os, J6.bare, J6.base, J6.loc, J6.cell, J6.free, J6.freeC, fun p hp => J6.pin p (by rw [List.append_nil] at hp; exact hp), J6.hok, J6.len⟩
    have stp : Stp L' H' L' (upd H' a (.ext (exP C a dd))) := Stp.alloc na
    have sr6 : SR F L' (upd H' a (.ext (exP C a dd))) M' e' σ' := sr'.stay stp (sr'.m.alloc na)
    have rep6 : Rep F L' (upd H' a (.ext (exP C a dd))) (.exc c fs) (.ref a) := by
      refine ⟨a, C, dd, rfl, hC, ⟨_, upd_same, fun h z => z⟩, fresh_out sr'.m na, ?_⟩
      cases dd with
      | none => exact hfd
      | some x =>
        obtain ⟨ws, q1, q2, q3⟩ := hfd
        exact ⟨ws, by rw [upd_ne (ne_of_none q1 na)]; exact q1, q2, RepF.stay sr'.m stp fs ws q3⟩
    have back : ∀ {σ7 : L2.St} {H7 : Hp} {s7 : Shared}, L2.Inv (X.suite a (X.pn ++ p₁)) [] σ7 H7 s7 → L2.Inv X p₁ σ7 H7 s7 := fun {σ7 H7 s7} J7 =>
      ⟨okk, J7.os, J7.bare, J7.base, J7.loc, J7.cell, J7.free, J7.freeC, fun p hp => J7.pin p (by rw [List.append_nil]; exact hp), J7.hok, J7.len⟩
    refine store_ok (X := X.suite a (X.pn ++ p₁)) (v := .ref a) S6 hN hi lcn rfl (fun s7 S7 => ?_) (.inr hln)
    obtain ⟨tu, pu, qu⟩ := hsu a (X.pn ++ p₁)
    let T6 : Ends := { nx := fun σ' H' => T₁.nx (σ'.set i none) H', rt := T₁.rt, bk := fun σ' H' => T₁.bk (σ'.set i none) H', ct := fun σ' H' => T₁.ct (σ'.set i none) H' }
    have ps6 : PostS F L' (upd H' a (.ext (exP C a dd))) (fun _ _ _ _ => False) T6 (su (e'.set i (some (.exc c fs))) M') := by
      have pp6 := PostS.go stp pp'
      unfold sufS at pp6
      revert pp6
      cases su (e'.set i (some (.exc c fs))) M' with
      | none => exact id
      | some y =>
        obtain ⟨fl, M7⟩ := y
        cases fl with
        | nx e7 => exact fun q L7 H7 σ7 s7 r7 => q L7 H7 _ s7 (r7.unset i none)
        | bk e7 => exact fun q L7 H7 σ7 s7 r7 => q L7 H7 _ s7 (r7.unset i none)
        | ct e7 => exact fun q L7 H7 σ7 s7 r7 => q L7 H7 _ s7 (r7.unset i none)
        | rt d7 => exact id
        | ex c7 fs7 e7 => exact fun q => (show False from q).elim
    refine wpAny_mono (pu.run [] s7 _ _ T6 S7 (qu _ M' L' _ _ T6 (sr6.set i rep6) ps6)) (fun f s8 hsp => ?_) (fun _ _ z => (show False from z).elim)
    have fin : ∀ {σ8 : L2.St} {H8 : Hp} {Q : Shared → Prop}, L2.Inv (X.suite a (X.pn ++ p₁)) [] σ8 H8 s8 → (∀ s9, L2.Inv X p₁ (σ8.set i none) H8 s9 → Q s9) →
        wpAny (model X.prog X.w) X.A (do bindName X.env n .none; unbindBehindTheSuite X.env n pos') (fun _ s9 => Q s9) X.xe s8 := fun {σ8 H8 Q} S8 hq => gone_ok (back S8) hN hi hln hq
    cases f with
    | next =>
      obtain ⟨σ8, H8, S8, q8⟩ := hsp
      exact fin S8 fun s9 J9 => ⟨_, _, J9, q8⟩
    | brk =>
      obtain ⟨σ8, H8, S8, q8⟩ := hsp
      exact fin S8 fun s9 J9 => ⟨_, _, J9, q8⟩
    | cont =>
      obtain ⟨σ8, H8, S8, q8⟩ := hsp
      exact fin S8 fun s9 J9 => ⟨_, _, J9, q8⟩
    | ret u =>
      obtain ⟨v8, σ8, H8, S8, r8, q8⟩ := hsp
      exact fin S8 fun s9 J9 => ⟨_, _, _, J9, r8, q8⟩
  have dc' : Dc (X.tr (X.pn ++ p₁) xe') W' k := ⟨tk', d.room, d.calm, d.gd, PassesOwn.looking⟩
  obtain ⟨tb, pb, qb⟩ := hb W' (X.pn ++ p₁) xe' dc'
  refine wpAny_Try_except ?_
  have psb : PostS F L H₁ W' T₁ (db e M) := by
    unfold tryS at pp
    revert pp
    cases db e M with
    | none => exact id
    | some y =>
      obtain ⟨fl, M7⟩ := y
      cases fl with
      | nx e7 => exact id
      | bk e7 => exact id
      | ct e7 => exact id
      | rt d7 => exact id
      | ex c7 fs7 e7 =>
        intro q L7 H7 σ7 cls dd s7 r7 x7
        dsimp only at q
        split at q
        · rename_i hct
          exact ⟨c7, fs7, e7, M7, L7, r7, x7, hct, PostS.go s7 q⟩
        · exact False.elim q
  refine wpAny_mono (pb.run [] s₁ σ₁ H₁ T₁ (I₁.toTry _) (qb e M L σ₁ H₁ T₁ sr psb)) (fun f s2 hsp => ?_) (fun u s2 he => he)
  cases f with
  | next =>
    obtain ⟨σ', H', J', q⟩ := hsp
    exact wpAny_execs_nil ⟨σ', H', J'.ofTry okk, q⟩
  | brk =>
    obtain ⟨σ', H', J', q⟩ := hsp
    exact ⟨σ', H', J'.ofTry okk, q⟩
  | cont =>
    obtain ⟨σ', H', J', q⟩ := hsp
    exact ⟨σ', H', J'.ofTry okk, q⟩
  | ret u =>
    obtain ⟨v, σ', H', J', rv9, q⟩ := hsp
    exact ⟨v, σ', H', J'.ofTry okk, rv9, q⟩
end
end DL
namespace DL
open PySem L2
open PySem.W PySem.Spec PySem.Calls PyProof.Rows in
theorem exc_cls {P₁ : Program} {w₁ : World} {A₁ : Around} {E₁ : Value → Shared → Prop} {st : Shared} {K₁ : Frag} {y Dc₁ : Addr} {oy : Obj} {od : Option Obj} {Q₁ : Option Value → Shared → Prop} (ec : L2.ExcC K₁ Dc₁)
    (KX : K₁.In st.heap) (IA : InstAt st.heap y oy Dc₁ od) (fin : Q₁ (some (.ref Dc₁)) { st with toks := st.toks + 1 }) : wpAny (model P₁ w₁) A₁ (getAttr? (.ref y) "__class__") Q₁ E₁ st := by
  have ff : findObj K₁ Dc₁ od "__class__" = some (.bind (.builtin "getset_descriptor.__get__") (.builtin "object.__class__")) := by
    obtain ⟨cdd, hcd, _⟩ := any_some ec.hd
    unfold findObj
    rw [hcd, Option.bind_some, ec.ha, Option.bind_some]
    simp [ec.hn, ec.ht]
  obtain ⟨hp₁, g₁, d₁, t₁, os₁⟩ := st
  have M0 := IA.type (M := model P₁ w₁)
  have M1 := looks_findIn (M := model P₁ w₁) KX ec.hg
  have M2 := looks_findIn (M := model P₁ w₁) KX ec.hk
  have M3 := looks_find (M := model P₁ w₁) KX IA ff
  have isb : Looks (model P₁ w₁) hp₁ (isInstance (.ref y) (.type "BaseException")) true := M0.andThen (looks_subIn KX ec.hs)
  have nb0 : (false && onTheHeap (Value.builtin "BaseException.__getattribute__")) = false := by rfl
  have nb1 : (onTheHeap (Value.ref Dc₁) && Value.builtin "BaseException.__getattribute__" == Value.builtin "object.__getattribute__") = false := by
    rw [show (Value.builtin "BaseException.__getattribute__" == Value.builtin "object.__getattribute__") = false by decide +kernel]
    rfl
  unfold getAttr? getAttrBy?
  unfold getAttrBy
  refine wpAny_bind (wpAny_mkText (wpAny_bind (wpAny_attempt (wpAny_holding (wpAny_bind (M0.at (wpAny_bind (M1.at ?_))))))))
  show wpAny _ _ (if (onTheHeap (Value.ref Dc₁) && Value.builtin "BaseException.__getattribute__" == Value.builtin "object.__getattribute__") = true then _ else _) _ _ _
  rw [nb1, if_neg Bool.false_ne_true]
  unfold getAttrByItsOwn
  unfold hookBefore
  refine wpAny_bind ?_
  rw [if_pos (by rfl : onTheHeap (Value.ref Dc₁) = true)]
  refine M2.at (wpAny_bind (wpAny_attempt (wpAny_holding ?_)))
  unfold callGetattribute
  rw [nb0, if_neg Bool.false_ne_true]
  unfold boundAndCalled
  rw [PySem.F.excAttr_ValueError.ga.bind (.ref y)]
  refine wpAny_bind ?_
  refine wpAny_pure ?_
  show wpAny _ _ (call (.builtin "BaseException.__getattribute__") [.ref y, .str "__class__" t₁]) _ _ _
  refine wpAny_call ?_
  apply codeAny_call_builtin PySem.F.excAttr_ValueError.ga.plain PySem.F.entry_bexc_ga
  refine @check_slot (model P₁ w₁) _ _ ⟨hp₁, g₁, d₁, t₁ + 1, os₁⟩ "BaseException.__getattribute__" "BaseException" "__getattribute__" (.ref y) [.str "__class__" t₁] [] _ (by decide +kernel) (by decide +kernel) isb (PySem.F.args_bexc_ga (.ref y) (.str "__class__" t₁)) ?_
  delta Builtin.«object.__getattribute__»
  refine wpAny_bind (wpAny_of_eq (a := ((Value.ref y : Value), [Value.str "__class__" t₁])) (by first | rfl | (simp only [slotArgs]; rfl)) ?_)
  refine wpAny_bind (wpAny_pure (wpAny_bind (M0.at (wpAny_bind (M3.at ?_)))))
  show wpAny _ _ (holding [Value.builtin "object.__class__"] (call (.builtin "getset_descriptor.__get__") [.builtin "object.__class__", .ref y, .ref Dc₁]) >>= ret) _ _ _
  refine wpAny_bind (wpAny_holding (wpAny_call (class_get (s := ⟨hp₁, g₁, d₁, t₁ + 1, os₁⟩) (ox := oy) (od := od) KX IA ec.hm ?_)))
  refine wpAny_pure ?_
  show wpAny _ _ (handedOut (.ref Dc₁)) _ _ _
  rw [handedOut_of (v := .ref Dc₁) rfl]
  first
    | exact wpAny_pure (wpAny_pure fin)
    | exact wpAny_pure fin
    | exact wpAny_pure (wpAny_bind (wpAny_pure (wpAny_pure fin)))
open PySem.W PySem.Spec PySem.Calls PyProof.Rows in
theorem exc_kit {K₁ : Frag} {y Dc₁ : Addr} {oy : Obj} {od : Option Obj} (ec : L2.ExcC K₁ Dc₁) : KitX K₁ (.ref y) (.ref Dc₁) (fun h => InstAt h y oy Dc₁ od) where
  ty := fun _ _ _ IA => IA.type
  it := fun _ _ KX _ => by
    obtain ⟨cdd, hcd, _⟩ := any_some ec.hd
    unfold clsIn at hcd
    split at hcd
    · rename_i hob
      intro A₂ Q₂ E₂ s₂ kk qq
      unfold isType loadHead
      exact wpAny_bind (wpAny_loadPart (kk _ _ (KX _ _ hob)) (wpAny_pure qq))
    · cases hcd
  ne := fun h tp dd its n sl KX htp => by
    obtain ⟨cdd, hcd, _⟩ := any_some ec.hd
    refine Bool.eq_false_iff.mpr fun qq => ?_
    have ee : Dc₁ = tp := Value.ref.inj (beq_iff_eq.mp qq)
    subst ee
    unfold clsIn at hcd
    split at hcd
    · rename_i hob
      have zz := (KX _ _ hob).symm.trans htp
      cases zz
    · cases hcd
  ca := fun KX IA k => exc_cls ec KX IA k
section
variable {F : Fx} {X : Cx} {W : WX} {L L1 : List Addr} {H H1 : Hp} {M : Store} {e : DL.Env} {σ : L2.St} {T : Ends} {k : Nat} {p₀ : List (Addr × Obj)} {s : Shared}
/-- an own class by its name -/
theorem de_own {x : Str} {pos : Pos} {C : Addr} (c : String) (hC : F.cl c = some C) (hm : X.mg x = some (.ref C)) (hg : Gl X x := by rfl) (hd : (x == ("__debug__" : Str)) = false := by decide) : DE F X W (.Name x pos) (cD (.cls c)) :=
  ⟨_, pe_glob (v := .ref C) hg hm rfl hd, fun e M L σ H Q sr p => p.ok sr ⟨C, rfl, hC⟩⟩
/-- a class as a value: what stands for it -/
def clsU (F : Fx) : D → Option Value
  | .ty S => some (.type S)
  | .cls c => (F.cl c).map .ref
  | _ => none
/-- isinstance, of an error that was kept or of data -/
def isiA (sub : String → D → Option Bool) : List D → Store → RE
  | [.exc c _, t], M => match sub c t with
    | some b => ok (.bl b) M
    | none => none
  | [d, t], M => isiF [d, t] M
  | _, _ => none
def rIsiX (K : PySem.W.Frag) : List V → Hp → VK → Prop := fun vs H Q => ∃ (a C : Addr) (c : V) (u : Value) (b : Bool), vs = [.ref a, c] ∧ ClsV c u ∧ (∃ dd, ExAt H C a dd ∧ ∀ x, dd = some x → ∃ ws, H x = some (.xd ws)) ∧ L2.ExcC K C ∧ PySem.W.kitOne K (.ref C) u = some b ∧ Q (.bl b) H
theorem callr_isiX : CallR X (.builtin "isinstance") (rIsiX X.K) := by
  intro p₀ s₀ σ₀ H₀ vs us Q₀ I₀ r h
  obtain ⟨a, C, c, u, b, rfl, hc, hx, ec, hk, q⟩ := h
  obtain ⟨u1, u2, eu2, r1, r2⟩ := vals2 r
  subst eu2
  cases r1
  have e2 := hc.eq r2
  subst e2
  obtain ⟨dd, ⟨φ, h1, h2⟩, hdd⟩ := hx
  obtain ⟨hφ, _, _⟩ := (show ObjOk X.prog X.w H₀ s₀.heap a (.ext φ) from I₀.hok a _ h1)
  obtain ⟨oe, ws, g1, g2, g3, g4⟩ := h2 _ hφ
  have J : ∃ od, PySem.W.InstAt s₀.heap a oe C od := by
    obtain ⟨ocl, od, oda, osl⟩ := oe
    dsimp only at g2 g3 g4
    subst g2 g3 g4
    cases od with
    | none => exact ⟨none, g1, rfl, rfl, trivial⟩
    | some x =>
      obtain ⟨ws, hx⟩ := hdd x rfl
      obtain ⟨mA, ⟨ob, _, _, hob, hrest⟩, _⟩ := (show ObjOk X.prog X.w H₀ s₀.heap x (.xd ws) from I₀.hok x _ hx)
      exact ⟨some ob, g1, rfl, rfl, hob⟩
  obtain ⟨od, J⟩ := J
  exact PySem.W.kia_one (exc_kit ec) I₀.kIn J hk (fun z => nomatch z) fun tk => ⟨.bl b, H₀, I₀.kept (t' := tk) fun _ _ z => z, rfl, q⟩
theorem orC {g : Value} {r r' : List V → Hp → VK → Prop} (h : CallR X g r) (h' : CallR X g r') : CallR X g (fun vs H Q => r vs H Q ∨ r' vs H Q) := by
  intro p₀ s₀ σ₀ H₀ vs us Q₀ I₀ rv q
  rcases q with q | q
  · exact h p₀ s₀ σ₀ H₀ vs us Q₀ I₀ rv q
  · exact h' p₀ s₀ σ₀ H₀ vs us Q₀ I₀ rv q
theorem callr_isi : CallR X (.builtin "isinstance") (fun vs H Q => rIsiX X.K vs H Q ∨ rIsi X.K vs H Q) := orC callr_isiX call_isi
theorem isiA_ok {sub : String → D → Option Bool} (hs : ∀ c t b C u, F.cl c = some C → clsU F t = some u → sub c t = some b → L2.ExcC F.K C ∧ PySem.W.kitOne F.K (.ref C) u = some b) (hu : ∀ c t b, sub c t = some b → ∃ u, clsU F t = some u) :
    CallOk F (fun vs H Q => rIsiX F.K vs H Q ∨ rIsi F.K vs H Q) (isiA sub) := fun ds M L H e σ W vs Q sr rv p => by
  unfold isiA at p
  split at p
  · rename_i c _ t
    obtain ⟨v, v', rfl, h1, h2⟩ := reps2 rv
    obtain ⟨a, C, dd, rfl, hC, hx, _, hdd⟩ := h1
    have hd0 : ∀ x, dd = some x → ∃ ws, H x = some (.xd ws) := fun x z => by
      subst z
      obtain ⟨ws, q1, _⟩ := hdd
      exact ⟨ws, q1⟩
    split at p
    · rename_i b hb
      obtain ⟨u, hu'⟩ := hu c t b hb
      obtain ⟨ec, hk⟩ := hs c t b C u hC hu' hb
      have hcv : ClsV v' u := by
        cases t with
        | ty S =>
          have z : v' = .ty S := h2
          cases Option.some.inj hu'
          rw [z]
          exact .ty S
        | cls c2 =>
          obtain ⟨C2, rfl, hC2⟩ := h2
          have z : (F.cl c2).map Value.ref = some u := hu'
          rw [hC2] at z
          cases Option.some.inj z
          exact .own C2
        | _ => cases hu'
      exact .inl ⟨a, C, v', u, b, rfl, hcv, ⟨dd, hx, hd0⟩, ec, hk, p.ok sr rfl⟩
    · exact False.elim p
  · exact .inr (isi_ok _ M L H e σ W vs Q sr rv p)
  · exact False.elim p
end
end DL
namespace DL
open PySem L2
end DL
namespace DL
open PySem L2
/-- what stands at the law's call: the script at a, empty tables of code -/
structure Ent (K : PySem.W.Frag) (mg : Str → Option Value) (s : Shared) (cs : List (Addr × Addr)) (a : Addr) (us : List Value) (ns : List Int) : Prop where
  kin : K.In s.heap
  glob : s.heap.Ns mainGlobals mg
  blt : ∃ mb, s.heap.Ns builtinsNs mb ∧ ∀ x : Str, x ≠ "__name__" → mb x = bootBuiltins x
  lim : s.heap.NoLimit
  gens : s.gens = #[]
  tab : ∀ p ∈ cs, s.heap.get? p.2 = some { cls := .none, data := .fields #[] }
  tabK : ∀ p ∈ cs, K.lookup p.2 = none
  code : ∀ p ∈ cs, PySem.W.CodeHd s.heap p.1 p.2
  bm : ∃ (m : Addr) (o : Obj), mg "__builtins__" = some (.ref m) ∧ m ≠ builtinsNs ∧ s.heap.get? m = some o ∧ o.cls = .type "module" ∧ o.dict = some builtinsNs ∧ o.data = .plain
  scr : s.heap.get? a = some { cls := .type "list", data := .seq us.toArray }
  isc : PyProof.Rows.IntsAre us ns
  len : ns.length ≤ sizeLine
section
variable {P : Program} {w : World} {F : Fx} {mg : Str → Option Value} {s : Shared} {cs : List (Addr × Addr)} {a : Addr} {us : List Value} {ns : List Int}
theorem Ent.tabAt (e : Ent F.K mg s cs a us ns) {b : Addr} (hb : b ∈ cs.map (·.2)) : s.heap.get? b = some { cls := .none, data := .fields #[] } := by
  obtain ⟨y, h1, h2⟩ := List.mem_map.mp hb
  rw [← h2]
  exact e.tab y h1
theorem Ent.out (e : Ent F.K mg s cs a us ns) : a ∉ cs.map (·.2) := fun hb => by
  have z := e.tabAt hb
  rw [e.scr] at z
  have z2 := congrArg Obj.data (Option.some.inj z)
  cases z2
/-- the abstract heap at the call -/
def entH (cs : List (Addr × Addr)) (u : Option (Addr × HO)) : Hp := fun b => match u with
  | some (a, o) => if b = a then some o else if b ∈ cs.map (·.2) then some (.tbl #[]) else none
  | none => if b ∈ cs.map (·.2) then some (.tbl #[]) else none
/-- what an abstract heap at the call is -/
structure EntH (e : Ent F.K mg s cs a us ns) (H : Hp) : Prop where
  tb : ∀ b ∈ cs.map (·.2), H b = some (.tbl #[])
  known : ∀ b o, H b = some o → (b ∈ cs.map (·.2) ∧ o = .tbl #[]) ∨ (b = a ∧ F.K.lookup a = none ∧ o = .frz { cls := .type "list", data := .seq us.toArray } (.lst (ns.map V.int)))
  rep : ∀ L, Rep F L H (.scr ns) (.ref a)
theorem ent_ok (e : Ent F.K mg s cs a us ns) {H : Hp} (h : EntH e H) : HOk P w H s.heap := fun b o q => by
  rcases h.known b o q with ⟨h1, rfl⟩ | ⟨rfl, _, rfl⟩
  · exact e.tabAt h1
  · refine ⟨e.scr, ?_, us, _, vals_ints e.isc, e.scr⟩
    rw [List.length_map]
    exact e.len
theorem ent_plain (e : Ent F.K mg s cs a us ns) {H : Hp} (h : EntH e H) {b : Addr} {ob : Obj} (hb : s.heap.get? b = some ob) (n1 : ∀ z n, ob.data ≠ .seq z n) (n2 : ob.data ≠ .fields #[]) : H b = none := by
  cases q : H b with
  | none => rfl
  | some o =>
    exfalso
    rcases h.known b o q with ⟨h1, _⟩ | ⟨rfl, _⟩
    · rw [e.tabAt h1] at hb
      cases hb
      exact n2 rfl
    · rw [e.scr] at hb
      cases hb
      exact n1 _ _ rfl
theorem ent_ns (e : Ent F.K mg s cs a us ns) {H : Hp} (h : EntH e H) {b : Addr} {m : Str → Option Value} (hb : s.heap.Ns b m) : (hidT s.heap H).Ns b m := by
  obtain ⟨ob, es, ep, h1, h2, h3⟩ := hb
  refine ⟨ob, es, ep, hidT_get h1 (ent_plain e h h1 (fun z n q => ?_) fun q => ?_), h2, h3⟩
  · rw [h2] at q
    cases q
  · rw [h2] at q
    cases q
theorem ent_k (e : Ent F.K mg s cs a us ns) {H : Hp} (h : EntH e H) : F.K.In (hidT s.heap H) := fun b ob q => by
  refine hidT_get (e.kin b ob q) ?_
  cases z : H b with
  | none => rfl
  | some o =>
    exfalso
    rcases h.known b o z with ⟨h1, _⟩ | ⟨rfl, h1, _⟩
    · obtain ⟨y, y1, y2⟩ := List.mem_map.mp h1
      rw [← y2, e.tabK y y1] at q
      cases q
    · rw [h1] at q
      cases q
theorem ent_tb (e : Ent F.K mg s cs a us ns) {H : Hp} (h : EntH e H) : ∀ p ∈ cs, LamX.TabB (hidT s.heap H) mg p.1 p.2 := fun p hp => by
  have htp := e.tab p hp
  obtain ⟨og, esg, epg, hg1, hg2, _⟩ := id e.glob
  refine ⟨?_, ?_, fun z => ?_⟩
  · obtain ⟨o, vs, file, tf, flags, tg, inF, text, tt, c1, c2, c3, c4⟩ := e.code p hp
    refine ⟨o, vs, file, tf, flags, tg, inF, text, tt, hidT_get c1 (ent_plain e h c1 (fun z n q => ?_) fun q => ?_), c2, c3, c4⟩
    · rw [c3] at q
      cases q
    · rw [c3] at q
      cases q
      have z := c4.1
      simp at z
  · obtain ⟨m, o, b1, b2, b3, b4, b5, b6⟩ := e.bm
    refine ⟨m, o, b1, b2, fun q => ?_, fun q => ?_, hidT_get b3 (ent_plain e h b3 (fun z n q => ?_) fun q => ?_), b4, b5, b6⟩
    · rw [q, hg1] at b3
      cases b3
      rw [hg2] at b6
      cases b6
    · rw [q, htp] at b3
      cases b3
      cases b6
    · rw [b6] at q
      cases q
    · rw [b6] at q
      cases q
  · rw [z, htp] at hg1
    cases hg1
    cases hg2
/-- the abstract heap at the call is there -/
theorem ent_ex (e : Ent F.K mg s cs a us ns) : ∃ H, EntH e H := by
  have rv := vals_ints e.isc
  cases hk : F.K.lookup a with
  | some o =>
    have z := e.kin a o hk
    rw [e.scr] at z
    cases z
    refine ⟨entH cs none, fun b hb => if_pos hb, fun b o q => ?_, fun L => ⟨a, rfl, .inr ⟨_, us.toArray, _, hk, rfl, rfl, rfl, ?_, rv⟩⟩⟩
    · rcases Classical.em (b ∈ cs.map (·.2)) with hb | hb
      · exact .inl ⟨hb, (Option.some.inj ((if_pos hb).symm.trans q)).symm⟩
      · have z := (if_neg hb).symm.trans q
        cases z
    · rw [List.size_toArray, ← rv.length, List.length_map]
      exact e.len
  | none =>
    refine ⟨entH cs (some (a, .frz { cls := .type "list", data := .seq us.toArray } (.lst (ns.map V.int)))), fun b hb => ?_, fun b o q => ?_, fun L => ⟨a, rfl, .inl ⟨_, if_pos rfl⟩⟩⟩
    · refine (if_neg (fun z => ?_)).trans (if_pos hb)
      rw [z] at hb
      exact e.out hb
    · by_cases hb : b = a
      · subst hb
        exact .inr ⟨rfl, hk, (Option.some.inj ((if_pos rfl).symm.trans q)).symm⟩
      · have z := (if_neg hb).symm.trans q
        rcases Classical.em (b ∈ cs.map (·.2)) with hb2 | hb2
        · exact .inl ⟨hb2, (Option.some.inj ((if_pos hb2).symm.trans z)).symm⟩
        · have z2 := (if_neg hb2).symm.trans z
          cases z2
/-- THE CALL: the law's promise gives its end -/
theorem ent_call {k : Nat} {fa : Addr} {fd : FuncData} {x : Str} {den : DenF} (e : Ent F.K mg s cs a us ns) (hr : Room k callerA) (hT : ∀ y ∈ F.T, y.1 ∈ cs.map (·.2)) (hb : ∀ (s : Shared) (u : Value), BindsTo s fd ⟨[u], []⟩ [(x, u)])
    (hF : ∀ base : Heap, F.K.In base → base.Ns mainGlobals mg → (∀ p ∈ cs, LamX.TabB base mg p.1 p.2) → FnD P w F mg base k fa fd [x] den) (hden : ∃ M, den [.scr ns] [] = some (.val (.bl true), M)) :
    codeAny (model P w) callerA (.call (.ref fa) ⟨[.ref a], []⟩) (fun r s' => r = .ok (.ret (.bool true)) ∧ OldK s.heap s'.heap ∧ s'.os = s.os ∧ PyProof.Rows.AllBare s'.gens) s := by
  obtain ⟨H, h⟩ := ent_ex e
  obtain ⟨M, hM⟩ := hden
  obtain ⟨mb, hb1, hb2⟩ := e.blt
  obtain ⟨ml, hl1, hl2⟩ := id e.lim
  have md : L2.Mod F.K mg (hidT s.heap H) := ⟨ent_k e h, ent_ns e h e.glob, ⟨mb, ent_ns e h hb1, hb2⟩, ⟨ml, ent_ns e h hl1, hl2⟩⟩
  have e0 : Env0 P w F.K mg (hidT s.heap H) callerA [] s H := by
    refine ⟨rfl, md, fun b o z => of_hidT z, Nat.le_of_eq (hidT_size _ _), trivial, fun b z => ?_, ent_ok e h, .of_eq e.gens⟩
    exact absurd (show b ∈ ([] : List Addr) from z) (by simp)
  have sp : spD F den [.ref a] H (fun v _ => v = .bl true) fun _ _ _ => False := by
    refine ⟨[], [], [.scr ns], ⟨rfl, List.nodup_nil, fun n b o z => by simp at z, fun y hy => LamX.TabS.nil (h.tb _ (hT y hy))⟩, ⟨.ref a, [], rfl, h.rep [], rfl⟩, ?_⟩
    rw [hM]
    exact fun L' H' v _ _ rv => rv
  refine codeAny_mono ((hF _ (ent_k e h) (ent_ns e h e.glob) (ent_tb e h)).run callerA [] s H ⟨[.ref a], []⟩ [.ref a] [.ref a] _ _ hr rfl e0 (hb s (.ref a)) (.cons rfl .nil) rfl sp) fun r s' q => ?_
  cases r with
  | error y =>
    obtain ⟨_, _, _, _, _, _, _, _, _, _, _, _, z⟩ := q
    exact z.elim
  | ok fl =>
    cases fl with
    | next => exact (show False from q).elim
    | brk => exact (show False from q).elim
    | cont => exact (show False from q).elim
    | ret u =>
      obtain ⟨v, H', ho, hba, un, hok', rv, hv⟩ := q
      have hv' : v = .bl true := hv
      subst hv'
      obtain rfl : u = Value.bool true := rv
      have same : ∀ b o, b ∉ cs.map (·.2) → s.heap.get? b = some o → s'.heap.get? b = some o := fun b o nb z => by
        cases q2 : H b with
        | none => exact un.keep b o z q2 (by intro y; exact absurd (show b ∈ ([] : List Addr) from y) (by simp)) (by simp)
        | some u2 =>
          rcases h.known b u2 q2 with ⟨h1, _⟩ | ⟨rfl, _, rfl⟩
          · exact absurd h1 nb
          · rw [e.scr] at z
            cases z
            exact (hok' _ _ (un.frzs _ _ _ q2)).1
      have more : ∀ b ∈ cs.map (·.2), ∃ m : Array Value, s'.heap.get? b = some { cls := .none, data := .fields m } := fun b hb => by
        obtain ⟨m, z⟩ := un.tbls b #[] (h.tb b hb)
        exact ⟨_, hok' b _ z⟩
      refine ⟨rfl, ⟨fun b o z => ?_, fun b o z => ?_⟩, ho, hba⟩
      · by_cases hb3 : b ∈ cs.map (·.2)
        · obtain ⟨m, hm⟩ := more b hb3
          obtain ⟨y, y1, y2⟩ := List.mem_map.mp hb3
          subst y2
          rw [e.tab y y1] at z
          cases z
          exact .inr (.inl ⟨((e.code y y1).tab (e.tab y y1)).isCodeTable, rfl, #[], m, rfl, by rw [Array.empty_append]; exact hm⟩)
        · exact .inl (same b o hb3 z)
      · by_cases hb3 : b ∈ cs.map (·.2)
        · obtain ⟨m, hm⟩ := more b hb3
          exact ⟨_, hm⟩
        · exact ⟨o, same b o hb3 z⟩
end
end DL
namespace DL
open PySem L2
section
variable {F : Fx} {X : Cx} {W : WX} {k : Nat}
abbrev DenO := DL.Env → Store → RD (Option Int)
def noneO : DenO := fun _ M => ok none M
def someO (da : DenE) : DenO := fun e M => bindE (da e M) fun d M1 => match d with
  | .int i => ok (some i) M1
  | _ => none
theorem do_no : DO F X W none noneO := do_none
theorem do_so {x : Expr} {da : DenE} (ha : DE F X W x da) : DO F X W (some x) (someO da) := do_some ha
def slD (da : DenE) (dl dh dt : DenO) : DenE := fun e M => bindE (da e M) fun d M1 => bindE (dl e M1) fun l M2 => bindE (dh e M2) fun h M3 => bindE (dt e M3) fun t M4 => slcF d l h t M4
theorem de_sl {x : Expr} {lo hi st : Option Expr} {da : DenE} {dl dh dt : DenO} {pos p2 : Pos} (ha : DE F X W x da) (hl : DO F X W lo dl) (hh : DO F X W hi dh) (ht : DO F X W st dt) (hK : X.K = F.K := by rfl) : DE F X W (.Subscript x (.Slice lo hi st p2) pos) (slD da dl dh dt) := de_slice3 ha hl hh ht hK
def tstD (da : DenE) : DenE := fun e M => bindE (da e M) asT
theorem dt_v {x : Expr} {da : DenE} (ha : DE F X W x da) (hK : X.K = F.K := by rfl) (he : ∀ whole, isTrue x X.env whole = (do let v ← whole; standAt x.pos; holding [v] (truthy v)) := by intro _; rfl) : DT F X W x (tstD da) := dt_val hK ha he
def empD : DenE := fun _ M => ok .emp M
theorem de_emp {pos : Pos} : DE F X W (.Dict [] [] pos) empD := by
  refine ⟨_, pe_dnewK, fun e M L σ H Q sr p => fun p' hp => ?_⟩
  have s : Stp L H L (upd H p' (.dK [])) := Stp.alloc hp
  exact p L _ (.ref p') s (sr.stay s (sr.m.alloc hp)) ⟨p', rfl, upd_same, fresh_out sr.m hp⟩
def wlS (fuel : DL.Env → Store → Nat) (dt : DenE) (db : DenS) : DenS := fun e M => whileS dt db (fuel e M) e M
theorem ds_wl {c : Expr} {body : List Stmt} {dt : DenE} {db : DenS} {pos : Pos} (fuel : DL.Env → Store → Nat) (d : Dc X W k) (hc : DT F X W c dt) (hb : DSs F X W body db) : DS F X W (.While c body [] pos) (wlS fuel dt db) := ds_while fuel d hc hb
end
end DL
namespace DL
open PySem L2 PyProof.Rows
/-- what is known at the head's heap of the law's def at fa -/
def DEnd (P : Program) (w : World) (K : PySem.W.Frag) (q : Program) (k n : Nat) (x : Str) (mg : Str → Option Value) (fa : Addr) : Prop :=
  ∃ (F : Fx) (fd : FuncData) (xs : List (Str × Addr × Addr)) (den : DenF), F.K = K ∧
    (∀ y ∈ xs, (∃ d, (recsOf q).find? (fun e => e.name == y.1) = some d) ∧ PySem.W.tabIn K y.1 = some y.2 ∧ K.lookup y.2.2 = none) ∧
    (∀ y ∈ F.T, y.1 ∈ (xs.map (·.2)).map (·.2)) ∧ (∀ (s : Shared) (u : Value), BindsTo s fd ⟨[u], []⟩ [(x, u)]) ∧
    (∀ base : Heap, F.K.In base → base.Ns mainGlobals mg → (∀ p ∈ xs.map (·.2), LamX.TabB base mg p.1 p.2) → FnD P w F mg base k fa fd [x] den) ∧
    ∀ ns : List Int, ns.length ≤ n → (∀ z ∈ ns, Builtin.Int.intBits z ≤ 1048576) → ∃ M, den [.scr ns] [] = some (.val (.bl true), M)
end DL
namespace DL
open PySem L2
mutual
/-- no list's number from n on -/
def nlD (n : Nat) : D → Bool
  | .loc k => decide (k < n)
  | .tup ds => nlDs n ds
  | .lst ds => nlDs n ds
  | .exc _ fs => nlF n fs
  | .clo _ _ _ _ _ ds => nlDs n ds
  | _ => true
def nlDs (n : Nat) : List D → Bool
  | [] => true
  | d :: ds => nlD n d && nlDs n ds
def nlF (n : Nat) : List (Str × D) → Bool
  | [] => true
  | (_, d) :: fs => nlD n d && nlF n fs
end
def nlOb (n : Nat) : Ob → Bool
  | .lst ds => nlDs n ds
  | .dk _ kvs => nlDs n (kvs.map (·.2))
  | .dt _ kvs => nlDs n (kvs.map (·.2))
section
variable {F : Fx} {L N : List Addr} {H : Hp}
mutual
theorem Rep.cut : ∀ (d : D) (v : V), nlD L.length d = true → Rep F (L ++ N) H d v → Rep F L H d v
  | .non, _, _, h => h
  | .bl _, _, _, h => h
  | .int _, _, _, h => h
  | .str _, _, _, h => h
  | .ty _, _, _, h => h
  | .cls _, _, _, h => h
  | .ktp _, _, _, h => h
  | .scr _, _, _, h => h
  | .emp, _, _, ⟨a, e, h, n⟩ => ⟨a, e, h, fun z => n (List.mem_append_left _ z)⟩
  | .tup ds, _, q, ⟨a, vs, e, h, r⟩ => ⟨a, vs, e, h, Reps.cut ds vs q r⟩
  | .lst ds, _, q, ⟨a, vs, e, ⟨h, n⟩, r⟩ => ⟨a, vs, e, ⟨h, fun z => n (List.mem_append_left _ z)⟩, Reps.cut ds vs q r⟩
  | .loc k, _, q, ⟨a, e, h⟩ => ⟨a, e, by
    have lt : k < L.length := of_decide_eq_true q
    rwa [List.getElem?_append_left lt] at h⟩
  | .clo f c q σd is ds, _, z, ⟨h1, vs, h2, h3⟩ => ⟨h1, vs, h2, Reps.cut ds vs z h3⟩
  | .exc c fs, _, q, ⟨a, C, dd, e, h1, h2, h3, h4⟩ => by
    refine ⟨a, C, dd, e, h1, h2, fun z => h3 (List.mem_append_left _ z), ?_⟩
    cases dd with
    | none => exact h4
    | some x =>
      obtain ⟨ws, k1, k2, k3⟩ := h4
      exact ⟨ws, k1, fun z => k2 (List.mem_append_left _ z), RepF.cut fs ws q k3⟩
theorem Reps.cut : ∀ (ds : List D) (vs : List V), nlDs L.length ds = true → Reps F (L ++ N) H ds vs → Reps F L H ds vs
  | [], _, _, h => h
  | d :: ds, _, q, ⟨v, r, e, h1, h2⟩ => by
    have q' : (nlD L.length d && nlDs L.length ds) = true := q
    rw [Bool.and_eq_true] at q'
    exact ⟨v, r, e, Rep.cut d v q'.1 h1, Reps.cut ds r q'.2 h2⟩
theorem RepF.cut : ∀ (fs : List (Str × D)) (ws : List (Str × V)), nlF L.length fs = true → RepF F (L ++ N) H fs ws → RepF F L H fs ws
  | [], _, _, h => h
  | (f, d) :: fs, _, q, ⟨v, r, e, h1, h2⟩ => by
    have q' : (nlD L.length d && nlF L.length fs) = true := q
    rw [Bool.and_eq_true] at q'
    exact ⟨v, r, e, Rep.cut d v q'.1 h1, RepF.cut fs r q'.2 h2⟩
end
mutual
theorem Rep.nl : ∀ (d : D) (v : V), Rep F L H d v → nlD L.length d = true
  | .non, _, _ => rfl
  | .bl _, _, _ => rfl
  | .int _, _, _ => rfl
  | .str _, _, _ => rfl
  | .ty _, _, _ => rfl
  | .cls _, _, _ => rfl
  | .ktp _, _, _ => rfl
  | .scr _, _, _ => rfl
  | .emp, _, _ => rfl
  | .tup ds, _, ⟨_, vs, _, _, r⟩ => Reps.nl ds vs r
  | .lst ds, _, ⟨_, vs, _, _, r⟩ => Reps.nl ds vs r
  | .loc k, _, ⟨a, _, h⟩ => decide_eq_true (by
    rcases Nat.lt_or_ge k L.length with z | z
    · exact z
    · rw [List.getElem?_eq_none z] at h
      cases h)
  | .clo f c q σd is ds, _, ⟨_, vs, _, h⟩ => Reps.nl ds vs h
  | .exc c fs, _, ⟨_, _, dd, _, _, _, _, h4⟩ => by
    cases dd with
    | none =>
      have e : fs = [] := h4
      rw [e]
      rfl
    | some x =>
      obtain ⟨ws, _, _, k3⟩ := h4
      exact RepF.nl fs ws k3
theorem Reps.nl : ∀ (ds : List D) (vs : List V), Reps F L H ds vs → nlDs L.length ds = true
  | [], _, _ => rfl
  | d :: ds, _, ⟨v, r, _, h1, h2⟩ => by
    show (nlD L.length d && nlDs L.length ds) = true
    rw [Rep.nl d v h1, Reps.nl ds r h2]
    rfl
theorem RepF.nl : ∀ (fs : List (Str × D)) (ws : List (Str × V)), RepF F L H fs ws → nlF L.length fs = true
  | [], _, _ => rfl
  | (f, d) :: fs, _, ⟨v, r, _, h1, h2⟩ => by
    show (nlD L.length d && nlF L.length fs) = true
    rw [Rep.nl d v h1, RepF.nl fs r h2]
    rfl
end
theorem RepP.cut {κ : Type} : ∀ (kvs : List (κ × D)) (vs : List (κ × V)), nlDs L.length (kvs.map (·.2)) = true → RepP F (L ++ N) H kvs vs → RepP F L H kvs vs
  | [], _, _, h => h
  | (k, d) :: kvs, _, q, ⟨v, r, e, h1, h2⟩ => by
    have q' : (nlD L.length d && nlDs L.length (kvs.map (·.2))) = true := q
    rw [Bool.and_eq_true] at q'
    exact ⟨v, r, e, Rep.cut d v q'.1 h1, RepP.cut kvs r q'.2 h2⟩
theorem RepP.nl {κ : Type} : ∀ (kvs : List (κ × D)) (vs : List (κ × V)), RepP F L H kvs vs → nlDs L.length (kvs.map (·.2)) = true
  | [], _, _ => rfl
  | (k, d) :: kvs, _, ⟨v, r, _, h1, h2⟩ => by
    show (nlD L.length d && nlDs L.length (kvs.map (·.2))) = true
    rw [Rep.nl d v h1, RepP.nl kvs r h2]
    rfl
/-- behind the call the first lists are as before, or know none of the later ones -/
def CutOk (M M' : Store) : Prop := M.length ≤ M'.length ∧ ∀ (n : Nat) (ob : Ob), n < M.length → M'[n]? = some ob → M[n]? = some ob ∨ nlOb M.length ob = true
/-- a told value: none of the later lists, or one of these, as it is now -/
def cutD (n : Nat) (M' : Store) : D → Option D
  | .loc k => if k < n then some (.loc k) else match M'[k]? with
    | some (.lst ds) => if nlDs n ds = true then some (.lst ds) else none
    | _ => none
  | d => if nlD n d = true then some d else none
open Classical in
noncomputable def cutR (M : Store) : RE → RE
  | some (.val d, M') => if CutOk M M' then (match cutD M.length M' d with
    | some d' => some (.val d', M'.take M.length)
    | _ => none) else none
  | some (.exc c fs, M') => if CutOk M M' ∧ nlF M.length fs = true then some (.exc c fs, M'.take M.length) else none
  | _ => none
noncomputable def cutF (den : DenF) : DenF := fun ds M => cutR M (den ds M)
theorem SM.cut {M M' : Store} {L0 : List Addr} {H0 : Hp} (m0 : SM F L H0 M) (m : SM F (L ++ N) H M') (c : CutOk M M') : SM F L H (M'.take M.length) := by
  have hl := m0.len
  refine ⟨?_, (List.nodup_append.mp m.nd).1, fun n a ob h1 h2 => ?_, m.tbs⟩
  · rw [List.length_take, hl]
    exact (Nat.min_eq_left c.1).symm
  · have lt : n < L.length := by
      rcases Nat.lt_or_ge n L.length with z | z
      · exact z
      · rw [List.getElem?_eq_none z] at h1
        cases h1
    have h1' : (L ++ N)[n]? = some a := by rw [List.getElem?_append_left lt]; exact h1
    have h2' : M'[n]? = some ob := by
      rw [List.getElem?_take] at h2
      split at h2
      · exact h2
      · cases h2
    have r := m.obs n a ob h1' h2'
    have q : nlOb L.length ob = true := by
      rcases c.2 n ob (by rw [← hl]; exact lt) h2' with z | z
      · have r0 := m0.obs n a ob h1 z
        cases ob with
        | lst ds =>
          obtain ⟨vs, _, k⟩ := r0
          exact Reps.nl ds vs k
        | dk l ds =>
          obtain ⟨vs, _, k⟩ := r0
          exact RepP.nl ds vs k
        | dt l ds =>
          obtain ⟨vs, _, k⟩ := r0
          exact RepP.nl ds vs k
      · rw [hl]
        exact z
    cases ob with
    | lst ds =>
      obtain ⟨vs, k1, k2⟩ := r
      exact ⟨vs, k1, Reps.cut ds vs q k2⟩
    | dk l ds =>
      obtain ⟨vs, k1, k2⟩ := r
      exact ⟨vs, k1, RepP.cut ds vs q k2⟩
    | dt l ds =>
      obtain ⟨vs, k1, k2⟩ := r
      exact ⟨vs, k1, RepP.cut ds vs q k2⟩
theorem Rep.cutD {M M' : Store} {d d' : D} {v : V} (hl : L.length = M.length) (m : SM F (L ++ N) H M') (h : cutD M.length M' d = some d') (r : Rep F (L ++ N) H d v) : Rep F L H d' v := by
  have gen : (if nlD M.length d = true then some d else none) = some d' → Rep F L H d' v := fun h => by
    split at h
    · rename_i q
      cases h
      rw [← hl] at q
      exact Rep.cut d v q r
    · cases h
  cases d with
  | loc k =>
    unfold DL.cutD at h
    simp only at h
    split at h
    · rename_i lt
      cases h
      obtain ⟨a, e, z⟩ := r
      rw [← hl] at lt
      rw [List.getElem?_append_left lt] at z
      exact ⟨a, e, z⟩
    · rename_i ge
      split at h
      · rename_i ds hm
        split at h
        · rename_i q
          cases h
          obtain ⟨a, e, z⟩ := r
          obtain ⟨vs, k1, k2⟩ := m.obs k a _ z hm
          rw [← hl] at q ge
          refine ⟨a, vs, e, ⟨k1, fun ha => ?_⟩, Reps.cut ds vs q k2⟩
          rw [List.getElem?_append_right (by omega)] at z
          exact (List.nodup_append.mp m.nd).2.2 a ha a (List.mem_of_getElem? z) rfl
        · cases h
      · cases h
  | non => exact gen h
  | bl b => exact gen h
  | int i => exact gen h
  | str x => exact gen h
  | tup es => exact gen h
  | lst es => exact gen h
  | scr ns => exact gen h
  | emp => exact gen h
  | exc c fs => exact gen h
  | ty n => exact gen h
  | cls n => exact gen h
  | clo f c q σd is ds => exact gen h
  | ktp ns => exact gen h
theorem ExR.cut {c : String} {fs : List (Str × D)} {cls : Value} {dd : Option Addr} (q : nlF L.length fs = true) (h : ExR F (L ++ N) H c fs cls dd) : ExR F L H c fs cls dd := by
  obtain ⟨C, h1, h2, h3⟩ := h
  refine ⟨C, h1, h2, ?_⟩
  cases dd with
  | none => exact h3
  | some x =>
    obtain ⟨ws, k1, k2, k3⟩ := h3
    exact ⟨ws, k1, fun z => k2 (List.mem_append_left _ z), RepF.cut fs ws q k3⟩
theorem Stp.cut {L1 : List Addr} {H1 : Hp} (s : Stp L H L1 H1) : Stp L H L H1 := ⟨s.ext, ⟨[], (List.append_nil L).symm, fun x hx => absurd hx (by simp)⟩, s.dom, s.frz⟩
theorem FnD.cut {P : Program} {w : World} {mg : Str → Option Value} {base : Heap} {k : Nat} {f : Addr} {fd : FuncData} {ps : List Str} {den : DenF} (h : FnD P w F mg base k f fd ps den) : FnD P w F mg base k f fd ps (cutF den) := by
  refine ⟨fun A outer s H args us vs Q E hr hg e0 hb hv hl sp => h.run A outer s H args us vs Q E hr hg e0 hb hv hl ?_⟩
  obtain ⟨L, M, ds, m, r, p⟩ := sp
  refine ⟨L, M, ds, m, r, ?_⟩
  unfold cutF cutR at p
  cases hd : den ds M with
  | none => rw [hd] at p; exact p
  | some y =>
    rw [hd] at p
    obtain ⟨o, M'⟩ := y
    cases o with
    | val d =>
      intro L' H' v s1 m1 rv
      obtain ⟨N, e, _⟩ := s1.new
      subst e
      simp only at p
      split at p
      · rename_i c
        split at p
        · rename_i d' hd'
          exact p L H' v s1.cut (SM.cut (L0 := L) m m1 c) (Rep.cutD m.len m1 hd' rv)
        · exact False.elim p
      · exact False.elim p
    | exc c fs =>
      intro L' H' cls dd s1 m1 rx
      obtain ⟨N, e, _⟩ := s1.new
      subst e
      simp only at p
      split at p
      · rename_i c
        exact p L H' cls dd s1.cut (SM.cut (L0 := L) m m1 c.1) (ExR.cut (by rw [m.len]; exact c.2) rx)
      · exact False.elim p
end
theorem cutOk_app {M M1 X : Store} (hl : M1.length = M.length) (h : ∀ (n : Nat) (ob : Ob), n < M.length → M1[n]? = some ob → M[n]? = some ob ∨ nlOb M.length ob = true) : CutOk M (M1 ++ X) := by
  refine ⟨by rw [List.length_append]; omega, fun n ob lt e => ?_⟩
  rw [List.getElem?_append_left (by omega)] at e
  exact h n ob lt e
theorem cut_val {den : DenF} {ds : List D} {d d' : D} {M X : Store} (h : den ds M = ok d (M ++ X)) (hd : cutD M.length (M ++ X) d = some d') : cutF den ds M = ok d' M := by
  unfold cutF
  rw [h]
  show cutR M (some (.val d, M ++ X)) = _
  unfold cutR
  simp only
  rw [if_pos (cutOk_app rfl fun n ob _ e => .inl e), hd]
  show some (Out.val d', (M ++ X).take M.length) = _
  rw [List.take_left']
  · rfl
  · rfl
theorem cut_exc {den : DenF} {ds : List D} {c : String} {fs : List (Str × D)} {M X : Store} (h : den ds M = some (.exc c fs, M ++ X)) (hf : nlF M.length fs = true) : cutF den ds M = some (.exc c fs, M) := by
  unfold cutF
  rw [h]
  unfold cutR
  simp only
  rw [if_pos ⟨cutOk_app rfl fun n ob _ e => .inl e, hf⟩, List.take_left']
  rfl
/-- the first lists changed, too -/
theorem cut_val2 {den : DenF} {ds : List D} {d d' : D} {M M1 X : Store} (h : den ds M = ok d (M1 ++ X)) (hl : M1.length = M.length) (hc : ∀ (n : Nat) (ob : Ob), n < M.length → M1[n]? = some ob → M[n]? = some ob ∨ nlOb M.length ob = true) (hd : cutD M.length (M1 ++ X) d = some d') : cutF den ds M = ok d' M1 := by
  unfold cutF
  rw [h]
  show cutR M (some (.val d, M1 ++ X)) = _
  unfold cutR
  simp only
  rw [if_pos (cutOk_app hl hc), hd]
  show some (Out.val d', (M1 ++ X).take M.length) = _
  rw [List.take_left']
  · rfl
  · exact hl
end DL
namespace DL
open PySem L2
section
variable {F : Fx} {X : Cx} {W : WX} {L L1 : List Addr} {H H1 : Hp} {M : Store} {e : DL.Env} {σ : L2.St} {T : Ends} {k : Nat}
/-- a tuple or a list -/
def iSq (K : PySem.W.Frag) (tl : TE) : TI := fun σ H R => tl σ H fun x H1 => ∃ a, x = .ref a ∧ (((∃ xs, SqL K H1 a xs) ∧ R (Itl K a) H1) ∨ ((∃ xs, SqT K H1 a xs) ∧ R (Itt K a) H1))
theorem pi_sq {tg l : Expr} {tl : TE} (hl : PE X l tl) : PI X tg l (iSq X.K tl) := by
  refine ⟨fun pns s σ H R I h => ?_⟩
  refine thn (hl.run pns s σ H _ I h) fun v s1 hh => ?_
  obtain ⟨x, H2, I1, r1, a, ex, q⟩ := hh
  subst ex
  cases r1
  rcases q with ⟨⟨xs, hq⟩, q⟩ | ⟨⟨xs, hq⟩, q⟩
  · obtain ⟨its, rv, p, hz⟩ := I1.list hq
    apply wpAny_pyIter_list p.isList
    refine ⟨s1.heap.objs.size, [s1.heap.objs.size], _, _, H2, rfl, I1.kept (t' := s1.toks) fun b o z => Heap.get?_push_of_some _ z, turn_list a _, ⟨_, Heap.get?_push_size _ rfl, rfl, rfl⟩, fun b hb => ?_, q⟩
    obtain rfl : b = s1.heap.objs.size := by simpa using hb
    exact I1.fpOk Nat.le.refl (I1.hok.fresh Nat.le.refl)
  · obtain ⟨its, rv, p, hz⟩ := I1.tuple hq
    have pt : s1.heap.IsTuple a its.toArray := p
    apply wpAny_pyIter_tuple pt
    refine ⟨s1.heap.objs.size, [s1.heap.objs.size], _, _, H2, rfl, I1.kept (t' := s1.toks) fun b o z => Heap.get?_push_of_some _ z, turn_tuple a _, ⟨_, Heap.get?_push_size _ rfl, rfl, rfl⟩, fun b hb => ?_, q⟩
    obtain rfl : b = s1.heap.objs.size := by simpa using hb
    exact I1.fpOk Nat.le.refl (I1.hok.fresh Nat.le.refl)
/-- the iterator J goes through ds, as long as the store is as chk asks -/
structure Walk (F : Fx) (L1 : List Addr) (H1 : Hp) (J : It) (ds : List D) (chk : Store → Prop) : Prop where
  stop : ∀ (L' : List Addr) (H' : Hp) (M' : Store), Stp L1 H1 L' H' → SM F L' H' M' → chk M' → J.stop ds.length H'
  step : ∀ (i : Nat) (d : D), ds[i]? = some d → ∀ (L' : List Addr) (H' : Hp) (M' : Store), Stp L1 H1 L' H' → SM F L' H' M' → chk M' → J.go i H' ∧ ∀ (x : V) (H'' : Hp), J.yld i H' x H'' → Stp L' H' L' H'' ∧ SM F L' H'' M' ∧ Rep F L' H'' d x
abbrev DItems := List D × (Store → Prop)
abbrev DenI := DL.Env → Store → RD DItems
def DI (F : Fx) (X : Cx) (W : WX) (tg it : Expr) (den : DenI) : Prop :=
  ∃ wi, PI X tg it wi ∧ ∀ (e : DL.Env) (M : Store) (L : List Addr) (σ : L2.St) (H : Hp) (R : It → Hp → Prop), SR F L H M e σ → PostG F (fun L' H' (p : DItems) (J : It) => Walk F L' H' J p.1 p.2) e L H σ W R (den e M) → wi σ H R
/-- the items of what is gone through -/
def itemsF (d : D) (M : Store) : RD DItems := match d with
  | .tup ds => ok (ds, fun _ => True) M
  | .lst ds => ok (ds, fun _ => True) M
  | .scr ns => ok (ns.map D.int, fun _ => True) M
  | .ktp ns => ok (ns.map D.int, fun _ => True) M
  | .loc n => match M[n]? with
    | some (.lst ds) => ok (ds, fun M' => M'[n]? = some (.lst ds)) M
    | _ => none
  | _ => none
def itD (da : DenE) : DenI := fun e M => bindE (da e M) itemsF
theorem walk_at {a : Addr} {vs : List V} {ds : List D} {chk : Store → Prop} (m : SM F L H M) (r : Reps F L H ds vs) (h : ∀ (L' : List Addr) (H' : Hp) (M' : Store), Stp L H L' H' → SM F L' H' M' → chk M' → ∃ ws, SqL F.K H' a ws ∧ Reps F L' H' ds ws) : Walk F L H (Itl F.K a) ds chk := by
  refine ⟨fun L' H' M' s m' c => ?_, fun i d hd L' H' M' s m' c => ?_⟩
  · obtain ⟨ws, q, rr⟩ := h L' H' M' s m' c
    exact ⟨ws, q, Nat.le_of_eq (reps_len rr).symm⟩
  · obtain ⟨ws, q, rr⟩ := h L' H' M' s m' c
    obtain ⟨y, h1, h2⟩ := reps_get rr hd
    refine ⟨⟨ws, y, q, h1⟩, fun x H'' hy => ?_⟩
    obtain ⟨rfl, z⟩ := hy
    have e := z ws q
    rw [h1] at e
    cases e
    exact ⟨Stp.refl _ _, m', h2⟩
theorem walk_tup {a : Addr} {vs : List V} {ds : List D} {chk : Store → Prop} (m : SM F L H M) (q0 : SqT F.K H a vs) (r : Reps F L H ds vs) : Walk F L H (Itt F.K a) ds chk := by
  refine ⟨fun L' H' M' s m' c => ?_, fun i d hd L' H' M' s m' c => ?_⟩
  · exact ⟨vs, sqt_stay m s q0, Nat.le_of_eq (reps_len r).symm⟩
  · obtain ⟨y, h1, h2⟩ := reps_get r hd
    refine ⟨⟨vs, y, sqt_stay m s q0, h1⟩, fun x H'' hy => ?_⟩
    obtain ⟨rfl, z⟩ := hy
    have e := z vs (sqt_stay m s q0)
    rw [h1] at e
    cases e
    exact ⟨Stp.refl _ _, m', Rep.stay m s _ _ h2⟩
theorem di_sq {tg l : Expr} {da : DenE} (ha : DE F X W l da) (hK : X.K = F.K := by rfl) : DI F X W tg l (itD da) := by
  obtain ⟨t, p, q⟩ := ha
  refine ⟨_, pi_sq p, fun e M L σ H R sr pp => q e M L σ H _ sr (PostG.bind (fun d M1 L1 H1 v s1 r1 rv p2 => ?_) pp)⟩
  rw [hK]
  cases d with
  | tup ds =>
    obtain ⟨a, vs, rfl, a2, a3⟩ := rv
    have a2 := (Or.inl (Or.inl a2) : SqT F.K H1 a vs)
    exact ⟨a, rfl, .inr ⟨⟨vs, a2⟩, p2.ok r1 (walk_tup r1.m a2 a3)⟩⟩
  | lst ds =>
    obtain ⟨a, vs, rfl, a2, a3⟩ := rv
    refine ⟨a, rfl, .inl ⟨⟨vs, (LstAt.sq (L := L1) (.inl a2))⟩, p2.ok r1 (walk_at r1.m a3 fun L' H' M' s m' _ => ⟨vs, (LstAt.stay r1.m s (.inl a2)).sq, Reps.stay r1.m s _ _ a3⟩)⟩⟩
  | scr ns =>
    obtain ⟨a, rfl, a2⟩ := rv
    have a3 : LstAt F.K L1 H1 a (ns.map V.int) := .inr a2
    exact ⟨a, rfl, .inl ⟨⟨_, a3.sq⟩, p2.ok r1 (walk_at r1.m (reps_ints ns) fun L' H' M' s m' _ => ⟨_, (LstAt.stay r1.m s a3).sq, reps_ints ns⟩)⟩⟩
  | loc n =>
    obtain ⟨a, rfl, a2⟩ := rv
    unfold itemsF at p2
    simp only at p2
    split at p2
    · rename_i ds hm
      obtain ⟨vs, k1, k2⟩ := r1.m.obs n a _ a2 hm
      refine ⟨a, rfl, .inl ⟨⟨vs, .inl (.inl k1)⟩, p2.ok r1 (walk_at r1.m k2 fun L' H' M' s m' c => ?_)⟩⟩
      obtain ⟨ws, j1, j2⟩ := m'.obs n a _ (s.get a2) c
      exact ⟨ws, .inl (.inl j1), j2⟩
    · exact False.elim p2
  | non => exact False.elim p2
  | bl b => exact False.elim p2
  | int i => exact False.elim p2
  | str x => exact False.elim p2
  | emp => exact False.elim p2
  | exc c fs => exact False.elim p2
  | ty n => exact False.elim p2
  | cls n => exact False.elim p2
  | clo f c q σd is ds => exact False.elim p2
  | ktp ns =>
    obtain ⟨a, rfl, a2⟩ := rv
    have a3 : SqT F.K H1 a (ns.map V.int) := .inr a2
    exact ⟨a, rfl, .inr ⟨⟨_, a3⟩, p2.ok r1 (walk_tup r1.m a3 (reps_ints ns))⟩⟩
end
end DL
namespace DL
open PySem L2
section
variable {F : Fx} {X : Cx} {W : WX} {L L1 : List Addr} {H H1 : Hp} {M : Store} {e : DL.Env} {σ : L2.St} {T : Ends} {k : Nat}
noncomputable def cutE (da : DenE) : DenE := fun e M => cutR M (da e M)
theorem SR.cut {M' : Store} {N : List Addr} (sr : SR F L H M e σ) (s : Stp L H (L ++ N) H1) (m : SM F (L ++ N) H1 M') (c : CutOk M M') : SR F L H1 (M'.take M.length) e σ :=
  sr.stay s.cut (SM.cut (L0 := L) sr.m m c)
theorem post_cut {Q : VK} {r : RE} (sr : SR F L H M e σ) (pp : Post F e L H σ W Q (cutR M r)) : Post F e L H σ W Q r := by
  unfold cutR at pp
  cases hd : r with
  | none => rw [hd] at pp; exact pp
  | some y =>
    rw [hd] at pp
    obtain ⟨o, M'⟩ := y
    cases o with
    | val d =>
      intro L' H' v s1 r1 rv
      obtain ⟨N, e1, _⟩ := s1.new
      subst e1
      simp only at pp
      split at pp
      · rename_i c
        split at pp
        · rename_i d' hd'
          exact pp L H' v s1.cut (SR.cut sr s1 r1.m c) (Rep.cutD sr.m.len r1.m hd' rv)
        · exact False.elim pp
      · exact False.elim pp
    | exc c fs =>
      intro L' H' cls dd s1 r1 rx
      obtain ⟨N, e1, _⟩ := s1.new
      subst e1
      simp only at pp
      split at pp
      · rename_i c
        exact pp L H' cls dd s1.cut (SR.cut sr s1 r1.m c.1) (ExR.cut (by rw [sr.m.len]; exact c.2) rx)
      · exact False.elim pp
theorem de_cut {x : Expr} {da : DenE} (ha : DE F X W x da) : DE F X W x (cutE da) := by
  obtain ⟨t, p, q⟩ := ha
  exact ⟨t, p, fun e M L σ H Q sr pp => q e M L σ H Q sr (post_cut sr pp)⟩
theorem cutE_val {da : DenE} {d d' : D} {M X : Store} (h : da e M = ok d (M ++ X)) (hd : cutD M.length (M ++ X) d = some d') : cutE da e M = ok d' M := cut_val (den := fun _ M => da e M) (ds := []) h hd
def canE (F : Fx) (W : WX) (da : DenE) : TE := fun σ H Q => ∃ (e : DL.Env) (M : Store) (L : List Addr), SR F L H M e σ ∧ Post F e L H σ W Q (da e M)
def canT (F : Fx) (W : WX) (da : DenE) : TT := fun σ H Q => ∃ (e : DL.Env) (M : Store) (L : List Addr), SR F L H M e σ ∧ Post F e L H σ W (fun v H' => ∃ b, v = .bl b ∧ Q b H') (da e M)
theorem DE.can {x : Expr} {da : DenE} (h : DE F X W x da) : PE X x (canE F W da) := by
  obtain ⟨t, p, q⟩ := h
  exact ⟨fun pins s σ H Q I hh => by
    obtain ⟨e, M, L, sr, pp⟩ := hh
    exact p.run pins s σ H Q I (q e M L σ H Q sr pp)⟩
theorem DT.can {x : Expr} {da : DenE} (h : DT F X W x da) : PT X x (canT F W da) := by
  obtain ⟨t, p, q⟩ := h
  exact ⟨fun pins s σ H Q I hh => by
    obtain ⟨e, M, L, sr, pp⟩ := hh
    exact p.run pins s σ H Q I (q e M L σ H Q sr pp)⟩
def wipeE (e : DL.Env) : List Nat → DL.Env
  | [] => e
  | v :: vs => (wipeE e vs).set v none
theorem wipeE_len (e : DL.Env) : ∀ vs : List Nat, (wipeE e vs).length = e.length
  | [] => rfl
  | v :: vs => by unfold wipeE; rw [List.length_set, wipeE_len e vs]
theorem EnvR.wipe (h : EnvR F L H e σ) : ∀ vs : List Nat, EnvR F L H (wipeE e vs) (wipe σ vs)
  | [] => h
  | v :: vs => fun i d q => by
    have ih := EnvR.wipe h vs
    unfold wipeE at q
    by_cases hi : v = i
    · subst hi
      by_cases lt : v < (wipeE e vs).length
      · rw [List.getElem?_set_self lt] at q
        cases q
      · rw [List.getElem?_eq_none (by simpa using lt)] at q
        cases q
    · rw [List.getElem?_set_ne hi] at q
      obtain ⟨v', a, b⟩ := ih i d q
      refine ⟨v', ?_, b⟩
      unfold L2.wipe
      rw [List.getElem?_set_ne hi]
      exact a
theorem SR.wipe (sr : SR F L H M e σ) (vs : List Nat) : SR F L H M (wipeE e vs) (L2.wipe σ vs) := ⟨by rw [L2.wipe_length, wipeE_len]; exact sr.l, sr.m, EnvR.wipe sr.e vs⟩
theorem wipe_set {σ : L2.St} {i : Nat} {x : Option V} : ∀ {vs : List Nat}, i ∈ vs → L2.wipe (σ.set i x) vs = L2.wipe σ vs
  | [], h => absurd h (by simp)
  | v :: vs, h => by
    unfold L2.wipe
    by_cases hv : i ∈ vs
    · rw [wipe_set hv]
    · have e : i = v := by
        rcases (List.mem_cons.mp h) with z | z
        · exact z
        · exact absurd z hv
      subst e
      have key : ∀ (us : List Nat), i ∉ us → L2.wipe (σ.set i x) us = (L2.wipe σ us).set i x := by
        intro us
        induction us with
        | nil => intro _; rfl
        | cons u us ih =>
          intro hu
          unfold L2.wipe
          rw [ih fun z => hu (List.mem_cons_of_mem _ z), List.set_comm]
          intro z
          exact hu (by rw [z]; exact List.mem_cons_self)
      rw [key vs hv, List.set_set]
end
end DL
namespace DL
open PySem L2
/-- what raises is nothing here -/
def bindV {α β : Type} (r : RD α) (f : α → Store → RD β) : RD β := match r with
  | some (.val d, M) => f d M
  | _ => none
open Classical in
noncomputable def compL (chk : Store → Prop) (set : D → DL.Env → Option DL.Env) (dt de : DenE) (e0 : DL.Env) (n0 : Nat) : List D → Store → RD Unit
  | [], M => if chk M then ok () M else none
  | d :: ds, M => if chk M then (match set d e0 with
    | some e1 => bindV (dt e1 M) fun b M2 => (match b with
      | .bl true => bindV (de e1 M2) fun y M3 => (match M3[n0]? with
        | some (.lst acc) => if acc.length < 100000 then compL chk set dt de e0 n0 ds (M3.set n0 (.lst (acc ++ [y]))) else none
        | _ => none)
      | .bl false => compL chk set dt de e0 n0 ds M2
      | _ => none)
    | none => none) else none
noncomputable def compD (set : D → DL.Env → Option DL.Env) (dt de : DenE) (vs : List Nat) (di : DenI) : DenE := fun e M => bindE (di e M) fun p M1 => bindE (compL p.2 set dt de (wipeE e vs) M1.length p.1 (M1 ++ [.lst []])) fun _ M2 => ok (.loc M1.length) M2
section
variable {F : Fx} {X : Cx} {W : WX} {L L1 : List Addr} {H H1 : Hp} {M : Store} {e : DL.Env} {σ : L2.St} {T : Ends} {k : Nat}
def TgOk (F : Fx) (vs : List Nat) (g : TG) (set : D → DL.Env → Option DL.Env) : Prop :=
  ∀ (d : D) (v : V) (e e' : DL.Env) (L : List Addr) (H : Hp) (M : Store) (σ : L2.St) (Q : L2.St → Hp → Prop), SR F L H M e σ → Rep F L H d v → set d e = some e' → (∀ σ', SR F L H M e' σ' → L2.wipe σ' vs = L2.wipe σ vs → Q σ' H) → g v σ H Q
def set1 (i : Nat) : D → DL.Env → Option DL.Env := fun d e => some (e.set i (some d))
def set2 (i j : Nat) : D → DL.Env → Option DL.Env := fun d e => match d with
  | .tup [a, b] => some ((e.set i (some a)).set j (some b))
  | _ => none
theorem tg1 {i : Nat} {vs : List Nat} (hi : i ∈ vs) : TgOk F vs (gName i) (set1 i) := fun d v e e' L H M σ Q sr rv hs q => by
  cases hs
  exact q _ (sr.set i rv) (wipe_set hi)
theorem tg2 {i j : Nat} {vs : List Nat} (hi : i ∈ vs) (hj : j ∈ vs) : TgOk F vs (gTup F.K 2 (gCons (gName i) (gCons (gName j) gNil))) (set2 i j) := fun d v e e' L H M σ Q sr rv hs q => by
  unfold set2 at hs
  split at hs
  · rename_i a b
    cases hs
    obtain ⟨p, vs', rfl, hq, r⟩ := rv
    have hl := reps_len r
    obtain ⟨v1, v2, rfl, r1, r2⟩ := reps2 r
    refine ⟨p, _, rfl, (.inl (.inl hq)), rfl, v1, [v2], rfl, v2, [], rfl, rfl, ?_⟩
    exact q _ ((sr.set i r1).set j r2) (by rw [wipe_set hj, wipe_set hi])
  · cases hs
theorem wipe_none {τ : L2.St} : ∀ us : List Nat, (∀ u ∈ us, ∀ x, τ[u]? ≠ some (some x)) → L2.wipe τ us = τ
  | [], _ => rfl
  | u :: us, h => by
    unfold L2.wipe
    rw [wipe_none us fun v hv => h v (List.mem_cons_of_mem _ hv)]
    have hu := h u List.mem_cons_self
    apply List.ext_getElem?
    intro j
    by_cases hj : u = j
    · subst hj
      by_cases lt : u < τ.length
      · rw [List.getElem?_set_self lt]
        cases q : τ[u]? with
        | none =>
          rw [List.getElem?_eq_none_iff] at q
          omega
        | some y =>
          cases y with
          | none => rfl
          | some x => exact absurd q (hu x)
      · rw [List.getElem?_eq_none (by rw [List.length_set]; omega), List.getElem?_eq_none (by omega)]
    · rw [List.getElem?_set_ne hj]
theorem wipe_idem (σ : L2.St) (vs : List Nat) : L2.wipe (L2.wipe σ vs) vs = L2.wipe σ vs := wipe_none vs fun u hu x q => (L2.wipe_some q).2 hu
abbrev W0 : WX := fun _ _ _ _ => False
theorem pts_yes : PTs X [] (canT F W0 (cD (.bl true))) := ⟨fun pins s σ H Q I h => by
  obtain ⟨e, M, L, sr, p⟩ := h
  obtain ⟨b, eb, q⟩ := p.ok (v := .bl true) sr (show Rep F L H (.bl true) (.bl true) from rfl)
  cases eb
  exact pts_nil.run pins s σ H Q I q⟩
theorem pts_if {c : Expr} {dt : DenE} (h : DT F X W0 c dt) : PTs X [c] (canT F W0 dt) := pts_one h.can
abbrev BX (X : Cx) (scope : Scope) (s : Shared) (H : Hp) (C : Addr) (cl : List (Str × Addr)) (fp : List Addr) : Cx := X.blk s H scope (compEnvC scope cl C X.env) fp
theorem Dc.blk {scope : Scope} {s : Shared} {C : Addr} {cl : List (Str × Addr)} {fp : List Addr} (d : Dc X W k) : Dc (BX X scope s H C cl fp) W0 k := ⟨LamX.takes0, d.room, d.calm, d.gd, PassesOwn.never⟩
theorem comp_t {wi : TI} {di : DenI} {g : TG} {vs : List Nat} {set : D → DL.Env → Option DL.Env} {dt de : DenE}
    (qi : ∀ (e : DL.Env) (M : Store) (L : List Addr) (σ : L2.St) (H : Hp) (R : It → Hp → Prop), SR F L H M e σ → PostG F (fun L' H' (p : DItems) (J : It) => Walk F L' H' J p.1 p.2) e L H σ W R (di e M) → wi σ H R) (hgo : TgOk F vs g set) :
    ∀ (e : DL.Env) (M : Store) (L : List Addr) (σ : L2.St) (H : Hp) (Q : VK), SR F L H M e σ → Post F e L H σ W Q (compD set dt de vs di e M) → tLc wi g (canT F W0 dt) (canE F W0 de) vs σ H Q := by
  refine fun e M L σ H Q sr pp => qi e M L σ H _ sr (PostG.bind (fun p M1 L1 H1 J s1 r1 w p2 => ?_) pp)
  intro A hA
  obtain ⟨mo, so⟩ := SM.own (F := F) (p := A) (ds := []) (vs := []) r1.m hA rfl
  have hn0 : (L1 ++ [A])[M1.length]? = some A := by
    rw [← r1.m.len, List.getElem?_append_right (Nat.le_refl _), Nat.sub_self]
    rfl
  let Inv' : Nat → Hp → Prop := fun i Hc => i ≤ p.1.length ∧ ∃ (L' : List Addr) (M' : Store), Stp (L1 ++ [A]) (upd H1 A (.lst [])) L' Hc ∧ SM F L' Hc M' ∧
    Post F e L' Hc σ W Q (bindE (compL p.2 set dt de (wipeE e vs) M1.length (p.1.drop i) M') fun _ M2 => ok (.loc M1.length) M2)
  refine ⟨fun i m Hc => m = p.1.length - i ∧ Inv' i Hc, ⟨_, rfl, Nat.zero_le _, _, _, Stp.refl _ _, mo, ?_⟩, ?_⟩
  · exact PostG.go so p2
  rintro i m Hc ⟨rfl, hi, L', M', s', m', pr⟩
  have s1' : Stp L1 H1 L' Hc := so.trans s'
  by_cases hlt : i < p.1.length
  · right
    have hd : p.1[i]? = some p.1[i] := List.getElem?_eq_getElem hlt
    rw [drop_cons hd] at pr
    unfold compL at pr
    split at pr
    · rename_i hc
      obtain ⟨hgo1, hy⟩ := w.step i _ hd L' Hc M' s1' m' hc
      refine ⟨hgo1, fun Hn => Inv' (i + 1) Hn, fun H' q => ⟨_, by omega, rfl, q⟩, fun x H' y => ?_⟩
      obtain ⟨sx, mx, rx⟩ := hy x H' y
      split at pr
      · rename_i e1 he1
        have srx : SR F L' H' M' e σ := r1.stay (s1'.trans sx) mx
        refine hgo _ x _ e1 L' H' M' _ _ (srx.wipe vs) rx he1 fun σ2 sr2 hw => ⟨hw.trans (wipe_idem σ vs), e1, M', L', sr2, ?_⟩
        cases hdt : dt e1 M' with
        | none => rw [hdt] at pr; exact False.elim pr
        | some yt =>
          rw [hdt] at pr
          obtain ⟨ot, M2⟩ := yt
          cases ot with
          | exc c fs => exact False.elim pr
          | val b =>
            intro L2 H2 vb sb rb rvb
            have pr2 : Post F e L' Hc σ W Q (bindE (match b with
              | .bl true => bindV (de e1 M2) fun y M3 => (match M3[M1.length]? with
                | some (.lst acc) => if acc.length < 100000 then compL p.2 set dt de (wipeE e vs) M1.length (p.1.drop (i + 1)) (M3.set M1.length (.lst (acc ++ [y]))) else none
                | _ => none)
              | .bl false => compL p.2 set dt de (wipeE e vs) M1.length (p.1.drop (i + 1)) M2
              | _ => none) fun _ M2 => ok (.loc M1.length) M2) := pr
            cases b with
            | bl bb =>
              cases bb with
              | false =>
                refine ⟨false, rvb, ?_⟩
                simp only [if_neg (fun z : false = true => Bool.noConfusion z)]
                exact ⟨hlt, L2, M2, (s'.trans sx).trans sb, rb.m, PostG.go (sx.trans sb) pr2⟩
              | true =>
                refine ⟨true, rvb, ?_⟩
                simp only [if_true]
                refine ⟨e1, M2, L2, rb, ?_⟩
                cases hde : de e1 M2 with
                | none => simp only [hde, bindV] at pr2; exact False.elim pr2
                | some ye =>
                  obtain ⟨oe, M3⟩ := ye
                  cases oe with
                  | exc c fs => simp only [hde, bindV] at pr2; exact False.elim pr2
                  | val y =>
                    simp only [hde, bindV] at pr2
                    intro L3 H3 vy sy ry rvy
                    have hA3 : L3[M1.length]? = some A := sy.get (sb.get (sx.get (s'.get hn0)))
                    split at pr2
                    · rename_i acc hacc
                      split at pr2
                      · rename_i hlen
                        obtain ⟨va, a1, a2⟩ := ry.m.obs _ A _ hA3 hacc
                        obtain ⟨mp, sp⟩ := SM.put ry.m hA3 a1 (reps_snoc a2 rvy)
                        refine ⟨va, a1, ?_, hlt, L3, _, (((s'.trans sx).trans sb).trans sy).trans sp, mp, PostG.go (((sx.trans sb).trans sy).trans sp) pr2⟩
                        rw [← reps_len a2]
                        exact Nat.lt_trans hlen (by decide)
                      · exact False.elim pr2
                    · exact False.elim pr2
            | non => exact False.elim pr2
            | int i => exact False.elim pr2
            | str x => exact False.elim pr2
            | tup es => exact False.elim pr2
            | lst es => exact False.elim pr2
            | scr ns => exact False.elim pr2
            | emp => exact False.elim pr2
            | loc n => exact False.elim pr2
            | exc c fs => exact False.elim pr2
            | ty n => exact False.elim pr2
            | cls n => exact False.elim pr2
            | clo f c q σd is ds => exact False.elim pr2
            | ktp ns => exact False.elim pr2
      · exact False.elim pr
    · exact False.elim pr
  · left
    have hz : i = p.1.length := by omega
    subst hz
    rw [List.drop_length] at pr
    unfold compL at pr
    split at pr
    · rename_i hc
      exact ⟨w.stop L' Hc M' s1' m' hc, pr L' Hc (.ref A) (Stp.refl _ _) (r1.stay s1' m') ⟨A, rfl, s'.get hn0⟩⟩
    · exact False.elim pr
theorem de_comp {elt tg iter : Expr} {ifs : List Expr} {scope : Scope} {own : List (Str × Nat)} {pos : Pos} {di : DenI} {g : TG} {set : D → DL.Env → Option DL.Env} {dt de : DenE} (d : Dc X W k) (hN : X.N.Nodup) (hi : DI F X W tg iter di) (bo : BlkOk X.N X.env.scope scope own)
    (hg : ∀ (s : Shared) (H : Hp) (C : Addr) (cl : List (Str × Addr)) (fp : List Addr), PG (BX X scope s H C cl fp) tg g) (hgo : TgOk F (own.map (·.2)) g set)
    (ht : ∀ (s : Shared) (H : Hp) (C : Addr) (cl : List (Str × Addr)) (fp : List Addr), Dc (BX X scope s H C cl fp) W0 k → PTs (BX X scope s H C cl fp) ifs (canT F W0 dt))
    (he : ∀ (s : Shared) (H : Hp) (C : Addr) (cl : List (Str × Addr)) (fp : List Addr), Dc (BX X scope s H C cl fp) W0 k → DE F (BX X scope s H C cl fp) W0 elt de) (hs : ∀ x, foldedSetIterable iter X.env x = pure x := by intro _; rfl) :
    DE F X W (.ListComp elt [⟨tg, iter, ifs, 0⟩] scope pos) (compD set dt de (own.map (·.2)) di) := by
  obtain ⟨wi, pi, qi⟩ := hi
  exact ⟨_, pe_lc d.calm hN pi bo hg (fun s H C cl fp => ht s H C cl fp d.blk) (fun s H C cl fp => (he s H C cl fp d.blk).can) hs, comp_t qi hgo⟩
end
end DL
namespace DL
open PySem L2
open Classical in
noncomputable def forIL (g : DenG) (chk : Store → Prop) (body : DenS) : List D → DenS
  | [], e, M => if chk M then some (.nx e, M) else none
  | d :: ds, e, M => if chk M then (match g d e M with
    | some (.nx e1, M1) => (match body e1 M1 with
      | some (.nx e', M') => forIL g chk body ds e' M'
      | some (.ct e', M') => forIL g chk body ds e' M'
      | some (.bk e', M') => some (.nx e', M')
      | r => r)
    | _ => none) else none
noncomputable def forI (g : DenG) (di : DenI) (body : DenS) : DenS := fun e M => thenS (di e M) e fun p M1 => forIL g p.2 body p.1 e M1
section
variable {F : Fx} {X : Cx} {W : WX} {L L1 : List Addr} {H H1 : Hp} {M : Store} {e : DL.Env} {σ : L2.St} {T : Ends} {k : Nat}
theorem ds_forI {tg it : Expr} {body : List Stmt} {di : DenI} {g : DenG} {db : DenS} {pos : Pos} (d : Dc X W k) (hi : DI F X W tg it di) (hg : DG F X W tg g) (hb : DSs F X W body db) (hs : ∀ x, foldedSetIterable it X.env x = pure x := by intro _; rfl) :
    DS F X W (.For tg it body [] pos) (forI g di db) := by
  obtain ⟨wi, pi, qi⟩ := hi
  obtain ⟨tg', pg, qg⟩ := hg
  obtain ⟨tb, pb, qb⟩ := hb
  refine ⟨_, ps_for d.own d.calm pi pg pb hs, fun e M L σ H T sr pp => qi e M L σ H _ sr (post_then (fun p M1 L1 H1 J s1 r1 w q => ?_) pp)⟩
  let In : Nat → L2.St → Hp → Prop := fun i σ' H' => i ≤ p.1.length ∧ ∃ (L' : List Addr) (e' : DL.Env) (M' : Store), Stp L1 H1 L' H' ∧ SR F L' H' M' e' σ' ∧ PostS F L' H' W T (forIL g p.2 db (p.1.drop i) e' M')
  refine ⟨fun i m σ' H' => m = p.1.length - i ∧ In i σ' H', ⟨_, rfl, Nat.zero_le _, L1, e, M1, Stp.refl _ _, r1, q⟩, ?_⟩
  rintro i m σ' H' ⟨rfl, hi, L', e', M', s, r, pr⟩
  by_cases hlt : i < p.1.length
  · right
    have hd : p.1[i]? = some p.1[i] := List.getElem?_eq_getElem hlt
    rw [drop_cons hd] at pr
    unfold forIL at pr
    split at pr
    · rename_i hc
      obtain ⟨hgo, hy⟩ := w.step i _ hd L' H' M' s r.m hc
      refine ⟨hgo, fun σ2 H2 => In (i + 1) σ2 H2, fun σ2 H2 z => ⟨_, by omega, rfl, z⟩, fun x H2 y => ?_⟩
      obtain ⟨sx, mx, rx⟩ := hy x H2 y
      have rr : SR F L' H2 M' e' σ' := r.stay sx mx
      refine qg _ x e' M' L' σ' H2 { T with nx := fun σ2 H2 => tb { T with nx := fun σ2 H2 => In (i + 1) σ2 H2, ct := fun σ2 H2 => In (i + 1) σ2 H2, bk := T.nx } σ2 H2 } rr rx ?_
      revert pr
      cases g p.1[i] e' M' with
      | none => exact False.elim
      | some yg =>
        obtain ⟨fg, Mg⟩ := yg
        cases fg with
        | nx e1 =>
          intro pr L3 H3 σ3 s3 r3
          refine qb e1 Mg L3 σ3 H3 _ r3 ?_
          revert pr
          simp only
          cases db e1 Mg with
          | none => exact False.elim
          | some yb =>
            obtain ⟨fb, Mb⟩ := yb
            cases fb with
            | nx e2 => exact fun pr L4 H4 σ4 s4 r4 => ⟨hlt, L4, e2, Mb, ((s.trans sx).trans s3).trans s4, r4, PostS.go ((sx.trans s3).trans s4) pr⟩
            | ct e2 => exact fun pr L4 H4 σ4 s4 r4 => ⟨hlt, L4, e2, Mb, ((s.trans sx).trans s3).trans s4, r4, PostS.go ((sx.trans s3).trans s4) pr⟩
            | bk e2 => exact fun pr L4 H4 σ4 s4 r4 => pr L4 H4 σ4 ((sx.trans s3).trans s4) r4
            | rt d2 => exact fun pr => PostS.go (T := T) (sx.trans s3) pr
            | ex c fs e2 => exact fun pr => PostS.go (T := T) (sx.trans s3) pr
        | rt d2 => exact False.elim
        | bk e2 => exact False.elim
        | ct e2 => exact False.elim
        | ex c fs e2 => exact False.elim
    · exact False.elim pr
  · left
    have hz : i = p.1.length := by omega
    subst hz
    rw [List.drop_length] at pr
    unfold forIL at pr
    split at pr
    · rename_i hc
      exact ⟨w.stop L' H' M' s r.m hc, pr L' H' σ' (Stp.refl _ _) r⟩
    · exact False.elim pr
theorem walk_rng {lo : Int} {n : Nat} : Walk F L H (Itr lo n) (rngI lo n) (fun _ => True) := by
  refine ⟨fun L' H' M' s m c => by rw [rng_len]; exact Nat.le_refl _, fun i d hd L' H' M' s m c => ?_⟩
  have hi : i < n := by
    have := (List.getElem?_eq_some_iff.mp hd).1
    rwa [rng_len] at this
  refine ⟨hi, fun x H'' y => ?_⟩
  obtain ⟨rfl, rfl⟩ := y
  have e : d = .int (lo + (i : Int)) := by
    unfold rngI at hd
    rw [List.getElem?_map, List.getElem?_range hi] at hd
    exact (Option.some.inj hd).symm
  subst e
  exact ⟨Stp.refl _ _, m, rfl⟩
def rng1 (dr : DenA) : DenI := fun e M => bindE (dr e M) fun ds M1 => match ds with
  | [.int n] => if small62 n = true then ok (rngI 0 n.toNat, fun _ => True) M1 else none
  | _ => none
def rng2 (dr : DenA) : DenI := fun e M => bindE (dr e M) fun ds M1 => match ds with
  | [.int a, .int b] => if small62 a = true ∧ small62 b = true then ok (rngI a (b - a).toNat, fun _ => True) M1 else none
  | _ => none
theorem di_rng1 {tg a : Expr} {da : DenE} {p pos : Pos} (hm : X.mg "range" = none) (ha : DE F X W a da) (hg : Gl X "range" := by rfl) (hse : starEach [a] X.env = [(false, eval a X.env)] := by rfl) (hst : starEach (a :: []) X.env = (false, eval a X.env) :: starEach [] X.env := by rfl) :
    DI F X W tg (.Call (.Name "range" p) [a] [] pos) (rng1 (consA da nilA)) := by
  obtain ⟨t, pa, qa⟩ := da_cons ha da_nil hst
  refine ⟨_, pi_range1 hg hm pa hse, fun e M L σ H R sr pp => qa e M L σ H _ sr (PostG.bind (fun ds M1 L1 H1 vs s1 r1 rv p2 => ?_) pp)⟩
  split at p2
  · rename_i n
    obtain ⟨v, rfl, h1⟩ := reps1 rv
    obtain rfl : v = .int n := h1
    split at p2
    · rename_i hz
      have z : -(2 ^ 62) ≤ n ∧ n < 2 ^ 62 := of_decide_eq_true hz
      exact ⟨n, rfl, z.1, z.2, p2.ok r1 walk_rng⟩
    · exact False.elim p2
  · exact False.elim p2
end
end DL
namespace DL
open PySem L2 PySem.W PySem.Calls PyProof.Rows PySem.HandSPX Builtin Builtin.ObjectAttr
end DL
namespace DL
open PySem L2
section
variable {F : Fx} {X : Cx} {W : WX} {L L1 : List Addr} {H H1 : Hp} {M : Store} {e : DL.Env} {σ : L2.St} {T : Ends} {k : Nat} {C fI : Addr} {x f y : Str}
def raiseF (c : String) (f : Str) (da : DenE) : DenS := fun e M => thenS (da e M) e fun d M1 => some (.ex c [(f, d)] e, M1)
end
end DL
namespace DL
open PySem L2
end DL
namespace DL
open PySem L2
section
variable {F : Fx} {X : Cx} {W : WX} {L L1 : List Addr} {H H1 : Hp} {M : Store} {e : DL.Env} {σ : L2.St} {T : Ends} {k : Nat}
def tupcF : List D → Store → RE
  | [.tup ds], M => ok (.tup ds) M
  | [d], M => match getL M d with
    | some ds => ok (.tup ds) M
    | none => none
  | _, _ => none
def rTupC (K : PySem.W.Frag) : List V → Hp → VK → Prop := fun vs H Q => ∃ x, vs = [x] ∧ kTup K x H Q
theorem callr_tuple : CallR X (.type "tuple") (rTupC X.K) := by
  intro p₀ s₀ σ₀ H₀ vs us Q₀ I₀ r h
  obtain ⟨x, rfl, q⟩ := h
  obtain ⟨u, eu, rx⟩ := vals1 r
  subst eu
  exact rl_tuple p₀ s₀ σ₀ H₀ x u Q₀ I₀ rx q
theorem tupc_ok : CallOk F (rTupC F.K) tupcF := fun ds M L H e σ W vs Q sr rv p => by
  unfold tupcF at p
  split at p
  · rename_i es
    obtain ⟨v, rfl, h1⟩ := reps1 rv
    obtain ⟨a, ws, rfl, q1, q2⟩ := h1
    exact ⟨_, rfl, .inr ⟨a, ws, rfl, (.inl (.inl q1)), p.ok sr ⟨a, ws, rfl, q1, q2⟩⟩⟩
  · obtain ⟨v, rfl, h1⟩ := reps1 rv
    split at p
    · rename_i es hg
      obtain ⟨a, ws, rfl, q1, q2⟩ := getL_sq sr.m hg h1
      exact ⟨_, rfl, .inl ⟨a, ws, rfl, q1, fun q hq => post_tup p sr q2 hq⟩⟩
    · exact False.elim p
  · exact False.elim p
def lstcF : List D → Store → RE
  | [.tup ds], M => ok (.lst ds) M
  | [d], M => match getL M d with
    | some ds => ok (.lst ds) M
    | none => none
  | _, _ => none
def rLstC (K : PySem.W.Frag) : List V → Hp → VK → Prop := fun xs H Q => ∃ p ys, xs = [.ref p] ∧ (SqL K H p ys ∨ SqT K H p ys) ∧ ∀ l, H l = none → Q (.ref l) (upd H l (.lst ys))
theorem callr_list : CallR X (.type "list") (rLstC X.K) := call_list_of
theorem lstc_ok : CallOk F (rLstC F.K) lstcF := fun ds M L H e σ W vs Q sr rv p => by
  unfold lstcF at p
  split at p
  · rename_i es
    obtain ⟨v, rfl, h1⟩ := reps1 rv
    obtain ⟨a, ws, rfl, q1, q2⟩ := h1
    exact ⟨a, ws, rfl, .inr (.inl (.inl q1)), fun q hq => post_lst p sr q2 hq⟩
  · obtain ⟨v, rfl, h1⟩ := reps1 rv
    split at p
    · rename_i es hg
      obtain ⟨a, ws, rfl, q1, q2⟩ := getL_sq sr.m hg h1
      exact ⟨a, ws, rfl, .inl q1, fun q hq => post_lst p sr q2 hq⟩
    · exact False.elim p
  · exact False.elim p
def flD : D → Option V
  | .non => some .non
  | .bl b => some (.bl b)
  | .int i => some (.int i)
  | .str x => some (.str x)
  | _ => none
def flDs : List D → Option (List V)
  | [] => some []
  | d :: ds => match flD d, flDs ds with
    | some v, some vs => some (v :: vs)
    | _, _ => none
def sqD (M : Store) : D → Option (List D)
  | .tup ds => some ds
  | d => getL M d
def inF (n : Bool) : D → D → Store → RE := fun x y M => match flD x, (sqD M y).bind flDs with
  | some v, some vs => ok (.bl (if n then !inV v vs else inV v vs)) M
  | _, _ => none
def mulTF : D → D → Store → RE
  | .tup ds, .int k, M => if 2 ≤ k ∧ k ≤ 1000 ∧ ds.length ≤ 1000 ∧ ds ≠ [] then ok (.tup (List.replicate k.toNat ds).flatten) M else none
  | x, y, M => mulF x y M
theorem mulT_ok : OpOk F (fun x y H Q => rMulD x y H Q ∨ rRepT F.K x y H Q) mulTF := fun d1 d2 M L H e σ W v1 v2 Q sr r1 r2 p => by
  unfold mulTF at p
  split at p
  · rename_i ds k
    split at p
    · rename_i hc
      obtain ⟨a, vs, rfl, q1, q2⟩ := r1
      have e2 : v2 = .int k := r2
      subst e2
      have hl := reps_len q2
      refine .inr ⟨a, k, vs, rfl, rfl, (.inl (.inl q1)), fun z => hc.2.2.2 ?_, hc.1, hc.2.1, by rw [← hl]; exact hc.2.2.1, fun q hq => post_tup p sr (reps_rep q2 _) hq⟩
      rw [z] at hl
      exact List.length_eq_zero_iff.mp hl
    · exact False.elim p
  · exact .inl (mul_ok d1 d2 M L H e σ W v1 v2 Q sr r1 r2 p)
theorem opr_mulT : OpR X (binaryOp .Mult) (fun x y H Q => rMulD x y H Q ∨ rRepT X.K x y H Q) := orR opr_mul op_repT
def chainD (f g : D → D → Store → RE) (da db dc : DenE) : DenE := fun e M => bindE (da e M) fun d1 M1 => bindE (db e M1) fun d2 M2 => bindE (f d1 d2 M2) fun b M3 => match b with
  | .bl true => bindE (dc e M3) fun d3 M4 => g d2 d3 M4
  | .bl false => ok (.bl false) M3
  | _ => none
/-- what tells a truth at once, the store kept -/
def Truths (f : D → D → Store → RE) : Prop := ∀ x y M, f x y M = none ∨ ∃ b : Bool, f x y M = ok (.bl b) M
theorem chain_t {op op' : CmpOp} {r r' : R2} {f g : D → D → Store → RE} {a b c : Expr} {da db dc : DenE} {ta tb tc : TE} (hf : OpOk F r f) (hf' : OpOk F r' g) (tf : Truths f)
    (qa : ∀ (e : DL.Env) (M : Store) (L : List Addr) (σ : L2.St) (H : Hp) (Q : VK), SR F L H M e σ → Post F e L H σ W Q (da e M) → ta σ H Q)
    (qb : ∀ (e : DL.Env) (M : Store) (L : List Addr) (σ : L2.St) (H : Hp) (Q : VK), SR F L H M e σ → Post F e L H σ W Q (db e M) → tb σ H Q)
    (qc : ∀ (e : DL.Env) (M : Store) (L : List Addr) (σ : L2.St) (H : Hp) (Q : VK), SR F L H M e σ → Post F e L H σ W Q (dc e M) → tc σ H Q)
    (e : DL.Env) (M : Store) (L : List Addr) (σ : L2.St) (H : Hp) (Q : VK) (sr : SR F L H M e σ) (p : Post F e L H σ W Q (chainD f g da db dc e M)) : tChain r r' ta tb tc σ H Q := by
  refine qa e M L σ H _ sr (PostG.bind (fun d1 M1 L1 H1 v1 s1 r1 rv1 p1 => ?_) p)
  refine qb e M1 L1 σ H1 _ r1 (PostG.bind (fun d2 M2 L2 H2 v2 s2 r2 rv2 p2 => ?_) p1)
  have rv1' := Rep.stay r1.m s2 _ _ rv1
  refine hf d1 d2 M2 L2 H2 e σ W v1 v2 _ r2 rv1' rv2 ?_
  rcases tf d1 d2 M2 with z | ⟨bb, z⟩
  · rw [z] at p2
    exact False.elim p2
  · rw [z] at p2 ⊢
    intro L3 H3 v3 s3 r3 rv3
    have e3 : v3 = .bl bb := rv3
    subst e3
    refine ⟨bb, rfl, ?_⟩
    have p3 := PostG.go s3 (show Post F e L2 H2 σ W Q (match D.bl bb with
      | .bl true => bindE (dc e M2) fun d3 M4 => g d2 d3 M4
      | .bl false => ok (.bl false) M2
      | _ => none) from p2)
    cases bb with
    | true =>
      simp only [if_true]
      refine qc e M2 L3 σ H3 _ r3 (PostG.bind (fun d3 M4 L4 H4 v4 s4 r4 rv4 p4 => ?_) p3)
      exact hf' d2 d3 M4 L4 H4 e σ W v2 v4 Q r4 (Rep.stay r3.m s4 _ _ (Rep.stay r2.m s3 _ _ rv2)) rv4 p4
    | false =>
      simp only [if_neg (fun z : false = true => Bool.noConfusion z)]
      exact p3.ok r3 rfl
theorem truths_int {g : Int → Int → Bool} : Truths (intF0 fun i j => .bl (g i j)) := fun x y M => by
  unfold intF0
  split
  · exact .inr ⟨_, rfl⟩
  · exact .inl rfl
theorem de_num {x : Str} {i : Int} {t : Tok} {pos : Pos} (hm : X.mg x = some (.int i t)) (hg : Gl X x := by rfl) (hd : (x == ("__debug__" : Str)) = false := by decide) : DE F X W (.Name x pos) (cD (.int i)) :=
  ⟨_, pe_glob (v := .int i) hg hm ⟨t, rfl⟩ hd, fun e M L σ H Q sr p => p.ok sr rfl⟩
end
end DL
namespace DL
open PySem L2
section
variable {F : Fx} {X : Cx} {W : WX} {L L1 : List Addr} {H H1 : Hp} {M : Store} {e : DL.Env} {σ : L2.St} {T : Ends} {k : Nat}
/-- behind the loop: Nx -/
def Fin (F : Fx) (L : List Addr) (H : Hp) (Nx : Hp → Prop) : RD Unit → Prop
  | some (.val _, M') => ∀ (L' : List Addr) (H' : Hp), Stp L H L' H' → SM F L' H' M' → Nx H'
  | _ => False
theorem Fin.go {Nx : Hp → Prop} (s : Stp L H L1 H1) : ∀ {r : RD Unit}, Fin F L H Nx r → Fin F L1 H1 Nx r
  | some (.val _, M'), h => fun L' H' s' m => h L' H' (s.trans s') m
  | some (.exc _ _, _), h => h
  | none, h => h
def canI (F : Fx) (W : WX) (di : DenI) : TI := fun σ H R => ∃ (e : DL.Env) (M : Store) (L : List Addr), SR F L H M e σ ∧ PostG F (fun L' H' (p : DItems) (J : It) => Walk F L' H' J p.1 p.2) e L H σ W R (di e M)
theorem DI.can {tg it : Expr} {di : DenI} (h : DI F X W tg it di) : PI X tg it (canI F W di) := by
  obtain ⟨t, p, q⟩ := h
  exact ⟨fun pins s σ H R I hh => by
    obtain ⟨e, M, L, sr, pp⟩ := hh
    exact p.run pins s σ H R I (q e M L σ H R sr pp)⟩
end
end DL
namespace DL
open PySem L2
/-- the places of a part, and whether it is the whole -/
def prtI (n : Nat) (lo hi st : Option Int) : List Nat :=
  (List.range (Builtin.Slice.slicePlaces (Builtin.Slice.sliceAdjust lo hi (st.getD 1) n).1 (Builtin.Slice.sliceAdjust lo hi (st.getD 1) n).2 (st.getD 1))).map fun (k : Nat) => ((Builtin.Slice.sliceAdjust lo hi (st.getD 1) n).1 + (k : Int) * st.getD 1).toNat
def whole (n : Nat) (lo hi st : Option Int) : Bool := (Builtin.Slice.sliceAdjust lo hi (st.getD 1) n).1 == 0 && st.getD 1 == 1 && Builtin.Slice.slicePlaces (Builtin.Slice.sliceAdjust lo hi (st.getD 1) n).1 (Builtin.Slice.sliceAdjust lo hi (st.getD 1) n).2 (st.getD 1) == n
def prtT {α : Type} (xs : List α) (lo hi st : Option Int) : List α := if whole xs.length lo hi st = true then xs else (prtI xs.length lo hi st).filterMap (xs[·]?)
section
variable {prog : Program} {w : World} {A : Around} {s : Shared} {E : Value → Shared → Prop}
theorem slap {sl : Addr} {vl vu vs : Value} {lo hi st : Option Int} {n : Nat} {Q : Int × Int × Nat → Shared → Prop} (hs : s.heap.IsSliceOf sl vl vu vs) (pl : IsPart vl lo) (pu : IsPart vu hi) (ps : IsPart vs st) (h0 : st.getD 1 ≠ 0)
    (h : Q ((Builtin.Slice.sliceAdjust lo hi (st.getD 1) n).1, st.getD 1, Builtin.Slice.slicePlaces (Builtin.Slice.sliceAdjust lo hi (st.getD 1) n).1 (Builtin.Slice.sliceAdjust lo hi (st.getD 1) n).2 (st.getD 1)) s) :
    wpAny (model prog w) A (Builtin.Slice.sliceApplied (.ref sl) (pure ((n : Nat) : Int))) Q E s := by
  obtain ⟨ox, hox, _, hdx⟩ := id hs
  unfold Builtin.Slice.sliceApplied
  unfold Builtin.Slice.sliceFields
  refine wpAny_bind (wpAny_bind (wpAny_field hox hdx (x := vl) rfl (wpAny_bind (wpAny_field hox hdx (x := vu) rfl (wpAny_bind (wpAny_field hox hdx (x := vs) rfl (wpAny_pure ?_)))))))
  refine wpAny_bind (HT.slicePart_ ps ?_)
  show wpAny _ _ (if (st.getD 1 == 0) = true then _ else _) _ _ s
  rw [if_neg (show ¬ ((st.getD 1 == 0) = true) by simpa using h0)]
  exact wpAny_bind (HT.slicePart_ pl (wpAny_bind (HT.slicePart_ pu (wpAny_bind (wpAny_pure (wpAny_pure h))))))
theorem getItem_tup {t sl : Addr} {items : Array Value} {vl vu vs : Value} {lo hi st : Option Int} {Q : Value → Shared → Prop} (ht : PyProof.Rows.IsTup s.heap t items) (hs : s.heap.IsSliceOf sl vl vu vs) (pl : IsPart vl lo) (pu : IsPart vu hi) (ps : IsPart vs st) (h0 : st.getD 1 ≠ 0)
    (hw : whole items.size lo hi st = true → Q (.ref t) s)
    (h : whole items.size lo hi st = false → Q (.ref s.heap.objs.size) { s with heap := s.heap.push { cls := .type "tuple", data := .seq ((prtI items.size lo hi st).filterMap (items[·]?)).toArray } })
    (hsz : (prtI items.size lo hi st).length ≤ sizeLine) : wpAny (model prog w) A (getItem (.ref t) (.ref sl)) Q E s := by
  have hd : sizeOk (.seq ((prtI items.size lo hi st).filterMap (items[·]?)).toArray) := by
    show ((prtI items.size lo hi st).filterMap (items[·]?)).toArray.size ≤ sizeLine
    rw [List.size_toArray]
    exact Nat.le_trans (List.length_filterMap_le _ _) hsz
  obtain ⟨ox, hox, hcx, _⟩ := id hs
  have hTs : s.TypeIs (.ref sl) "slice" := ⟨ox, hox, hcx⟩
  unfold getItem
  try (with_reducible refine wpAny_holding ?_)
  try (refine wpAny_bind (wpAny_pure ?_))
  refine wpAny_bind (wpAny_sequenceKey (ht.typeIs) (by decide) ?_)
  refine wpAny_bind (wpAny_callSpecial?_slot (name := Str.ofString "__getitem__") ht.typeIs PyProof.Rows.slot_tuple_getitem (wpAny_call_entry PyProof.Rows.slot_tuple_getitem ht.typeIs PyProof.Rows.entry_tuple_getitem ?_ (PyProof.Rows.args_tuple_getitem _ _)))
  show wpAny (model prog w) _ (Builtin.Tuple.tupleItemsOf (.ref t) >>= _) _ _ s
  refine wpAny_bind (PyProof.Rows.tupleItemsOf_ ht (wpAny_bind (wpAny_typeOf hTs ?_)))
  rw [if_pos (by decide)]
  refine wpAny_bind (slap hs pl pu ps h0 ?_)
  cases hz : whole items.size lo hi st with
  | true =>
    have hz' : ((Builtin.Slice.sliceAdjust lo hi (st.getD 1) items.size).1 == 0 && st.getD 1 == 1 && Builtin.Slice.slicePlaces (Builtin.Slice.sliceAdjust lo hi (st.getD 1) items.size).1 (Builtin.Slice.sliceAdjust lo hi (st.getD 1) items.size).2 (st.getD 1) == items.size) = true := hz
    show wpAny _ _ (if ((Builtin.Slice.sliceAdjust lo hi (st.getD 1) items.size).1 == 0 && st.getD 1 == 1 && Builtin.Slice.slicePlaces (Builtin.Slice.sliceAdjust lo hi (st.getD 1) items.size).1 (Builtin.Slice.sliceAdjust lo hi (st.getD 1) items.size).2 (st.getD 1) == items.size) = true then _ else _) _ _ s
    rw [if_pos hz']
    have hh := hw hz
    unfold Builtin.Tuple.tupleIsExact
    refine wpAny_bind (wpAny_bind (wpAny_typeOf ht.typeIs (wpAny_pure ?_)))
    rw [if_pos (by decide)]
    wp_walk
    exact ⟨_, rfl, wpAny_pure hh⟩
  | false =>
    have hz' : ¬ ((Builtin.Slice.sliceAdjust lo hi (st.getD 1) items.size).1 == 0 && st.getD 1 == 1 && Builtin.Slice.slicePlaces (Builtin.Slice.sliceAdjust lo hi (st.getD 1) items.size).1 (Builtin.Slice.sliceAdjust lo hi (st.getD 1) items.size).2 (st.getD 1) == items.size) = true := by
      intro z
      have z2 : whole items.size lo hi st = true := z
      rw [hz] at z2
      cases z2
    show wpAny _ _ (if ((Builtin.Slice.sliceAdjust lo hi (st.getD 1) items.size).1 == 0 && st.getD 1 == 1 && Builtin.Slice.slicePlaces (Builtin.Slice.sliceAdjust lo hi (st.getD 1) items.size).1 (Builtin.Slice.sliceAdjust lo hi (st.getD 1) items.size).2 (st.getD 1) == items.size) = true then _ else _) _ _ s
    rw [if_neg hz']
    have e : ((List.range (Builtin.Slice.slicePlaces (Builtin.Slice.sliceAdjust lo hi (st.getD 1) items.size).1 (Builtin.Slice.sliceAdjust lo hi (st.getD 1) items.size).2 (st.getD 1))).filterMap fun (k : Nat) => items[((Builtin.Slice.sliceAdjust lo hi (st.getD 1) items.size).1 + (k : Int) * st.getD 1).toNat]?) = (prtI items.size lo hi st).filterMap (items[·]?) := by
      unfold prtI
      rw [List.filterMap_map]
      rfl
    rw [e]
    have hh := h hz
    first
      | exact wpAny_bind (m := Builtin.Tuple.tupleExact _) (wpAny_newObj_type (wpAny_pure ⟨_, rfl, wpAny_pure hh⟩) hd)
      | exact wpAny_bind (m := Builtin.Tuple.tupleExact _) (wpAny_newObj_type (wpAny_bind (wpAny_pure (wpAny_pure ⟨_, rfl, wpAny_pure hh⟩))) hd)
      | exact wpAny_bind (wpAny_bind (m := Builtin.Tuple.tupleExact _) (wpAny_newObj_type (wpAny_pure (wpAny_pure ⟨_, rfl, wpAny_pure hh⟩)) hd))
      | exact wpAny_bind (wpAny_bind (m := Builtin.Tuple.tupleExact _) (wpAny_newObj_type (wpAny_pure ⟨_, rfl, wpAny_pure hh⟩) hd))
end
section
variable {F : Fx} {X : Cx} {W : WX} {L L1 : List Addr} {H H1 : Hp} {M : Store} {e : DL.Env} {σ : L2.St} {T : Ends} {k : Nat}
def prtF (d : D) (lo hi st : Option Int) (M : Store) : RE := match d with
  | .tup ds => if st.getD 1 ≠ 0 ∧ (prtI ds.length lo hi st).length ≤ 100000 then ok (.tup (prtT ds lo hi st)) M else none
  | _ => none
def prtD (da : DenE) (dl dh dt : DenO) : DenE := fun e M => bindE (da e M) fun d M1 => bindE (dl e M1) fun l M2 => bindE (dh e M2) fun h M3 => bindE (dt e M3) fun t M4 => prtF d l h t M4
/-- a part of a tuple -/
theorem de_prt {x : Expr} {lo hi st : Option Expr} {da : DenE} {dl dh dt : DenO} {pos p2 : Pos} (ha : DE F X W x da) (hl : DO F X W lo dl) (hh : DO F X W hi dh) (ht : DO F X W st dt) (hK : X.K = F.K := by rfl) : DE F X W (.Subscript x (.Slice lo hi st p2) pos) (prtD da dl dh dt) := by
  obtain ⟨ta, pa, qa⟩ := ha
  obtain ⟨tl, pl, ql⟩ := hl
  obtain ⟨th, ph, qh⟩ := hh
  obtain ⟨tt, pt, qt⟩ := ht
  refine ⟨fun σ H Q => ta σ H fun x H1 => tl σ H1 fun l H2 => th σ H2 fun u H3 => tt σ H3 fun t H4 => ∃ a vs, x = .ref a ∧ SqT X.K H4 a vs ∧ t.getD 1 ≠ 0 ∧ (prtI vs.length l u t).length ≤ 100000 ∧ (whole vs.length l u t = true → Q (.ref a) H4) ∧ (whole vs.length l u t = false → ∀ p, H4 p = none → Q (.ref p) (upd H4 p (.tup ((prtI vs.length l u t).filterMap (vs[·]?))))),
    ⟨fun p₀ s₀ σ₀ H₀ Q₀ I₀ h₀ => ?_⟩, fun e M L σ H Q sr p => ?_⟩
  · refine PyProof.Rows.Subscript_ (thn (pa.run p₀ s₀ σ₀ H₀ _ I₀ h₀) fun v s1 ⟨x1, H1, I1, r1, q1⟩ => ?_)
    refine wpAny_Slice (thn (pl.run p₀ s1 σ₀ H1 _ I1 q1) fun vl s2 ⟨l, H2, I2, pl, q2⟩ => thn (ph.run p₀ s2 σ₀ H2 _ I2 q2) fun vu s3 ⟨u, H3, I3, pu, q3⟩ => ?_)
    refine thn (pt.run p₀ s3 σ₀ H3 _ I3 q3) fun vt s4 ⟨t, H4, I4, pst, q4⟩ => ?_
    obtain ⟨a, vs, rfl, hq, h0, hz0, hx1, hx2⟩ := q4
    have rv : v = Value.ref a := r1
    subst rv
    have I5 : L2.Inv X p₀ σ₀ H4 { s4 with heap := s4.heap.push { cls := .type "slice", data := .fields #[vl, vu, vt] } } := I4.kept (t' := s4.toks) fun b ob z => Heap.get?_push_of_some _ z
    obtain ⟨its, rz, htp, hz⟩ := I5.tuple hq
    have hln : its.toArray.size = vs.length := by rw [List.size_toArray]; exact rz.length.symm
    obtain ⟨ops, hops⟩ : ∃ ops, subscripted (.Slice lo hi st p2) false (.ref a) (.ref s4.heap.objs.size) = operate ops (getItem (.ref a) (.ref s4.heap.objs.size)) := by
      cases st with
      | none => exact ⟨_, rfl⟩
      | some y => exact ⟨_, rfl⟩
    have lz : ((prtI vs.length l u t).filterMap (vs[·]?)).length ≤ sizeLine := Nat.le_trans (List.length_filterMap_le _ _) (Nat.le_trans hz0 (by decide))
    refine PyProof.Rows.tail_any (ops := ops) htp.typeIs PyProof.Rows.slot_tuple_getitem.lookup (getItem_tup htp (Heap.IsSliceOf.new _ vl vu vt) pl pu pst h0 (fun hw => ?_) (fun hw => ?_) (by rw [hln]; exact Nat.le_trans hz0 (by decide))) hops
    · rw [hln] at hw
      exact ⟨.ref a, H4, I5, rfl, hx1 hw⟩
    · rw [hln] at hw ⊢
      have hsz : ({ s4 with heap := s4.heap.push { cls := .type "slice", data := .fields #[vl, vu, vt] } } : Shared).heap.objs.size ≤ _ := Nat.le_refl _
      refine ⟨.ref _, _, I5.laid (o := .tup ((prtI vs.length l u t).filterMap (vs[·]?))) (t' := s4.toks) (fun b ob z => Heap.get?_push_of_some _ z) hsz ⟨lz, _, vals_pick rz _, PyProof.Rows.IsTup.new _ _⟩, rfl, hx2 hw _ (I5.hok.fresh hsz)⟩
  · refine qa e M L σ H _ sr (PostG.bind (fun d1 M1 L1 H1 v1 s1 r1 rv1 q => ?_) p)
    refine ql e M1 L1 σ H1 _ r1 (PostG.bind (fun d2 M2 L2 H2 v2 s2 r2 rv2 q => ?_) q)
    refine qh e M2 L2 σ H2 _ r2 (PostG.bind (fun d3 M3 L3 H3 v3 s3 r3 rv3 q => ?_) q)
    refine qt e M3 L3 σ H3 _ r3 (PostG.bind (fun d4 M4 L4 H4 v4 s4 r4 rv4 q => ?_) q)
    subst rv2 rv3 rv4
    have rv := Rep.stay r3.m s4 d1 v1 (Rep.stay r2.m s3 d1 v1 (Rep.stay r1.m s2 d1 v1 rv1))
    unfold prtF at q
    split at q
    · rename_i ds
      obtain ⟨a, vs, rfl, a2, a3⟩ := rv
      split at q
      · rename_i hc
        have hl := reps_len a3
        refine ⟨a, vs, rfl, .inl (.inl a2), hc.1, by rw [← hl]; exact hc.2, fun hw => ?_, fun hw p' hp => ?_⟩
        · unfold prtT at q
          rw [← hl] at hw
          rw [if_pos hw] at q
          exact q.ok r4 ⟨a, vs, rfl, a2, a3⟩
        · unfold prtT at q
          rw [← hl] at hw ⊢
          rw [if_neg (by rw [hw]; exact fun z => Bool.noConfusion z)] at q
          exact post_tup q r4 (reps_pick a3 _) hp
      · exact False.elim q
    · exact False.elim q
end
end DL
namespace DL
open PySem L2
def clsUs (F : Fx) : List D → Option (List Value)
  | [] => some []
  | t :: ts => match clsU F t, clsUs F ts with
    | some u, some us => some (u :: us)
    | _, _ => none
def anyS (sub : String → D → Option Bool) (c : String) : List D → Option Bool
  | [] => some false
  | t :: ts => match sub c t, anyS sub c ts with
    | some b, some r => some (b || r)
    | _, _ => none
def isiB (sub : String → D → Option Bool) : List D → Store → RE
  | [.exc c fs, .tup (t :: ts)], M => match anyS sub c (t :: ts) with
    | some b => ok (.bl b) M
    | none => none
  | ds, M => isiA sub ds M
def rIsiXT (K : PySem.W.Frag) : List V → Hp → VK → Prop := fun vs H Q => ∃ (a tp C : Addr) (cs : List V) (us : List Value) (b : Bool), vs = [.ref a, .ref tp] ∧ SqT K H tp cs ∧ Paired ClsV cs us ∧ (∃ dd, ExAt H C a dd ∧ ∀ x, dd = some x → ∃ ws, H x = some (.xd ws)) ∧ L2.ExcC K C ∧ PySem.W.kitAny K (.ref C) us = some b ∧ Q (.bl b) H
section
variable {F : Fx} {X : Cx} {W : WX} {L L1 : List Addr} {H H1 : Hp} {M : Store} {e : DL.Env} {σ : L2.St} {T : Ends} {k : Nat}
theorem callr_isiXT : CallR X (.builtin "isinstance") (rIsiXT X.K) := by
  intro p₀ s₀ σ₀ H₀ vs us Q₀ I₀ r h
  obtain ⟨a, tp, C, cs, ws, b, rfl, hT, hp, hx, ec, hk, q⟩ := h
  obtain ⟨u1, u2, eu, r1, r2⟩ := vals2 r
  subst eu
  cases r1
  cases r2
  obtain ⟨dd, ⟨φ, h1, h2⟩, hdd⟩ := hx
  obtain ⟨hφ, _, _⟩ := (show ObjOk X.prog X.w H₀ s₀.heap a (.ext φ) from I₀.hok a _ h1)
  obtain ⟨oe, vv, g1, g2, g3, g4⟩ := h2 _ hφ
  have J : ∃ od, PySem.W.InstAt s₀.heap a oe C od := by
    obtain ⟨ocl, od, oda, osl⟩ := oe
    dsimp only at g2 g3 g4
    subst g2 g3 g4
    cases od with
    | none => exact ⟨none, g1, rfl, rfl, trivial⟩
    | some x =>
      obtain ⟨ws, hx⟩ := hdd x rfl
      obtain ⟨mA, ⟨ob, _, _, hob, _⟩, _⟩ := (show ObjOk X.prog X.w H₀ s₀.heap x (.xd ws) from I₀.hok x _ hx)
      exact ⟨some ob, g1, rfl, rfl, hob⟩
  obtain ⟨od, J⟩ := J
  obtain ⟨its, rv, ⟨o, o1, o2, n, o3⟩, _⟩ := I₀.tuple hT
  have e3 := ClsV.all hp rv
  subst e3
  obtain ⟨ocl, odd, odt, osl⟩ := o
  simp only at o2 o3
  subst o2 o3
  exact PySem.W.kia_tup (exc_kit ec) I₀.kIn J o1 hk (fun z => nomatch z) fun tk => ⟨.bl b, H₀, I₀.kept (t' := tk) fun _ _ z => z, rfl, q⟩
theorem clsV_of {t : D} {u : Value} {v : V} (h : clsU F t = some u) (r : Rep F L H t v) : ClsV v u := by
  cases t with
  | ty S =>
    have z : v = .ty S := r
    cases Option.some.inj h
    rw [z]
    exact .ty S
  | cls c2 =>
    obtain ⟨C2, rfl, hC2⟩ := r
    have z : (F.cl c2).map Value.ref = some u := h
    rw [hC2] at z
    cases Option.some.inj z
    exact .own C2
  | _ => cases h
theorem paired_of : ∀ {ts : List D} {us : List Value} {cs : List V}, clsUs F ts = some us → Reps F L H ts cs → Paired ClsV cs us
  | [], us, cs, h, r => by
    cases h
    have z : cs = [] := r
    rw [z]
    exact .nil
  | t :: ts, us, cs, h, ⟨v, r, e, h1, h2⟩ => by
    unfold clsUs at h
    split at h
    · rename_i u us' a b
      cases h
      subst e
      exact .cons (clsV_of a h1) (paired_of b h2)
    · cases h
theorem anyS_kit {sub : String → D → Option Bool} {c : String} {C : Addr} (hs : ∀ c t b C u, F.cl c = some C → clsU F t = some u → sub c t = some b → L2.ExcC F.K C ∧ PySem.W.kitOne F.K (.ref C) u = some b) (hC : F.cl c = some C) (ec : L2.ExcC F.K C) :
    ∀ {ts : List D} {us : List Value} {b : Bool}, clsUs F ts = some us → anyS sub c ts = some b → PySem.W.kitAny F.K (.ref C) us = some b
  | [], us, b, h, g => by
    cases h
    cases g
    rfl
  | t :: ts, us, b, h, g => by
    unfold clsUs at h
    split at h
    · rename_i u us' h1 h2
      cases h
      unfold anyS at g
      split at g
      · rename_i b1 r1 z1 z2
        cases g
        have ih := anyS_kit hs hC ec h2 z2
        unfold PySem.W.kitAny
        rw [(hs c t b1 C u hC h1 z1).2]
        cases b1 with
        | true => rfl
        | false => exact ih
      · cases g
    · cases h
theorem clsUs_of {sub : String → D → Option Bool} {c : String} (hu : ∀ c t b, sub c t = some b → ∃ u, clsU F t = some u) : ∀ {ts : List D} {b : Bool}, anyS sub c ts = some b → ∃ us, clsUs F ts = some us
  | [], _, _ => ⟨[], rfl⟩
  | t :: ts, b, h => by
    unfold anyS at h
    split at h
    · rename_i b1 r1 z1 z2
      obtain ⟨u, e1⟩ := hu c t b1 z1
      obtain ⟨us, e2⟩ := clsUs_of hu z2
      exact ⟨u :: us, by unfold clsUs; rw [e1, e2]⟩
    · cases h
theorem isiB_ok {sub : String → D → Option Bool} (hs : ∀ c t b C u, F.cl c = some C → clsU F t = some u → sub c t = some b → L2.ExcC F.K C ∧ PySem.W.kitOne F.K (.ref C) u = some b) (hu : ∀ c t b, sub c t = some b → ∃ u, clsU F t = some u) :
    CallOk F (fun vs H Q => rIsiXT F.K vs H Q ∨ (rIsiX F.K vs H Q ∨ rIsi F.K vs H Q)) (isiB sub) := fun ds M L H e σ W vs Q sr rv p => by
  unfold isiB at p
  split at p
  · rename_i c fs t ts
    split at p
    · rename_i b hb
      obtain ⟨v, v', rfl, h1, h2⟩ := reps2 rv
      obtain ⟨a, C, dd, rfl, hC, hx, _, hdd⟩ := h1
      obtain ⟨tp, cs, rfl, q1, q2⟩ := h2
      have hd0 : ∀ x, dd = some x → ∃ ws, H x = some (.xd ws) := fun x z => by
        subst z
        obtain ⟨ws, q1, _⟩ := hdd
        exact ⟨ws, q1⟩
      obtain ⟨us, hus⟩ := clsUs_of (F := F) hu hb
      have ec : L2.ExcC F.K C := by
        have hb2 := hb
        unfold anyS at hb2
        split at hb2
        · rename_i b1 r1 z1 z2
          obtain ⟨u, e1⟩ := hu c _ b1 z1
          exact (hs c _ b1 C u hC e1 z1).1
        · cases hb2
      exact .inl ⟨a, tp, C, cs, us, b, rfl, (.inl (.inl q1)), paired_of hus q2, ⟨dd, hx, hd0⟩, ec, anyS_kit hs hC ec hus hb, p.ok sr rfl⟩
    · exact False.elim p
  · exact .inr (isiA_ok hs hu _ M L H e σ W vs Q sr rv p)
end
end DL
namespace DL
open PySem L2
section
variable {F : Fx} {X : Cx} {W : WX} {L L1 : List Addr} {H H1 : Hp} {M : Store} {e : DL.Env} {σ : L2.St} {T : Ends} {k : Nat}
def ownAddS (i : Nat) (da db : DenE) : DenS := fun e M => thenS (da e M) e fun d1 M1 => thenS (db e M1) e fun d2 M2 => match getW M2 d1, getW M2 d2 with
  | some a, some b => if a.length + b.length ≤ 100000 then some (.nx (e.set i (some (.loc M2.length))), M2 ++ [.lst (a ++ b)]) else none
  | _, _ => none
theorem ds_ownAdd (i : Nat) {x : Str} {a b : Expr} {da db : DenE} {p2 pos pos' : Pos} (hN : X.N.Nodup) (ha : DE F X W a da) (hb : DE F X W b db) (hi : X.N[i]? = some x := by rfl) (hx : Loc X.env.scope x := by first | exact Or.inl rfl | exact Or.inr rfl) (hs : swapsWith (.BinOp a .Add b p2) (some (.Name x pos')) pos.line X.env = pure false := by rfl)
    (hf : X.fn x = true ∨ X.env.scope.names.lookup x = some .local := by first | exact .inl rfl | exact .inr rfl) : DS F X W (.Assign [.Name x pos'] (.BinOp a .Add b p2) pos) (ownAddS i da db) := by
  obtain ⟨ta, p1, q1⟩ := ha
  obtain ⟨tb, p2, q2⟩ := hb
  refine ⟨_, ps_set hN hi hx (pe_op op_cat p1 p2) hs hf, fun e M L σ H T sr pp => q1 e M L σ H _ sr (post_then (fun d1 M1 L1 H1 v1 s1 r1 rv1 q => ?_) pp)⟩
  refine q2 e M1 L1 σ H1 _ r1 (post_then (fun d2 M2 L2 H2 v2 s2 r2 rv2 q => ?_) q)
  split at q
  · rename_i xs ys h1 h2
    obtain ⟨a, vs, rfl, a2, a3⟩ := getW_lst r2.m h1 (Rep.stay r1.m s2 d1 v1 rv1)
    obtain ⟨b, ws, rfl, b2, b3⟩ := getW_lst r2.m h2 rv2
    split at q
    · rename_i hz
      have l1 := reps_len a3
      have l2 := reps_len b3
      refine ⟨a, b, vs, ws, rfl, rfl, a2, b2, by rw [← l1, ← l2]; exact sz_ok hz, fun p' hp => ?_⟩
      obtain ⟨m3, s3⟩ := SM.own r2.m hp (reps_app a3 b3)
      have r3 := r2.stay s3 m3
      refine q _ _ _ s3 (r3.set i ⟨p', rfl, ?_⟩)
      rw [← r2.m.len, List.getElem?_append_right (Nat.le_refl _), Nat.sub_self]
      rfl
    · exact False.elim q
  · exact False.elim q
theorem di_rng2 {tg a b : Expr} {da db : DenE} {p pos : Pos} (hm : X.mg "range" = none) (ha : DE F X W a da) (hb : DE F X W b db) (hg : Gl X "range" := by rfl) (hse : starEach [a, b] X.env = [(false, eval a X.env), (false, eval b X.env)] := by rfl) (hse2 : starEach [b] X.env = [(false, eval b X.env)] := by rfl)
    (hst : starEach (a :: [b]) X.env = (false, eval a X.env) :: starEach [b] X.env := by rfl) (hst2 : starEach (b :: []) X.env = (false, eval b X.env) :: starEach [] X.env := by rfl) :
    DI F X W tg (.Call (.Name "range" p) [a, b] [] pos) (rng2 (consA da (consA db nilA))) := by
  obtain ⟨t, pa, qa⟩ := da_cons ha (da_cons hb da_nil hst2) hst
  refine ⟨_, pi_range2 hg hm pa hse hse2, fun e M L σ H R sr pp => qa e M L σ H _ sr (PostG.bind (fun ds M1 L1 H1 vs s1 r1 rv p2 => ?_) pp)⟩
  split at p2
  · rename_i i j
    obtain ⟨v, v', rfl, h1, h2⟩ := reps2 rv
    obtain rfl : v = .int i := h1
    obtain rfl : v' = .int j := h2
    split at p2
    · rename_i hz
      have z : -(2 ^ 62) ≤ i ∧ i < 2 ^ 62 := of_decide_eq_true hz.1
      have z' : -(2 ^ 62) ≤ j ∧ j < 2 ^ 62 := of_decide_eq_true hz.2
      exact ⟨i, j, rfl, ⟨z.1, z.2, z'.1, z'.2⟩, p2.ok r1 walk_rng⟩
    · exact False.elim p2
  · exact False.elim p2
def DSet (F : Fx) (X : Cx) (W : WX) (i : Nat) (st : Stmt) (da : DenE) : Prop :=
  ∃ t, PS X st (tAsg t (gName i)) ∧ ∀ (e : DL.Env) (M : Store) (L : List Addr) (σ : L2.St) (H : Hp) (Q : VK), SR F L H M e σ → Post F e L H σ W Q (da e M) → t σ H Q
theorem DSet.ds {i : Nat} {st : Stmt} {da : DenE} (h : DSet F X W i st da) : DS F X W st (asgS i da) := by
  obtain ⟨t, p, q⟩ := h
  refine ⟨_, p, fun e M L σ H T sr pp => q e M L σ H _ sr (post_then (fun d M1 L1 H1 v s1 r1 rv q2 => ?_) pp)⟩
  exact q2 L1 H1 _ (Stp.refl L1 H1) (r1.set i rv)
theorem DSet.cut {i : Nat} {st : Stmt} {da : DenE} (h : DSet F X W i st da) : DSet F X W i st (cutE da) := by
  obtain ⟨t, p, q⟩ := h
  exact ⟨t, p, fun e M L σ H Q sr pp => q e M L σ H Q sr (post_cut sr pp)⟩
theorem dset_comp (i : Nat) {y : Str} {py spos : Pos} {elt tg iter : Expr} {ifs : List Expr} {scope : Scope} {own : List (Str × Nat)} {pos : Pos} {di : DenI} {g : TG} {set : D → DL.Env → Option DL.Env} {dt de : DenE} (d : Dc X W k) (hN : X.N.Nodup) (hi : DI F X W tg iter di) (bo : BlkOk X.N X.env.scope scope own)
    (hg : ∀ (s : Shared) (H : Hp) (C : Addr) (cl : List (Str × Addr)) (fp : List Addr), PG (BX X scope s H C cl fp) tg g) (hgo : TgOk F (own.map (·.2)) g set)
    (ht : ∀ (s : Shared) (H : Hp) (C : Addr) (cl : List (Str × Addr)) (fp : List Addr), Dc (BX X scope s H C cl fp) W0 k → PTs (BX X scope s H C cl fp) ifs (canT F W0 dt))
    (he : ∀ (s : Shared) (H : Hp) (C : Addr) (cl : List (Str × Addr)) (fp : List Addr), Dc (BX X scope s H C cl fp) W0 k → DE F (BX X scope s H C cl fp) W0 elt de)
    (hk : X.env.scope.kind = .function := by rfl) (hy : X.N[i]? = some y := by rfl) (hyl : X.env.scope.names.lookup y = some .local := by rfl) (hl : (py.line == pos.line) = true := by rfl) (ha : (scope.names.any fun (n, k) => n == y && (k == .local || k == .cell)) = false := by rfl) (hs : ∀ x, foldedSetIterable iter X.env x = pure x := by intro _; rfl) :
    DSet F X W i (.Assign [.Name y py] (.ListComp elt [⟨tg, iter, ifs, 0⟩] scope pos) spos) (compD set dt de (own.map (·.2)) di) := by
  obtain ⟨wi, pi, qi⟩ := hi
  exact ⟨_, ps_setLc d.calm hN hy hyl (sw_true hk hyl hl ha) pi bo hg (fun s H C cl fp => ht s H C cl fp d.blk) (fun s H C cl fp => (he s H C cl fp d.blk).can) hs, comp_t qi hgo⟩
def slpF (d : D) (lo hi st : Option Int) (M : Store) : RE := match d with
  | .tup ds => prtF (.tup ds) lo hi st M
  | d => slcF d lo hi st M
def slpD (da : DenE) (dl dh dt : DenO) : DenE := fun e M => bindE (da e M) fun d M1 => bindE (dl e M1) fun l M2 => bindE (dh e M2) fun h M3 => bindE (dt e M3) fun t M4 => slpF d l h t M4
theorem slp_or {da : DenE} {dl dh dt : DenO} : slpD da dl dh dt e M = slD da dl dh dt e M ∨ slpD da dl dh dt e M = prtD da dl dh dt e M := by
  unfold slpD slD prtD
  cases da e M with
  | none => exact .inl rfl
  | some z =>
    obtain ⟨o, M1⟩ := z
    cases o with
    | exc c fs => exact .inl rfl
    | val d =>
      cases d with
      | tup ds => exact .inr rfl
      | _ => exact .inl rfl
theorem de_slp {x : Expr} {lo hi st : Option Expr} {da : DenE} {dl dh dt : DenO} {pos p2 : Pos} (ha : DE F X W x da) (hl : DO F X W lo dl) (hh : DO F X W hi dh) (ht : DO F X W st dt) (hK : X.K = F.K := by rfl) : DE F X W (.Subscript x (.Slice lo hi st p2) pos) (slpD da dl dh dt) := by
  obtain ⟨t1, p1, q1⟩ := de_sl (pos := pos) (p2 := p2) ha hl hh ht hK
  obtain ⟨t2, p2, q2⟩ := de_prt (pos := pos) (p2 := p2) ha hl hh ht hK
  refine ⟨fun σ H Q => t1 σ H Q ∨ t2 σ H Q, ⟨fun pins s σ H Q I h => ?_⟩, fun e M L σ H Q sr pp => ?_⟩
  · rcases h with h | h
    · exact p1.run pins s σ H Q I h
    · exact p2.run pins s σ H Q I h
  · rcases slp_or (da := da) (dl := dl) (dh := dh) (dt := dt) (e := e) (M := M) with z | z
    · rw [z] at pp
      exact .inl (q1 e M L σ H Q sr pp)
    · rw [z] at pp
      exact .inr (q2 e M L σ H Q sr pp)
end
end DL
namespace DL
open PySem L2
section
variable {F : Fx} {X : Cx} {W : WX} {L L1 : List Addr} {H H1 : Hp} {M : Store} {e : DL.Env} {σ : L2.St} {k : Nat}
theorem callr_isiAll : CallR X (.builtin "isinstance") (fun vs H Q => rIsiXT X.K vs H Q ∨ (rIsiX X.K vs H Q ∨ rIsi X.K vs H Q)) := orC callr_isiXT callr_isi
theorem de_numE {x : Str} {i : Int} {pos : Pos} (hm : ∃ t, X.mg x = some (.int i t)) (hg : Gl X x := by rfl) (hd : (x == ("__debug__" : Str)) = false := by decide) : DE F X W (.Name x pos) (cD (.int i)) := by
  obtain ⟨t, h⟩ := hm
  exact de_num h hg hd
end
end DL
namespace DL
open PySem L2
def Bd (k : Nat) (i : Int) : Prop := i.natAbs < 2 ^ k
theorem Bd.mono {j k : Nat} {i : Int} (h : Bd j i) (hk : j ≤ k) : Bd k i := Nat.lt_of_lt_of_le h (Nat.pow_le_pow_right (by decide) hk)
theorem Bd.lg {k : Nat} {a : Int} (h : Bd k a) : a.natAbs.log2 ≤ k := by
  unfold Bd at h
  by_cases h0 : a.natAbs = 0
  · rw [h0]; simp
  · exact Nat.le_of_lt ((Nat.log2_lt h0).mpr h)
theorem bindE_v {α β : Type} (d : α) (M : Store) (f : α → Store → RD β) : bindE (ok d M) f = f d M := rfl
theorem thenS_v {α : Type} (d : α) (M : Store) (e : DL.Env) (f : α → Store → RS) : thenS (ok d M) e f = f d M := rfl
theorem bindE_x {α β : Type} (c : String) (fs : List (Str × D)) (M : Store) (f : α → Store → RD β) : bindE (some (.exc c fs, M)) f = some (.exc c fs, M) := rfl
theorem thenS_x {α : Type} (c : String) (fs : List (Str × D)) (M : Store) (e : DL.Env) (f : α → Store → RS) : thenS (some (.exc c fs, M)) e f = some (.ex c fs e, M) := rfl
theorem mulE {i j : Int} {M : Store} (h : i.natAbs.log2 + j.natAbs.log2 < 1000000) : mulF (.int i) (.int j) M = ok (.int (i * j)) M := if_pos h
theorem mulB {i j : Int} {k l : Nat} {M : Store} (hi : Bd k i) (hj : Bd l j) (h : k + l < 1000000) : mulF (.int i) (.int j) M = ok (.int (i * j)) M := mulE (by
  have := hi.lg
  have := hj.lg
  omega)
theorem addE {i j : Int} {M : Store} : addF (.int i) (.int j) M = ok (.int (i + j)) M := rfl
theorem subE {i j : Int} {M : Store} : subF (.int i) (.int j) M = ok (.int (i - j)) M := rfl
theorem ix0 (a : D) (r : List D) (M : Store) : ixF (.tup (a :: r)) (.int 0) M = ok a M := by
  unfold ixF
  simp [atI, ixN]
theorem ix1 (a b : D) (r : List D) (M : Store) : ixF (.tup (a :: b :: r)) (.int 1) M = ok b M := by
  have h : atI (a :: b :: r) 1 = some b := by
    unfold atI ixN
    rw [if_pos (by decide), if_pos (by rw [List.length_cons, List.length_cons]; omega)]
    rfl
  unfold ixF
  simp [h]
theorem fdivB {i j : Int} {k : Nat} {M : Store} (hj : Bd k j) (h0 : j ≠ 0) (h : k < 9000) : fdivF (.int i) (.int j) M = ok (.int (i.fdiv j)) M := by
  have h1 : j.natAbs.log2 < 9000 := Nat.lt_of_le_of_lt hj.lg h
  show (if decide (j ≠ 0 ∧ j.natAbs.log2 < 9000) = true then _ else _) = _
  exact if_pos (decide_eq_true ⟨h0, h1⟩)
theorem fmodE {i j : Int} {M : Store} (h0 : j ≠ 0) : fmodF (.int i) (.int j) M = ok (.int (i.fmod j)) M := if_pos (decide_eq_true h0)
theorem fdv {i j : Int} {M : Store} (h0 : 0 < j) (h : Bd 60 j) : fdivF (.int i) (.int j) M = ok (.int (i / j)) M := by
  rw [fdivB h (by omega) (by decide), Int.fdiv_eq_ediv_of_nonneg _ (by omega)]
theorem fmd {i j : Int} {M : Store} (h0 : 0 < j) : fmodF (.int i) (.int j) M = ok (.int (i % j)) M := by
  rw [fmodE (by omega), Int.fmod_eq_emod_of_nonneg _ (by omega)]
theorem eq_int {i j : Int} {M : Store} : eqF (.int i) (.int j) M = ok (.bl (decide (i = j))) M := by
  show ok (D.bl (false != decide (i = j))) M = _
  simp
theorem ne_int {i j : Int} {M : Store} : neF (.int i) (.int j) M = ok (.bl (!decide (i = j))) M := by
  show ok (D.bl (true != decide (i = j))) M = _
  simp
theorem ne_str {x y : Str} {M : Store} : neF (.str x) (.str y) M = ok (.bl (!decide (x = y))) M := by
  show ok (D.bl (true != decide (x = y))) M = _
  simp
theorem eq_str {x y : Str} {M : Store} : eqF (.str x) (.str y) M = ok (.bl (decide (x = y))) M := by
  show ok (D.bl (false != decide (x = y))) M = _
  simp
theorem lt_int {i j : Int} {M : Store} : ltF (.int i) (.int j) M = ok (.bl (decide (i < j))) M := rfl
theorem le_int {i j : Int} {M : Store} : leF (.int i) (.int j) M = ok (.bl (decide (i ≤ j))) M := rfl
theorem gt_int {i j : Int} {M : Store} : gtF (.int i) (.int j) M = ok (.bl (decide (j < i))) M := rfl
theorem ge_int {i j : Int} {M : Store} : geF (.int i) (.int j) M = ok (.bl (decide (j ≤ i))) M := rfl
theorem seq_nx {a b : DenS} {e e' : DL.Env} {M M' : Store} (h : a e M = some (.nx e', M')) : seqS a b e M = b e' M' := by
  unfold seqS
  rw [h]
theorem seq_rt {a b : DenS} {e : DL.Env} {d : D} {M M' : Store} (h : a e M = some (.rt d, M')) : seqS a b e M = some (.rt d, M') := by
  unfold seqS
  rw [h]
theorem seq_ex {a b : DenS} {e e' : DL.Env} {c : String} {fs : List (Str × D)} {M M' : Store} (h : a e M = some (.ex c fs e', M')) : seqS a b e M = some (.ex c fs e', M') := by
  unfold seqS
  rw [h]
theorem ix_lst {ds : List D} {i : Int} {M : Store} {d : D} (h : atI ds i = some d) : ixF (.lst ds) (.int i) M = ok d M := by
  unfold ixF
  simp [getL, h]
theorem ix_tup {ds : List D} {i : Int} {M : Store} {d : D} (h : atI ds i = some d) : ixF (.tup ds) (.int i) M = ok d M := by
  unfold ixF
  simp [h]
theorem ix_loc {n : Nat} {i : Int} {M : Store} {ds : List D} {d : D} (h : M[n]? = some (.lst ds)) (h2 : atI ds i = some d) : ixF (.loc n) (.int i) M = ok d M := by
  unfold ixF
  simp [getL, h, h2]
theorem ix_scr {ns : List Int} {i : Int} {M : Store} {d : D} (h2 : atI (ns.map D.int) i = some d) : ixF (.scr ns) (.int i) M = ok d M := by
  unfold ixF
  simp [getL, h2]
theorem at_nat {α : Type} {xs : List α} {n : Nat} {x : α} (h : xs[n]? = some x) : atI xs (n : Int) = some x := by
  have lt := (List.getElem?_eq_some_iff.mp h).1
  unfold atI ixN
  rw [if_pos (by omega)]
  rw [if_pos (by omega)]
  show xs[(n : Int).toNat]? = _
  rw [Int.toNat_natCast]
  exact h
theorem len_scr {ns : List Int} {M : Store} : lenF [.scr ns] M = ok (.int (ns.length : Int)) M := by
  unfold lenF
  simp [getL]
theorem len_tup {ds : List D} {M : Store} : lenF [.tup ds] M = ok (.int (ds.length : Int)) M := rfl
theorem len_lst {ds : List D} {M : Store} : lenF [.lst ds] M = ok (.int (ds.length : Int)) M := by
  unfold lenF
  simp [getL]
theorem len_loc {n : Nat} {ds : List D} {M : Store} (h : M[n]? = some (.lst ds)) : lenF [.loc n] M = ok (.int (ds.length : Int)) M := by
  unfold lenF
  simp [getL, h]
theorem abs_is {i a : Int} {M : Store} (h : a = (i.natAbs : Int)) : absF [.int i] M = ok (.int a) M := by
  have e : (if i < 0 then -i else i) = a := by split <;> omega
  show ok (D.int (if i < 0 then -i else i)) M = _
  rw [e]
theorem typ_int {i : Int} {M : Store} : typF [.int i] M = ok (.ty "int") M := rfl
theorem typ_tup {ds : List D} {M : Store} : typF [.tup ds] M = ok (.ty "tuple") M := rfl
theorem typ_non {M : Store} : typF [.non] M = ok (.ty "NoneType") M := rfl
theorem typ_lst {ds : List D} {M : Store} : typF [.lst ds] M = ok (.ty "list") M := rfl
theorem tup_tup {ds : List D} {M : Store} : tupcF [.tup ds] M = ok (.tup ds) M := rfl
theorem tup_lst {ds : List D} {M : Store} (h : ds.length ≤ 100000) : tupcF [.lst ds] M = ok (.tup ds) M := by
  unfold tupcF
  simp [getL, h]
theorem tup_loc {n : Nat} {ds : List D} {M : Store} (h : M[n]? = some (.lst ds)) (hl : ds.length ≤ 100000) : tupcF [.loc n] M = ok (.tup ds) M := by
  unfold tupcF
  simp [getL, h, hl]
theorem pow_nat {i : Int} {n : Nat} {M : Store} (h : (i.natAbs.log2 + 1) * n ≤ 134217728) : powF (.int i) (.int (n : Int)) M = ok (.int (i ^ n)) M := by
  show (if decide ((0 : Int) ≤ (n : Int) ∧ (i.natAbs.log2 + 1) * (n : Int).toNat ≤ 134217728) = true then ok (D.int (i ^ (n : Int).toNat)) M else none) = _
  exact if_pos (decide_eq_true ⟨by omega, h⟩)
theorem small_n {n : Nat} (h : n ≤ 1000000) : small62 (n : Int) = true := decide_eq_true (by omega)
theorem small_i {i : Int} (h : i.natAbs ≤ 1000000) : small62 i = true := decide_eq_true (by omega)
mutual
theorem nl_mono (n : Nat) : ∀ d : D, nlD 0 d = true → nlD n d = true
  | .non, _ => rfl
  | .bl _, _ => rfl
  | .int _, _ => rfl
  | .str _, _ => rfl
  | .ty _, _ => rfl
  | .cls _, _ => rfl
  | .ktp _, _ => rfl
  | .scr _, _ => rfl
  | .emp, _ => rfl
  | .tup ds, h => nls_mono n ds h
  | .lst ds, h => nls_mono n ds h
  | .loc k, h => absurd (of_decide_eq_true (p := k < 0) h) (Nat.not_lt_zero k)
  | .exc _ fs, h => nlf_mono n fs h
  | .clo _ _ _ _ _ ds, h => nls_mono n ds h
theorem nls_mono (n : Nat) : ∀ ds : List D, nlDs 0 ds = true → nlDs n ds = true
  | [], _ => rfl
  | d :: ds, h => by
    have h' : (nlD 0 d && nlDs 0 ds) = true := h
    rw [Bool.and_eq_true] at h'
    show (nlD n d && nlDs n ds) = true
    rw [nl_mono n d h'.1, nls_mono n ds h'.2]
    rfl
theorem nlf_mono (n : Nat) : ∀ fs : List (Str × D), nlF 0 fs = true → nlF n fs = true
  | [], _ => rfl
  | (f, d) :: fs, h => by
    have h' : (nlD 0 d && nlF 0 fs) = true := h
    rw [Bool.and_eq_true] at h'
    show (nlD n d && nlF n fs) = true
    rw [nl_mono n d h'.1, nlf_mono n fs h'.2]
    rfl
end
theorem nls_all {n : Nat} : ∀ {ds : List D}, (∀ d ∈ ds, nlD n d = true) → nlDs n ds = true
  | [], _ => rfl
  | d :: ds, h => by
    show (nlD n d && nlDs n ds) = true
    rw [h d List.mem_cons_self, nls_all fun x hx => h x (List.mem_cons_of_mem _ hx)]
    rfl
theorem nls_map {α : Type} {n : Nat} {xs : List α} {f : α → D} (h : ∀ x ∈ xs, nlD n (f x) = true) : nlDs n (xs.map f) = true := nls_all fun d hd => by
  obtain ⟨x, hx, rfl⟩ := List.mem_map.mp hd
  exact h x hx
theorem cutD_nl {n : Nat} {M' : Store} {d : D} (h : nlD n d = true) (hl : ∀ k, d ≠ .loc k) : cutD n M' d = some d := by
  unfold cutD
  split
  · exact absurd rfl (hl _)
  · exact if_pos h
theorem cutD_pd {n : Nat} {M' : Store} {d : D} (h : nlD 0 d = true) : cutD n M' d = some d := cutD_nl (nl_mono n d h) fun k z => by
  rw [z] at h
  exact absurd (of_decide_eq_true (p := k < 0) h) (Nat.not_lt_zero k)
theorem cutD_loc {M X : Store} {ds : List D} (h : nlDs M.length ds = true) : cutD M.length (M ++ .lst ds :: X) (.loc M.length) = some (.lst ds) := by
  unfold cutD
  simp [h]
section
variable {n : Nat} {den : DenS} {args : List D} {e0 e' : DL.Env} {v : D} {M M1 X : Store}
theorem fv_rt (X : Store) (he : args.map some ++ List.replicate (n - args.length) none = e0) (h : den e0 M = some (.rt v, M ++ X)) (hv : nlD 0 v = true) : cutF (ofBody n den) args M = ok v M :=
  cut_val (by unfold ofBody; rw [he, h] <;> rfl) (cutD_pd hv)
theorem fv_rt0 (he : args.map some ++ List.replicate (n - args.length) none = e0) (h : den e0 M = some (.rt v, M)) (hv : nlD 0 v = true) : cutF (ofBody n den) args M = ok v M :=
  fv_rt [] he (by rw [h, List.append_nil]) hv
theorem fv_nx (X : Store) (he : args.map some ++ List.replicate (n - args.length) none = e0) (h : den e0 M = some (.nx e', M ++ X)) : cutF (ofBody n den) args M = ok .non M :=
  cut_val (by unfold ofBody; rw [he, h] <;> rfl) (cutD_pd rfl)
theorem fv_ex {c : String} {fs : List (Str × D)} (X : Store) (he : args.map some ++ List.replicate (n - args.length) none = e0) (h : den e0 M = some (.ex c fs e', M ++ X)) (hv : nlF 0 fs = true) : cutF (ofBody n den) args M = some (.exc c fs, M) :=
  cut_exc (by unfold ofBody; rw [he, h] <;> rfl) (nlf_mono _ fs hv)
/-- the first lists changed, too -/
theorem fv_rt2 (X : Store) (he : args.map some ++ List.replicate (n - args.length) none = e0) (h : den e0 M = some (.rt v, M1 ++ X)) (hl : M1.length = M.length) (hc : ∀ (j : Nat) (ob : Ob), j < M.length → M1[j]? = some ob → M[j]? = some ob ∨ nlOb M.length ob = true) (hv : nlD 0 v = true) : cutF (ofBody n den) args M = ok v M1 :=
  cut_val2 (by unfold ofBody; rw [he, h] <;> rfl) hl hc (cutD_pd hv)
theorem set_ok {ob : Ob} {i : Nat} (h : nlOb M.length ob = true) : ∀ (j : Nat) (o : Ob), j < M.length → (M.set i ob)[j]? = some o → M[j]? = some o ∨ nlOb M.length o = true := fun j o lt q => by
  by_cases hj : i = j
  · subst hj
    rw [List.getElem?_set_self lt] at q
    cases q
    exact .inr h
  · rw [List.getElem?_set_ne hj] at q
    exact .inl q
end
section
variable {α β : Type} {set set1 : D → DL.Env → Option DL.Env} {dt dt1 de : DenE} {vs vs1 : List Nat} {di di1 : DenI} {e : DL.Env} {M M1 : Store} {chk : Store → Prop} {g : α → D} {p : α → Bool} {f : α → D}
theorem compL_at {e0 : DL.Env} (M : Store) (hchk : ∀ acc, chk (M ++ [.lst acc])) : ∀ (xs : List α) (acc : List D), acc.length + xs.length ≤ 100000 →
    (∀ x ∈ xs, ∃ e1, set (g x) e0 = some e1 ∧ (∀ acc, dt e1 (M ++ [.lst acc]) = ok (.bl (p x)) (M ++ [.lst acc])) ∧ (p x = true → ∀ acc, de e1 (M ++ [.lst acc]) = ok (f x) (M ++ [.lst acc]))) →
    compL chk set dt de e0 M.length (xs.map g) (M ++ [.lst acc]) = ok () (M ++ [.lst (acc ++ (xs.filter p).map f)])
  | [], acc, _, _ => by
    unfold compL
    simp [hchk]
  | x :: xs, acc, hl, h => by
    obtain ⟨e1, h1, h2, h3⟩ := h x List.mem_cons_self
    have hl' : acc.length + (xs.length + 1) ≤ 100000 := hl
    have ih := compL_at (e0 := e0) M hchk xs
    show compL chk set dt de e0 M.length (g x :: xs.map g) _ = _
    unfold compL
    rw [if_pos (hchk acc), h1]
    dsimp only
    rw [h2 acc]
    cases hp : p x with
    | false =>
      show compL chk set dt de e0 M.length (xs.map g) (M ++ [.lst acc]) = _
      rw [ih acc (by omega) fun y hy => h y (List.mem_cons_of_mem _ hy), List.filter_cons_of_neg (by rw [hp]; exact Bool.false_ne_true)]
    | true =>
      show bindV (de e1 (M ++ [.lst acc])) _ = _
      rw [h3 hp acc]
      show (match (M ++ [Ob.lst acc])[M.length]? with | some (.lst acc) => _ | _ => none) = _
      rw [List.getElem?_append_right (Nat.le_refl _), Nat.sub_self]
      show (if acc.length < 100000 then _ else none) = _
      rw [if_pos (by omega)]
      have es : (M ++ [Ob.lst acc]).set M.length (.lst (acc ++ [f x])) = M ++ [.lst (acc ++ [f x])] := by
        rw [List.set_append_right _ _ (Nat.le_refl _), Nat.sub_self]
        rfl
      rw [es, ih (acc ++ [f x]) (by rw [List.length_append, List.length_singleton]; omega) fun y hy => h y (List.mem_cons_of_mem _ hy), List.filter_cons_of_pos hp, List.append_assoc]
      rfl
theorem comp_at (xs : List α) (hdi : di e M = ok (xs.map g, chk) M) (hchk : ∀ acc, chk (M ++ [.lst acc])) (hl : xs.length ≤ 100000)
    (h : ∀ x ∈ xs, ∃ e1, set (g x) (wipeE e vs) = some e1 ∧ (∀ acc, dt e1 (M ++ [.lst acc]) = ok (.bl (p x)) (M ++ [.lst acc])) ∧ (p x = true → ∀ acc, de e1 (M ++ [.lst acc]) = ok (f x) (M ++ [.lst acc]))) :
    compD set dt de vs di e M = ok (.loc M.length) (M ++ [.lst ((xs.filter p).map f)]) := by
  unfold compD
  rw [hdi, bindE_v]
  dsimp only
  rw [compL_at (p := p) (f := f) M hchk xs [] (by simpa using hl) h]
  rfl
theorem compC_at (xs : List α) (hdi : di e M = ok (xs.map g, chk) M) (hchk : ∀ acc, chk (M ++ [.lst acc])) (hl : xs.length ≤ 100000)
    (h : ∀ x ∈ xs, ∃ e1, set (g x) (wipeE e vs) = some e1 ∧ (∀ acc, dt e1 (M ++ [.lst acc]) = ok (.bl (p x)) (M ++ [.lst acc])) ∧ (p x = true → ∀ acc, de e1 (M ++ [.lst acc]) = ok (f x) (M ++ [.lst acc])))
    (hn : ∀ x ∈ xs, nlD M.length (f x) = true) : cutE (compD set dt de vs di) e M = ok (.lst ((xs.filter p).map f)) M :=
  cutE_val (comp_at xs hdi hchk hl h) (cutD_loc (X := []) (nls_map fun x hx => hn x (List.mem_filter.mp hx).1))
/-- nothing left out; over values; nothing of the store -/
theorem comp_v (xs : List α) (hdi : di e M = ok (xs.map g, fun _ => True) M) (hl : xs.length ≤ 100000)
    (h : ∀ x ∈ xs, ∃ e1, set (g x) (wipeE e vs) = some e1 ∧ ∀ M, de e1 M = ok (f x) M)
    (hn : ∀ x ∈ xs, nlD 0 (f x) = true) : cutE (compD set (cD (.bl true)) de vs di) e M = ok (.lst (xs.map f)) M := by
  have q := compC_at (p := fun _ => true) (dt := cD (.bl true)) xs hdi (fun _ => trivial) hl (fun x hx => by
    obtain ⟨e1, h1, h2⟩ := h x hx
    exact ⟨e1, h1, fun _ => rfl, fun _ acc => h2 _⟩) fun x hx => nl_mono _ _ (hn x hx)
  rw [List.filter_eq_self.mpr (fun _ _ => rfl)] at q
  exact q
end
theorem it_tup {da : DenE} {e : DL.Env} {M : Store} {ds : List D} (h : da e M = ok (.tup ds) M) : itD da e M = ok (ds, fun _ => True) M := by
  unfold itD
  rw [h]
  rfl
theorem it_lst {da : DenE} {e : DL.Env} {M : Store} {ds : List D} (h : da e M = ok (.lst ds) M) : itD da e M = ok (ds, fun _ => True) M := by
  unfold itD
  rw [h]
  rfl
theorem it_rng {dr : DenA} {e : DL.Env} {M : Store} {n : Nat} (h : dr e M = ok [.int (n : Int)] M) (hn : n ≤ 1000000) : rng1 dr e M = ok ((List.range n).map fun (j : Nat) => D.int (j : Int), fun _ => True) M := by
  unfold rng1
  rw [h, bindE_v]
  dsimp only
  rw [if_pos (small_n hn), Int.toNat_natCast]
  unfold rngI
  simp
section
variable {g : DenG} {body : DenS} {chk : Store → Prop} {di : DenI} {e : DL.Env} {M : Store}
/-- a loop through: what holds ahead of turn i -/
theorem for_inv (Inv : Nat → DL.Env → Store → Prop) : ∀ (ds : List D) (i : Nat) (e : DL.Env) (M : Store), (∀ (j : Nat) (d : D) (e : DL.Env) (M : Store), ds[j]? = some d → Inv (i + j) e M → chk M ∧ ∃ e1 M1 e2 M2, g d e M = some (.nx e1, M1) ∧ (body e1 M1 = some (.nx e2, M2) ∨ body e1 M1 = some (.ct e2, M2)) ∧ Inv (i + j + 1) e2 M2) →
    (∀ e M, Inv (i + ds.length) e M → chk M) → Inv i e M → ∃ e' M', forIL g chk body ds e M = some (.nx e', M') ∧ Inv (i + ds.length) e' M'
  | [], i, e, M, _, hc, h => ⟨e, M, by unfold forIL; rw [if_pos (hc e M h)], h⟩
  | d :: ds, i, e, M, hs, hc, h => by
    obtain ⟨c, e1, M1, e2, M2, h1, h2, h3⟩ := hs 0 d e M rfl h
    obtain ⟨e', M', h4, h5⟩ := for_inv Inv ds (i + 1) e2 M2 (fun j d' e M q w => by
      have := hs (j + 1) d' e M q (by rwa [show i + (j + 1) = i + 1 + j by omega])
      rwa [show i + (j + 1) + 1 = i + 1 + j + 1 by omega] at this) (fun e M w => hc e M (by rwa [List.length_cons, show i + (ds.length + 1) = i + 1 + ds.length by omega])) h3
    refine ⟨e', M', ?_, by rwa [List.length_cons, show i + (ds.length + 1) = i + 1 + ds.length by omega]⟩
    unfold forIL
    rw [if_pos c, h1]
    dsimp only
    rcases h2 with h2 | h2
    · rw [h2]
      exact h4
    · rw [h2]
      exact h4
theorem for_all (ds : List D) (Inv : Nat → DL.Env → Store → Prop) (hdi : di e M = ok (ds, chk) M) (hs : ∀ (j : Nat) (d : D) (e : DL.Env) (M : Store), ds[j]? = some d → Inv j e M → chk M ∧ ∃ e1 M1 e2 M2, g d e M = some (.nx e1, M1) ∧ (body e1 M1 = some (.nx e2, M2) ∨ body e1 M1 = some (.ct e2, M2)) ∧ Inv (j + 1) e2 M2)
    (hc : ∀ e M, Inv ds.length e M → chk M) (h : Inv 0 e M) : ∃ e' M', forI g di body e M = some (.nx e', M') ∧ Inv ds.length e' M' := by
  obtain ⟨e', M', h1, h2⟩ := for_inv Inv ds 0 e M (fun j d e M q w => by
    rw [Nat.zero_add] at w ⊢
    exact hs j d e M q w) (fun e M w => hc e M (by rwa [Nat.zero_add] at w)) h
  refine ⟨e', M', ?_, by rwa [Nat.zero_add] at h2⟩
  unfold forI
  rw [hdi, thenS_v]
  exact h1
end
def Wp (r : RS) (P : Flw → Store → Prop) : Prop := ∃ f M, r = some (f, M) ∧ P f M
section
variable {a b : DenS} {e e' : DL.Env} {M M' : Store} {P : Flw → Store → Prop} {v : D}
theorem wp_nx (h : a e M = some (.nx e', M')) (k : Wp (b e' M') P) : Wp (seqS a b e M) P := by
  rw [seq_nx h]
  exact k
theorem wp_of (f : Flw) (h : a e M = some (f, M')) (k : P f M') : Wp (a e M) P := ⟨f, M', h, k⟩
theorem wp_seq (h : Wp (a e M) (fun f M' => (∃ e', f = .nx e' ∧ Wp (b e' M') P) ∨ ((∀ e', f ≠ .nx e') ∧ P f M'))) : Wp (seqS a b e M) P := by
  obtain ⟨f, M', h1, h2⟩ := h
  rcases h2 with ⟨e', rfl, h2⟩ | ⟨h2, h3⟩
  · rw [seq_nx h1]
    exact h2
  · refine ⟨f, M', ?_, h3⟩
    unfold seqS
    rw [h1]
    cases f with
    | nx e' => exact absurd rfl (h2 e')
    | _ => rfl
theorem wp_if {dt : DenE} (c : Bool) (h : dt e M = ok (.bl c) M') (k : c = true → Wp (a e M') P) (k' : c = false → Wp (b e M') P) : Wp (ifS dt a b e M) P := by
  unfold ifS
  rw [h, thenS_v]
  cases c with
  | true => exact k rfl
  | false => exact k' rfl
theorem wp_for {g : DenG} {body : DenS} {chk : Store → Prop} {di : DenI} (ds : List D) (Inv : Nat → DL.Env → Store → Prop) (hdi : di e M = ok (ds, chk) M)
    (hs : ∀ (j : Nat) (d : D) (e : DL.Env) (M : Store), ds[j]? = some d → Inv j e M → chk M ∧ ∃ e1 M1, g d e M = some (.nx e1, M1) ∧ Wp (body e1 M1) fun f M2 => ∃ e2, (f = .nx e2 ∨ f = .ct e2) ∧ Inv (j + 1) e2 M2)
    (hc : ∀ e M, Inv ds.length e M → chk M) (h : Inv 0 e M) (k : ∀ e' M', Inv ds.length e' M' → P (.nx e') M') : Wp (forI g di body e M) P := by
  obtain ⟨e', M', h1, h2⟩ := for_all ds Inv hdi (fun j d e M q w => by
    obtain ⟨c, e1, M1, h1, f, M2, h2, e2, h3, h4⟩ := hs j d e M q w
    refine ⟨c, e1, M1, e2, M2, h1, ?_, h4⟩
    rcases h3 with rfl | rfl
    · exact .inl h2
    · exact .inr h2) hc h
  exact ⟨_, _, h1, k e' M' h2⟩
theorem wp_for_nx {g : DenG} {body : DenS} {chk : Store → Prop} {di : DenI} (ds : List D) (Inv : Nat → DL.Env → Store → Prop) (hdi : di e M = ok (ds, chk) M)
    (hs : ∀ (j : Nat) (d : D) (e : DL.Env) (M : Store), ds[j]? = some d → Inv j e M → chk M ∧ ∃ e1 M1, g d e M = some (.nx e1, M1) ∧ Wp (body e1 M1) fun f M2 => ∃ e2, (f = .nx e2 ∨ f = .ct e2) ∧ Inv (j + 1) e2 M2)
    (hc : ∀ e M, Inv ds.length e M → chk M) (h : Inv 0 e M) (k : ∀ e' M', Inv ds.length e' M' → Wp (b e' M') P) : Wp (seqS (forI g di body) b e M) P :=
  wp_seq (wp_for ds Inv hdi hs hc h fun e' M' w => .inl ⟨e', rfl, k e' M' w⟩)
variable {n : Nat} {den : DenS} {args : List D} {e0 : DL.Env}
theorem fv_wp (he : args.map some ++ List.replicate (n - args.length) none = e0) (h : Wp (den e0 M) fun f M' => f = .rt v ∧ ∃ X, M' = M ++ X) (hv : nlD 0 v = true) : cutF (ofBody n den) args M = ok v M := by
  obtain ⟨f, M', h1, rfl, X, rfl⟩ := h
  exact fv_rt X he h1 hv
theorem fv_wpn (he : args.map some ++ List.replicate (n - args.length) none = e0) (h : Wp (den e0 M) fun f M' => (∃ e', f = .nx e') ∧ ∃ X, M' = M ++ X) : cutF (ofBody n den) args M = ok .non M := by
  obtain ⟨f, M', h1, ⟨e', rfl⟩, X, rfl⟩ := h
  exact fv_nx X he h1
end
theorem chain_le {da db dc : DenE} {e : DL.Env} {M : Store} {i j k : Int} (ha : da e M = ok (.int i) M) (hb : db e M = ok (.int j) M) (hc : dc e M = ok (.int k) M) : chainD leF leF da db dc e M = ok (.bl (decide (i ≤ j) && decide (j ≤ k))) M := by
  unfold chainD
  rw [ha, bindE_v, hb, bindE_v, le_int, bindE_v]
  cases decide (i ≤ j) with
  | true =>
    show bindE (dc e M) _ = _
    rw [hc, bindE_v, le_int]
    rfl
  | false => rfl
def rowD (n : Nat) (f : Nat → D) : D := .tup ((List.range n).map f)
section
variable {n w h : Nat} {f f2 : Nat → D} {M : Store}
theorem len_row : lenF [rowD n f] M = ok (.int (n : Int)) M := by
  unfold rowD
  rw [len_tup, List.length_map, List.length_range]
theorem typ_row : typF [rowD n f] M = ok (.ty "tuple") M := rfl
theorem ix_row {i : Nat} (hi : i < n) : ixF (rowD n f) (.int (i : Int)) M = ok (f i) M := ix_tup (at_nat (by rw [List.getElem?_map, List.getElem?_range hi]; rfl))
theorem ix_rowI {i : Int} {k : Nat} (e : i = (k : Int)) (hi : k < n) : ixF (rowD n f) (.int i) M = ok (f k) M := by
  rw [e]
  exact ix_row hi
theorem nl_row (h : ∀ i, i < n → nlD 0 (f i) = true) : nlD 0 (rowD n f) = true := nls_map fun i hi => h i (List.mem_range.mp hi)
theorem row_ext (h : ∀ i, i < n → f i = f2 i) : rowD n f = rowD n f2 := congrArg D.tup (List.map_congr_left fun i hi => h i (List.mem_range.mp hi))
theorem tup_row (hn : n ≤ 100000) : tupcF [.lst ((List.range n).map f)] M = ok (rowD n f) M := tup_lst (by rw [List.length_map, List.length_range]; exact hn)
theorem it_row {da : DenE} {e : DL.Env} (h : da e M = ok (rowD n f) M) : itD da e M = ok ((List.range n).map f, fun _ => True) M := it_tup h
end
end DL
namespace DL
open PySem L2
section
variable {M : Store} {e : DL.Env} {n : Nat} {da db dob : DenE} {dr : DenA}
theorem get_mid {ob : Ob} {X : Store} : (M ++ ob :: X)[M.length]? = some ob := by
  rw [List.getElem?_append_right (Nat.le_refl _), Nat.sub_self]
  rfl
theorem set_mid {ob ob' : Ob} {X : Store} : (M ++ ob :: X).set M.length ob' = M ++ ob' :: X := by
  rw [List.set_append_right _ _ (Nat.le_refl _), Nat.sub_self]
  rfl
theorem get_lt {α : Type} {xs : List α} {j : Nat} {x : α} (h : xs[j]? = some x) : j < xs.length := (List.getElem?_eq_some_iff.mp h).1
theorem app_ok2 {ds : List D} {d : D} {M1 M2 : Store} (ho : dob e M = ok (.loc n) M1) (ha : da e M1 = ok d M2) (hn : M2[n]? = some (.lst ds)) (hl : ds.length < 100000) (hk : isL M1 n = true) : appS dob da e M = some (.nx e, M2.set n (.lst (ds ++ [d]))) := by
  unfold appS
  rw [ho, thenS_v]
  show (if isL M1 n = true then thenS (da e M1) e _ else none) = _
  rw [if_pos hk]
  rw [ha, thenS_v]
  show (match M2[n]? with | some (.lst ds) => _ | _ => none) = _
  rw [hn]
  exact if_pos hl
theorem app_ok {ds : List D} {d : D} {M1 : Store} (ho : dob e M = ok (.loc n) M1) (ha : da e M1 = ok d M1) (hn : M1[n]? = some (.lst ds)) (hl : ds.length < 100000) : appS dob da e M = some (.nx e, M1.set n (.lst (ds ++ [d]))) := app_ok2 ho ha hn hl (isL_at hn)
/-- the list of number n, behind M1 -/
structure At (M1 : Store) (n : Nat) (ds : List D) (M : Store) : Prop where
  ge : M1.length ≤ n
  get : M[n]? = some (.lst ds)
  ex : ∃ X, M = M1 ++ X
theorem At.new {M1 : Store} {ds : List D} (h : ∃ X, M = M1 ++ X) : At M1 M.length ds (M ++ [.lst ds]) := by
  obtain ⟨X, rfl⟩ := h
  exact ⟨by rw [List.length_append]; omega, get_mid, X ++ [.lst ds], List.append_assoc _ _ _⟩
theorem At.set {M1 : Store} {ds es : List D} (h : At M1 n ds M) : At M1 n es (M.set n (.lst es)) := by
  obtain ⟨X, rfl⟩ := h.ex
  refine ⟨h.ge, List.getElem?_set_self (get_lt h.get), X.set (n - M1.length) (.lst es), ?_⟩
  rw [List.set_append_right _ _ h.ge]
theorem At.more {M1 : Store} {ds es : List D} (h : At M1 n ds M) : At M1 n ds (M ++ [.lst es]) := by
  obtain ⟨X, rfl⟩ := h.ex
  exact ⟨h.ge, by rw [List.getElem?_append_left (get_lt h.get)]; exact h.get, X ++ [.lst es], List.append_assoc _ _ _⟩
end
end DL
namespace DL
open PySem L2
section
variable {F : Fx} {X : Cx} {W : WX} {L L1 : List Addr} {H H1 : Hp} {M : Store} {e : DL.Env} {σ : L2.St} {T : Ends} {k : Nat}
/-- +, an empty tuple ahead, too -/
def addGF : D → D → Store → RE
  | .tup [], .tup ys, M => if ys.length ≤ 100000 then ok (.tup ys) M else none
  | x, y, M => addF x y M
abbrev rAddG (K : PySem.W.Frag) : R2 := fun x y H Q => rAddD K x y H Q ∨ rCatA K x y H Q
theorem opr_addG : OpR X (binaryOp .Add) (rAddG X.K) := orR opr_add op_catA
theorem addG_ok : OpOk F (rAddG F.K) addGF := fun d1 d2 M L H e σ W v1 v2 Q sr r1 r2 p => by
  unfold addGF at p
  split at p
  · rename_i ys
    obtain ⟨a, vs, rfl, a2, a3⟩ := r1
    obtain ⟨b, ws, rfl, b2, b3⟩ := r2
    have a3 : vs = [] := a3
    split at p
    · rename_i hz
      refine .inr ⟨a, b, vs, ws, rfl, rfl, (.inl (.inl a2)), (.inl (.inl b2)), ?_, fun _ => p.ok sr ⟨b, ws, rfl, b2, b3⟩, fun z => absurd a3 z, fun z => absurd a3 z⟩
      rw [a3, ← reps_len b3]
      exact Nat.le_trans (Nat.le_of_eq (Nat.zero_add _)) (sz_ok hz)
    · exact False.elim p
  · exact .inl (add_ok d1 d2 M L H e σ W v1 v2 Q sr r1 r2 p)
end
end DL
namespace DL
open PySem L2
theorem meets_enum1 {v : Value} {o : Obj} {H : Heap → Prop} (B : Begins v o H) :
    Meets (Builtin.«enumerate.__new__» { pos := [Value.type "enumerate", v] }) fun _ R s =>
      H s.heap ∧ R (.ok (.ret (.ref (s.heap.push o).objs.size))) { heap := (s.heap.push o).push {cls := .type "enumerate", data := .fields #[.none, .bool false, .ref s.heap.objs.size, rawInt 0, .none, .none]}, gens := s.gens, drawn := s.drawn, toks := s.toks, os := s.os } := by
  refine Meets.of_wp (fun prog w A R s h => ?_)
  rcases s with ⟨hp, g, d, tk, os⟩
  obtain ⟨h1, h⟩ := h
  have hsub := sub_enumerate
  have q1 : ∀ {A' E Q}, Q (Value.ref hp.objs.size) { heap := hp.push o, gens := g, drawn := d, toks := tk, os := os } → wpAny (model prog w) A' (pyIter v) Q E { heap := hp, gens := g, drawn := d, toks := tk, os := os } := fun {A'} {E Q} q => B.iter prog w A' E { heap := hp, gens := g, drawn := d, toks := tk, os := os } Q h1 q
  unfold Builtin.«enumerate.__new__»
  refine wpAny_bind ?_
  refine wpAny_bind ?_
  refine wpAny_pure ?_
  apply wpAny_ite_false (by first | rfl | decide)
  refine wpAny_bind ?_
  refine wpAny_of_eq hsub ?_
  apply wpAny_ite_false (by first | rfl | decide)
  refine wpAny_pure ?_
  apply wpAny_ite_true (by first | rfl | decide)
  refine wpAny_bind ?_
  refine wpAny_bind ?_
  refine wpAny_stack_any fun st => ?_
  refine wpAny_pure ?_
  split
  · rename_i c tl kw sn tl2 hh
    generalize (c == Value.type "enumerate") = sh
    cases sh
    · apply wpAny_ite_false (by first | rfl | decide)
      refine wpAny_bind ?_
      refine wpAny_of_eq (show _ = (pure (v, (none : Option Value)) : Sem _) from rfl) ?_
      refine wpAny_bind (q1 ?_)
      refine wpAny_bind ?_
      unfold Builtin.SmallTypes.newRecord
      dsimp only
      unfold newObj
      dsimp only
      apply wpAny_ite_false (by rfl)
      unfold newObjAsIs
      refine wpAny_bind <| wpAny_alloc' ?_
      refine wpAny_pure ?_
      refine wpAny_pure ?_
      exact ⟨_, rfl, h⟩
    · apply wpAny_ite_true (by first | rfl | decide)
      refine wpAny_bind ?_
      refine wpAny_pure ?_
      refine wpAny_bind (q1 ?_)
      refine wpAny_bind ?_
      unfold Builtin.SmallTypes.newRecord
      dsimp only
      unfold newObj
      dsimp only
      apply wpAny_ite_false (by rfl)
      unfold newObjAsIs
      refine wpAny_bind <| wpAny_alloc' ?_
      refine wpAny_pure ?_
      refine wpAny_pure ?_
      exact ⟨_, rfl, h⟩
  · apply wpAny_ite_false (by first | rfl | decide)
    refine wpAny_bind ?_
    refine wpAny_of_eq (show _ = (pure (v, (none : Option Value)) : Sem _) from rfl) ?_
    refine wpAny_bind (q1 ?_)
    refine wpAny_bind ?_
    unfold Builtin.SmallTypes.newRecord
    dsimp only
    unfold newObj
    dsimp only
    apply wpAny_ite_false (by rfl)
    unfold newObjAsIs
    refine wpAny_bind <| wpAny_alloc' ?_
    refine wpAny_pure ?_
    refine wpAny_pure ?_
    exact ⟨_, rfl, h⟩
theorem call_enum1 {prog : Program} {w : World} {A : Around} {E : Value → Shared → Prop} {s : Shared} {v : Value} {o : Obj} {H : Heap → Prop} {Q : Value → Shared → Prop} (B : Begins v o H) (h0 : H s.heap)
    (h : ∀ (h' : Heap), IsEnum h' (s.heap.objs.size + 1) s.heap.objs.size 0 Value.none → h'.get? s.heap.objs.size = some o → h'.objs.size = s.heap.objs.size + 2 →
      (∀ (b : Addr) (o : Obj), s.heap.get? b = some o → h'.get? b = some o) → Q (Value.ref (s.heap.objs.size + 1)) { heap := h', gens := s.gens, drawn := s.drawn, toks := s.toks, os := s.os }) :
    wpAny (model prog w) A (call (Value.type "enumerate") [v]) Q E s := by
  refine callType_new F.called_enumerate (by decide) (F.typeCall_enumerate_1 v) (F.newCall_enumerate_1 v) (fun obj => F.args_object_init_2 obj v) F.entry_enumerate_new (meets_enum1 B) ⟨h0, ?_⟩
  have hz : (s.heap.push o).objs.size = s.heap.objs.size + 1 := Heap.size_push s.heap o
  have he := Heap.get?_push_size (s.heap.push o) (o := { cls := Value.type "enumerate", data := Data.fields #[Value.none, Value.bool false, Value.ref s.heap.objs.size, rawInt 0, Value.none, Value.none] }) rfl
  rw [hz] at he
  show _ ∧ _
  simp only [hz]
  refine ⟨⟨_, he, rfl⟩, h _ he (Heap.get?_push_of_some _ (Heap.get?_push_size s.heap B.free)) (by rw [Heap.size_push, hz]) fun b o y => Heap.get?_push_of_some _ (Heap.get?_push_of_some _ y)⟩
/-- enumerate over a tuple -/
def IteT (K : W.Frag) (a : Addr) : It where
  go := fun i H => ∃ xs x, SqT K H a xs ∧ xs[i]? = some x
  yld := fun i H v H' => ∃ T x, v = .ref T ∧ H T = none ∧ H' = upd H T (.tup [.int i, x]) ∧ ∀ xs, SqT K H a xs → xs[i]? = some x
  stop := fun i H => ∃ xs, SqT K H a xs ∧ xs.length = i
theorem hget_lt {h : Heap} {a : Addr} {o : Obj} (e : h.get? a = some o) : a < h.objs.size := by
  by_cases z : a < h.objs.size
  · exact z
  · have z2 : h.objs[a]? = none := Array.getElem?_eq_none (Nat.le_of_not_lt z)
    unfold Heap.get? at e
    rw [z2] at e
    cases e
theorem sqt_ne {s : Shared} {a b it : Addr} {i : Nat} {its : Array Value} (ht : PyProof.Rows.IsTup s.heap a its) (h : s.heap.IsTupleIter it b i) : a ≠ it := by
  rintro rfl
  obtain ⟨o, h1, h2, h3⟩ := ht
  obtain ⟨o', g1, g2, g3⟩ := h
  rw [h1] at g1
  cases g1
  rw [h2] at g2
  exact absurd g2 (by decide)
theorem turn_enumT {P : Program} {w : World} {K : W.Frag} {elts : List Expr} {kk : Nat} {tpos : Pos} (a e it : Addr) :
    Turn P w K (.Tuple elts kk tpos) (IteT K a) [e, it] e (fun i h => (∃ old, IsEnum h e it (i : Nat) old) ∧ h.IsTupleIter it a i ∧ e ≠ it) := by
  refine ⟨by simp, fun i h ⟨⟨old, h1⟩, ⟨o, h2, h3, h4⟩, h5⟩ b hb => ?_, fun i h h' ⟨⟨old, h1⟩, ⟨o, h2, h3, h4⟩, h5⟩ k => ?_, ?_, ?_, fun A i s Q E ⟨⟨old, h1⟩, _⟩ q => wpAny_pyIter_enum h1 q⟩
  · simp only [List.not_mem_nil, or_false, List.mem_cons] at hb
    rcases hb with rfl | rfl
    · exact ⟨_, h1, fun v z => by cases z⟩
    · exact ⟨o, h2, fun v z => by rw [h4] at z; cases z⟩
  · exact ⟨⟨old, k e (by simp) _ h1⟩, ⟨o, k it (by simp) _ h2, h3, h4⟩, h5⟩
  · rintro X rfl rfl rfl hc i pins s σ H E I hf ⟨⟨old, h1⟩, h2, h5⟩ ⟨xs, x, q, hx⟩
    obtain ⟨its, rv, p, hz⟩ := I.tuple q
    have pt : s.heap.IsTuple a its.toArray := p
    have hne : a ≠ it := sqt_ne p h2
    have hea : e ≠ a := by
      rintro rfl
      obtain ⟨o, g1, g2, g3⟩ := p
      rw [h1] at g1
      cases g1
      exact Value.noConfusion g2 (fun z => absurd z (by decide))
    have hi : i < its.toArray.size := by
      have := (List.getElem?_eq_some_iff.mp hx).1
      rw [List.size_toArray, ← Paired.length rv]
      exact this
    have G := GoesN.enumFrom (elts := elts) (x1 := kk) (pos := tpos) (prog := X.prog) (w := X.w) (A := X.A) (0 : Int) (Draws.tuple (prog := X.prog) (w := X.w) (A := X.A.in1) (I.ok.hd hc) it a hne its.toArray) e h5 (by simp [h5, hea]) (by simp)
    refine G.goes i s (fun v s2 => _) E hi ⟨⟨old, by simpa using h1⟩, h2, pt⟩ fun v h' tk ⟨T, t, y, hv, hT, hy, hp⟩ ⟨⟨old', k1⟩, k2, k3⟩ keep htk => ?_
    subst hv
    rcases rv.get hx with ⟨u, hu, ru⟩
    have e1 : y = u := by
      rw [List.getElem?_toArray, hu] at hy
      exact (Option.some.inj hy).symm
    subst e1
    have hTn : H T = none := I.hok.fresh hT
    have I2 : L2.Inv X pins σ (upd H T (.tup [.int i, x])) { heap := h', gens := s.gens, drawn := s.drawn, toks := tk, os := s.os } := by
      refine I.turnedNew (ch := [e, it]) keep hf hT ?_
      rw [ObjOk.eq_2]
      refine ⟨by show 2 ≤ sizeLine; decide, [.int ((0 : Int) + (i : Nat)) t, y], .cons ⟨t, by simp⟩ (.cons ru .nil), hp⟩
    refine ⟨.ref T, _, I2, rfl, ⟨T, x, rfl, hTn, rfl, fun zs hz2 => ?_⟩, ⟨⟨old', by simpa using k1⟩, k2, h5⟩, fun b hb => ?_⟩
    · rw [I.tuple_inj hz2 q]
      exact hx
    · have hb0 : ∃ o, s.heap.get? b = some o := by
        simp only [List.not_mem_nil, or_false, List.mem_cons] at hb
        rcases hb with rfl | rfl
        · exact ⟨_, h1⟩
        · obtain ⟨o, g1, _⟩ := h2
          exact ⟨o, g1⟩
      obtain ⟨o, g1⟩ := hb0
      have hbT : b ≠ T := by
        rintro rfl
        exact absurd (hget_lt g1) (Nat.not_lt_of_le hT)
      show (if b = T then _ else H b) = none
      rw [if_neg hbT]
      exact (hf b hb).1
  · rintro X rfl rfl rfl hc i pins s σ H E I hf ⟨⟨old, h1⟩, h2, h5⟩ ⟨xs, q, hx⟩
    obtain ⟨its, rv, p, hz⟩ := I.tuple q
    have pt : s.heap.IsTuple a its.toArray := p
    have hne : a ≠ it := sqt_ne p h2
    have hea : e ≠ a := by
      rintro rfl
      obtain ⟨o, g1, g2, g3⟩ := p
      rw [h1] at g1
      cases g1
      exact Value.noConfusion g2 (fun z => absurd z (by decide))
    have hi : i = its.toArray.size := by
      rw [List.size_toArray, ← Paired.length rv]
      exact hx.symm
    have G := GoesN.enumFrom (elts := elts) (x1 := kk) (pos := tpos) (prog := X.prog) (w := X.w) (A := X.A) (0 : Int) (Draws.tuple (prog := X.prog) (w := X.w) (A := X.A.in1) (I.ok.hd hc) it a hne its.toArray) e h5 (by simp [h5, hea]) (by simp)
    refine G.stops s (fun s2 => L2.Inv X pins σ H s2) E ⟨⟨old, by rw [← hi]; simpa using h1⟩, hi ▸ h2, pt⟩ fun h' tk keep htk => I.turnedL (ch := [e, it]) keep hf
def iEnum2 (K : PySem.W.Frag) (ta : TA) : TI := fun σ H R => ta σ H fun vs H1 => ∃ a, vs = [.ref a] ∧ (((∃ xs, SqL K H1 a xs) ∧ R (Ite K a) H1) ∨ ((∃ xs, SqT K H1 a xs) ∧ R (IteT K a) H1))
theorem pi_enum2 {X : Cx} {e : Expr} {ta : TA} {p pos tpos : Pos} {elts : List Expr} {kk : Nat} (hg : Gl X "enumerate") (hm : X.mg "enumerate" = none) (ha : PA X [e] ta) (hs : starEach [e] X.env = [(false, eval e X.env)]) :
    PI X (.Tuple elts kk tpos) (.Call (.Name "enumerate" p) [e] [] pos) (iEnum2 X.K ta) := by
  refine ⟨fun pns s σ H R I h => PyProof.Rows.Call_ (ld_blt I hg hm PyProof.Rows.boot_enumerate (PyProof.Rows.callWith_type1 (thn (ha.run pos pns s σ H _ I h) fun us s1 hh => ?_) hs rfl))⟩
  obtain ⟨vs, H1, I1, r1, a, rfl, q⟩ := hh
  obtain rfl := r1.ref1
  have nne : s1.heap.objs.size + 1 ≠ s1.heap.objs.size := by omega
  have hfp : ∀ b ∈ [s1.heap.objs.size + 1, s1.heap.objs.size], FpOk X pns H1 b := by
    intro b hb
    simp only [List.not_mem_nil, or_false, List.mem_cons] at hb
    rcases hb with rfl | rfl
    · exact I1.fpOk (Nat.le_succ _) (I1.hok.fresh (Nat.le_succ _))
    · exact I1.fpOk Nat.le.refl (I1.hok.fresh Nat.le.refl)
  rcases q with ⟨⟨xs, hq⟩, q⟩ | ⟨⟨xs, hq⟩, q⟩
  · obtain ⟨its, rv, p2, hz⟩ := I1.list hq
    refine call_enumerate_list p2.isList fun h' k1 k2 k3 keep => wpAny_pyIter_enum k1 ?_
    exact ⟨_, _, _, _, H1, rfl, I1.kept (t' := s1.toks) keep, turn_enum a _ _, ⟨⟨_, k1⟩, k2, nne⟩, hfp, q⟩
  · obtain ⟨its, rv, p2, hz⟩ := I1.tuple hq
    refine call_enum1 (begins_tuple a its.toArray) (show s1.heap.IsTuple a its.toArray from p2) fun h' k1 k2 k3 keep => wpAny_pyIter_enum k1 ?_
    exact ⟨_, _, _, _, H1, rfl, I1.kept (t' := s1.toks) keep, turn_enumT a _ _, ⟨⟨_, k1⟩, ⟨_, k2, rfl, rfl⟩, nne⟩, hfp, q⟩
section
variable {F : Fx} {X : Cx} {W : WX} {L L1 : List Addr} {H H1 : Hp} {M : Store} {e : DL.Env} {σ : L2.St} {T : Ends} {k : Nat}
/-- numbered things -/
def enumI : Nat → List D → List D
  | _, [] => []
  | k, d :: r => .tup [.int (k : Int), d] :: enumI (k + 1) r
theorem enum_len (ds : List D) : ∀ k, (enumI k ds).length = ds.length := by
  induction ds with
  | nil => intro k; rfl
  | cons d r ih => intro k; simp [enumI, ih]
theorem enum_get (ds : List D) : ∀ (k i : Nat), (enumI k ds)[i]? = ds[i]?.map fun d => .tup [.int ((k + i : Nat) : Int), d] := by
  induction ds with
  | nil => intro k i; rfl
  | cons d r ih =>
    intro k i
    cases i with
    | zero => rfl
    | succ i =>
      show (enumI (k + 1) r)[i]? = _
      rw [ih, List.getElem?_cons_succ]
      congr 1
      funext x
      rw [show k + 1 + i = k + (i + 1) by omega]
def enumD (dr : DenA) : DenI := fun e M => bindE (dr e M) fun ds M1 => match ds with
  | [d] => bindE (itemsF d M1) fun p M2 => ok (enumI 0 p.1, p.2) M2
  | _ => none
theorem stp_tup {H' : Hp} {M' : Store} {L' : List Addr} {Tt : Addr} {i : Nat} {x : V} {d : D} (m : SM F L' H' M') (hT : H' Tt = none) (r : Rep F L' H' d x) : Stp L' H' L' (upd H' Tt (.tup [.int (i : Nat), x])) ∧ SM F L' (upd H' Tt (.tup [.int (i : Nat), x])) M' ∧ Rep F L' (upd H' Tt (.tup [.int (i : Nat), x])) (.tup [.int ((0 + i : Nat) : Int), d]) (.ref Tt) := by
  have s : Stp L' H' L' (upd H' Tt (.tup [.int (i : Nat), x])) := Stp.alloc hT
  refine ⟨s, m.alloc hT, ⟨Tt, _, rfl, upd_same, .int (i : Nat), [x], rfl, ?_, x, [], rfl, Rep.stay m s _ _ r, rfl⟩⟩
  rw [Nat.zero_add]
  rfl
theorem walk_enumL {a : Addr} {ds : List D} {chk : Store → Prop} (h : ∀ (L' : List Addr) (H' : Hp) (M' : Store), Stp L H L' H' → SM F L' H' M' → chk M' → ∃ ws, SqL F.K H' a ws ∧ Reps F L' H' ds ws) : Walk F L H (Ite F.K a) (enumI 0 ds) chk := by
  refine ⟨fun L' H' M' s m' c => ?_, fun i d hd L' H' M' s m' c => ?_⟩
  · obtain ⟨ws, q, rr⟩ := h L' H' M' s m' c
    rw [enum_len]
    exact ⟨ws, q, Nat.le_of_eq (reps_len rr).symm⟩
  · rw [enum_get] at hd
    obtain ⟨d0, hd0, rfl⟩ := Option.map_eq_some_iff.mp hd
    obtain ⟨ws, q, rr⟩ := h L' H' M' s m' c
    obtain ⟨y, h1, h2⟩ := reps_get rr hd0
    refine ⟨⟨ws, y, q, h1⟩, fun x H'' hy => ?_⟩
    obtain ⟨Tt, x0, rfl, hT, rfl, z⟩ := hy
    have e := z ws q
    rw [h1] at e
    cases e
    exact stp_tup m' hT h2
theorem walk_enumT {a : Addr} {vs : List V} {ds : List D} {chk : Store → Prop} (m : SM F L H M) (q0 : SqT F.K H a vs) (r : Reps F L H ds vs) : Walk F L H (IteT F.K a) (enumI 0 ds) chk := by
  refine ⟨fun L' H' M' s m' c => ?_, fun i d hd L' H' M' s m' c => ?_⟩
  · rw [enum_len]
    exact ⟨vs, sqt_stay m s q0, (reps_len r).symm⟩
  · rw [enum_get] at hd
    obtain ⟨d0, hd0, rfl⟩ := Option.map_eq_some_iff.mp hd
    obtain ⟨y, h1, h2⟩ := reps_get r hd0
    refine ⟨⟨vs, y, sqt_stay m s q0, h1⟩, fun x H'' hy => ?_⟩
    obtain ⟨Tt, x0, rfl, hT, rfl, z⟩ := hy
    have e := z vs (sqt_stay m s q0)
    rw [h1] at e
    cases e
    exact stp_tup m' hT (Rep.stay m s _ _ h2)
theorem di_enum {elts : List Expr} {kk : Nat} {tpos : Pos} {l : Expr} {da : DenE} {p pos : Pos} (hm : X.mg "enumerate" = none) (ha : DE F X W l da) (hK : X.K = F.K := by rfl) (hg : Gl X "enumerate" := by rfl) (hse : starEach [l] X.env = [(false, eval l X.env)] := by rfl) (hst : starEach (l :: []) X.env = (false, eval l X.env) :: starEach [] X.env := by rfl) :
    DI F X W (.Tuple elts kk tpos) (.Call (.Name "enumerate" p) [l] [] pos) (enumD (consA da nilA)) := by
  obtain ⟨t, pa, qa⟩ := da_cons ha da_nil hst
  refine ⟨_, pi_enum2 hg hm pa hse, fun e M L σ H R sr pp => qa e M L σ H _ sr (PostG.bind (fun ds M1 L1 H1 vs s1 r1 rv p2 => ?_) pp)⟩
  rw [hK]
  split at p2
  · rename_i d
    obtain ⟨v, ev, rw1⟩ := reps1 rv
    clear rv
    subst ev
    cases d with
    | tup ds =>
      obtain ⟨a, vs, rfl, a2, a3⟩ := rw1
      refine ⟨a, rfl, .inr ⟨⟨vs, (.inl (.inl a2))⟩, p2.ok r1 (walk_enumT r1.m (.inl (.inl a2)) a3)⟩⟩
    | lst ds =>
      obtain ⟨a, vs, rfl, a2, a3⟩ := rw1
      refine ⟨a, rfl, .inl ⟨⟨vs, (LstAt.sq (L := L1) (.inl a2))⟩, p2.ok r1 (walk_enumL fun L' H' M' s m' _ => ⟨vs, (LstAt.stay r1.m s (.inl a2)).sq, Reps.stay r1.m s _ _ a3⟩)⟩⟩
    | scr ns =>
      obtain ⟨a, rfl, a2⟩ := rw1
      have a3 : LstAt F.K L1 H1 a (ns.map V.int) := .inr a2
      refine ⟨a, rfl, .inl ⟨⟨_, a3.sq⟩, p2.ok r1 (walk_enumL fun L' H' M' s m' _ => ⟨_, (LstAt.stay r1.m s a3).sq, reps_ints ns⟩)⟩⟩
    | loc n =>
      obtain ⟨a, rfl, a2⟩ := rw1
      unfold itemsF at p2
      simp only at p2
      split at p2
      · rename_i ds hm
        obtain ⟨vs, k1, k2⟩ := r1.m.obs n a _ a2 hm
        refine ⟨a, rfl, .inl ⟨⟨vs, .inl (.inl k1)⟩, p2.ok r1 (walk_enumL fun L' H' M' s m' c => ?_)⟩⟩
        obtain ⟨ws, j1, j2⟩ := m'.obs n a _ (s.get a2) c
        exact ⟨ws, .inl (.inl j1), j2⟩
      · exact False.elim p2
    | non => exact False.elim p2
    | bl b => exact False.elim p2
    | int i => exact False.elim p2
    | str x => exact False.elim p2
    | emp => exact False.elim p2
    | exc c fs => exact False.elim p2
    | ty n => exact False.elim p2
    | cls n => exact False.elim p2
    | clo f c q σd is ds => exact False.elim p2
    | ktp ns =>
      obtain ⟨a, rfl, a2⟩ := rw1
      have a3 : SqT F.K H1 a (ns.map V.int) := .inr a2
      exact ⟨a, rfl, .inr ⟨⟨_, a3⟩, p2.ok r1 (walk_enumT r1.m a3 (reps_ints ns))⟩⟩
  · exact False.elim p2
end
end DL
namespace DL
open PySem L2
mutual
inductive Dq (K : PySem.W.Frag) (H : Hp) : V → PyData → Prop where
  | non : Dq K H .non .none
  | bl (b : Bool) : Dq K H (.bl b) (.bool b)
  | int (i : Int) : Dq K H (.int i) (.int i)
  | str (x : Str) : Dq K H (.str x) (.str x)
  | lst {a : Addr} {xs : List V} {ds : List PyData} (hs : SqL K H a xs) (ha : DqAll K H xs ds) : Dq K H (.ref a) (.list ds)
  | tup {a : Addr} {xs : List V} {ds : List PyData} (hs : SqT K H a xs) (ha : DqAll K H xs ds) : Dq K H (.ref a) (.tuple ds)
  | dct {a : Addr} (ha : H a = some (.dK [])) : Dq K H (.ref a) (.dict [])
inductive DqAll (K : PySem.W.Frag) (H : Hp) : List V → List PyData → Prop where
  | nil : DqAll K H [] []
  | cons {v : V} {vs : List V} {d : PyData} {ds : List PyData} (h : Dq K H v d) (t : DqAll K H vs ds) : DqAll K H (v :: vs) (d :: ds)
end
section
variable {pins : List (Addr × Obj)} {X : Cx} {σ : L2.St} {H : Hp} {s : Shared}
/-- what repr needs of a value -/
def RQ (X : Cx) (s : Shared) (u : Value) (d : PyData) : Prop :=
  (∃ as, Reads s.heap u d as) ∧ (d.showable = true → d.shown.length ≤ sizeLine → ∃ bs, ReadAtMost s.heap d.depth bs ∧ ReprK X.prog X.w bs s.heap d.depth u d.shown)
def RQA (X : Cx) (s : Shared) (us : List Value) (ds : List PyData) : Prop :=
  (∃ as, ReadsAll s.heap us ds as) ∧ (PyData.showableAll ds = true → (∀ t ∈ PyData.shownAll ds, t.length ≤ sizeLine) → ∃ bs, ReadAtMost s.heap (PyData.depthAll ds) bs ∧ ReprAllK X.prog X.w bs s.heap (PyData.depthAll ds) us (PyData.shownAll ds))
theorem emp_at (I : L2.Inv X pins σ H s) {a : Addr} (ha : H a = some (.dK [])) : ∃ o n, s.heap.get? a = some o ∧ o.cls = .type "dict" ∧ o.data = .dict #[] n ∧ (a == sysModules) = false := by
  have h := I.hok a _ ha
  rw [ObjOk.eq_3] at h
  obtain ⟨_, h1, vs, hv, o, es, ep, g1, g2, g3, g4, g5, g6⟩ := h
  cases hv
  refine ⟨o, ep, g1, g2.1, ?_, h1⟩
  rw [g3]
  obtain ⟨es⟩ := es
  cases g5
  rfl
theorem ram0 {h : Heap} {n : Nat} : ReadAtMost h n [] := fun _ z => nomatch z
mutual
theorem Dq.rq (I : L2.Inv X pins σ H s) : ∀ {v : V} {d : PyData} {u : Value}, Dq X.K H v d → RelV v u → RQ X s u d
  | _, _, u, .non, r => by
    obtain rfl : u = .none := r
    exact ⟨⟨_, .none⟩, fun _ _ => ⟨[], ram0, ReprK.of_is .none _ _ _⟩⟩
  | _, _, u, .bl b, r => by
    obtain rfl : u = .bool b := r
    exact ⟨⟨_, .bool b⟩, fun _ _ => ⟨[], ram0, ReprK.of_is (.bool b) _ _ _⟩⟩
  | _, _, u, .int i, r => by
    obtain ⟨t, rfl⟩ : ∃ t, u = .int i t := r
    exact ⟨⟨_, .int i t⟩, fun h _ => ⟨[], ram0, ReprK.of_is (.int t (of_decide_eq_true h)) _ _ _⟩⟩
  | _, _, u, .str x, r => by
    obtain ⟨t, rfl⟩ : ∃ t, u = .str x t := r
    exact ⟨⟨_, .str x t⟩, fun _ h => ⟨[], ram0, ReprK.of_is (.str x t h) _ _ _⟩⟩
  | _, _, u, @Dq.lst _ _ a xs ds hs ha, r => by
    obtain rfl : u = .ref a := r
    obtain ⟨its, rv, ⟨o, n, g1, g2, g3, g4⟩, hz⟩ := I.list hs
    obtain ⟨⟨as, rd⟩, q⟩ := DqAll.rq I ha rv
    have rl : Reads s.heap (.ref a) (.list ds) (a :: as) := .list g1 g2 g4 rd
    refine ⟨⟨_, rl⟩, fun hs2 hl => ?_⟩
    obtain ⟨bs, hb, hk⟩ := q hs2 fun t ht => Nat.le_trans (listText_mem_le ht) hl
    have hna : ¬ a ∈ bs := not_mem_of_deeper rl (Nat.lt_succ_self _) hb
    refine ⟨a :: bs, ReadAtMost.cons rl (Nat.le_succ _) hb, ?_⟩
    cases rv with
    | nil =>
      cases rd
      exact (ReprK.listEmpty g1 g2 g4)
    | cons rr rt =>
      exact ReprK.list g1 g2 g4 hna (by rw [List.size_toArray]; exact hk.length_eq) fun i y hy => hk.item i y (by simpa using hy)
  | _, _, u, @Dq.tup _ _ a xs ds hs ha, r => by
    obtain rfl : u = .ref a := r
    obtain ⟨its, rv, ⟨o, g1, g2, n, g4⟩, hz⟩ := I.tuple hs
    obtain ⟨⟨as, rd⟩, q⟩ := DqAll.rq I ha rv
    have rl : Reads s.heap (.ref a) (.tuple ds) as := .tuple g1 g2 g4 rd
    refine ⟨⟨_, rl⟩, fun hs2 hl => ?_⟩
    obtain ⟨bs, hb, hk⟩ := q hs2 fun t ht => Nat.le_trans (tupleText_mem_le ht) hl
    have hna : ¬ a ∈ bs := not_mem_of_deeper rl (Nat.lt_succ_self _) hb
    exact ⟨a :: bs, ReadAtMost.cons rl (Nat.le_succ _) hb, ReprK.tuple g1 g2 g4 hna hk⟩
  | _, _, u, @Dq.dct _ _ a ha, r => by
    obtain rfl : u = .ref a := r
    obtain ⟨o, n, g1, g2, g3, g4⟩ := emp_at I ha
    have rl : Reads s.heap (.ref a) (.dict []) (a :: [] ++ []) := .dict g1 g2 g3 .nil .nil
    refine ⟨⟨_, rl⟩, fun hs2 hl => ⟨[a], ReadAtMost.cons rl (Nat.zero_le _) (n := 0) ram0, ?_⟩⟩
    exact ReprK.dict (d := 0) g1 g2 g3 g4 (fun h => nomatch h) .nil
theorem DqAll.rq (I : L2.Inv X pins σ H s) : ∀ {vs : List V} {ds : List PyData} {us : List Value}, DqAll X.K H vs ds → Vals vs us → RQA X s us ds
  | _, _, _, .nil, .nil => ⟨⟨_, .nil⟩, fun _ _ => ⟨[], ram0, .nil⟩⟩
  | _, _, _, @DqAll.cons _ _ v vs d ds h t, .cons r rt => by
    obtain ⟨⟨as, r1⟩, q1⟩ := Dq.rq I h r
    obtain ⟨⟨as2, r2⟩, q2⟩ := DqAll.rq I t rt
    refine ⟨⟨_, .cons r1 r2⟩, fun hs hl => ?_⟩
    have hs' : (d.showable && PyData.showableAll ds) = true := hs
    rw [Bool.and_eq_true] at hs'
    obtain ⟨bs, hb, hk⟩ := q1 hs'.1 (hl _ (List.mem_cons_self ..))
    obtain ⟨bs2, hb2, hk2⟩ := q2 hs'.2 fun t ht => hl t (List.mem_cons_of_mem _ ht)
    have m1 : d.depth ≤ PyData.depthAll (d :: ds) := Nat.le_max_left _ _
    have m2 : PyData.depthAll ds ≤ PyData.depthAll (d :: ds) := Nat.le_max_right _ _
    exact ⟨bs ++ bs2, ReadAtMost.append (hb.mono m1) (hb2.mono m2), .cons ((hk.level_le m1).more fun b hb => List.mem_append_left _ hb) (hk2.more_le (fun b hb => List.mem_append_right _ hb) m2)⟩
end
end
section
variable {F : Fx} {X : Cx} {W : WX} {L L1 : List Addr} {H H1 : Hp} {M : Store} {e : DL.Env} {σ : L2.St} {T : Ends} {k : Nat}
def rRepE (K : PySem.W.Frag) : List V → Hp → VK → Prop := fun vs H Q => ∃ v d, vs = [v] ∧ Dq K H v d ∧ d.showable = true ∧ d.depth ≤ 60 ∧ d.shown.length ≤ sizeLine ∧ Q (.str d.shown) H
theorem callr_reprE (hg : X.A.guards = some []) (hu : X.A.units + 64 < cLine) : CallR X (.builtin "repr") (rRepE X.K) := by
  intro p₀ s₀ σ₀ H₀ vs us Q₀ I₀ r h
  obtain ⟨v, d, rfl, hd, h1, h3, h4, q⟩ := h
  obtain ⟨u, eu1, rx⟩ := vals1 r
  subst eu1
  cases hd with
  | non =>
    have z : u = .none := rx
    subst z
    exact P.repr_of_none ⟨.str _, H₀, I₀.tok _, ⟨_, rfl⟩, q⟩
  | bl b =>
    have z : u = .bool b := rx
    subst z
    exact P.repr_of_bool ⟨.str _, H₀, I₀.tok _, ⟨_, rfl⟩, q⟩
  | int i =>
    obtain ⟨k, rfl⟩ := rx
    exact P.repr_of_int (of_decide_eq_true h1) ⟨.str _, H₀, I₀.tok _, ⟨_, rfl⟩, q⟩
  | str x =>
    obtain ⟨k, rfl⟩ := rx
    exact P.repr_of_str ⟨.str _, H₀, I₀.tok _, ⟨_, rfl⟩, q⟩ h4
  | @lst a xs ds hs ha =>
    obtain rfl : u = .ref a := rx
    obtain ⟨its, rv, ⟨o, n, g1, g2, g3, g4⟩, hz⟩ := I₀.list hs
    obtain ⟨⟨as, rd⟩, qa⟩ := DqAll.rq I₀ ha rv
    have rl : Reads s₀.heap (.ref a) (.list ds) (a :: as) := .list g1 g2 g4 rd
    obtain ⟨bs, hb, hk⟩ := qa h1 fun t ht => Nat.le_trans (listText_mem_le ht) h4
    have hna : ¬ a ∈ bs := not_mem_of_deeper rl (Nat.lt_succ_self _) hb
    have hd : PyData.depthAll ds + 1 ≤ 60 := h3
    refine call_repr_slot (by omega) ⟨o, g1, g2⟩ (Slot.toG F.slot_list_repr) ?_
    cases rv with
    | nil =>
      cases rd
      exact call_list_repr_empty ⟨o, g1, g2⟩ g1 g4 ⟨_, _, rfl, .str _, H₀, I₀.tok _, ⟨_, rfl⟩, q⟩
    | cons rr rt =>
      exact call_list_reprK g1 g2 g4 hna (by rw [List.size_toArray]; exact hk.length_eq) (fun i y hy => hk.item i y (by simpa using hy)) (g := []) hg (fun b _ => Clear.nil b) (show X.A.units + 1 + (PyData.depthAll ds + 1) < cLine by omega) (fun _ _ z => z) (fun h' u tk hk => ⟨_, _, rfl, .str _, H₀, I₀.kept (t' := tk) hk, ⟨_, rfl⟩, q⟩) h4
  | @tup a xs ds hs ha =>
    obtain rfl : u = .ref a := rx
    obtain ⟨its, rv, ⟨o, g1, g2, n, g4⟩, hz⟩ := I₀.tuple hs
    obtain ⟨⟨as, rd⟩, qa⟩ := DqAll.rq I₀ ha rv
    have rl : Reads s₀.heap (.ref a) (.tuple ds) as := .tuple g1 g2 g4 rd
    obtain ⟨bs, hb, hk⟩ := qa h1 fun t ht => Nat.le_trans (tupleText_mem_le ht) h4
    have hna : ¬ a ∈ bs := not_mem_of_deeper rl (Nat.lt_succ_self _) hb
    have hd : PyData.depthAll ds + 1 ≤ 60 := h3
    refine call_repr_slot (by omega) ⟨o, g1, g2⟩ F.slot_tuple_repr ?_
    exact call_tuple_reprK g1 g2 g4 hna hk (g := []) hg (fun b _ => Clear.nil b) (show X.A.units + 1 + (PyData.depthAll ds + 1) < cLine by omega) (fun _ _ z => z) (fun h' u tk hk => ⟨_, _, rfl, .str _, H₀, I₀.kept (t' := tk) hk, ⟨_, rfl⟩, q⟩) h4
  | @dct a ha =>
    obtain rfl : u = .ref a := rx
    obtain ⟨o, n, g1, g2, g3, g4⟩ := emp_at I₀ ha
    refine call_repr_slot (by omega) ⟨o, g1, g2⟩ F.slot_dict_repr ?_
    exact call_dict_reprK (d := 0) (as := []) (ps := []) g1 g2 g3 g4 (fun h => nomatch h) .nil (g := []) hg (fun b _ => Clear.nil b) (show X.A.units + 1 + (0 + 1) < cLine by omega) (fun _ _ z => z) (fun h' u tk hk => ⟨_, _, rfl, .str _, H₀, I₀.kept (t' := tk) hk, ⟨_, rfl⟩, q⟩) h4
mutual
/-- a value read whole, with empty dicts -/
def D.pye : D → Option PyData
  | .non => some .none
  | .bl b => some (.bool b)
  | .int i => some (.int i)
  | .str x => some (.str x)
  | .tup ds => (D.pyes ds).map .tuple
  | .lst ds => (D.pyes ds).map .list
  | .emp => some (.dict [])
  | _ => none
def D.pyes : List D → Option (List PyData)
  | [] => some []
  | d :: ds => match D.pye d, D.pyes ds with
    | some p, some ps => some (p :: ps)
    | _, _ => none
end
mutual
theorem dq_of : ∀ {d : D} {v : V} {p : PyData}, Rep F L H d v → D.pye d = some p → Dq F.K H v p
  | .non, v, p, r, h => by
    obtain rfl : v = V.non := r
    obtain rfl : PyData.none = p := Option.some.inj h
    exact .non
  | .bl b, v, p, r, h => by
    obtain rfl : v = V.bl b := r
    obtain rfl : PyData.bool b = p := Option.some.inj h
    exact .bl b
  | .int i, v, p, r, h => by
    obtain rfl : v = V.int i := r
    obtain rfl : PyData.int i = p := Option.some.inj h
    exact .int i
  | .str x, v, p, r, h => by
    obtain rfl : v = V.str x := r
    obtain rfl : PyData.str x = p := Option.some.inj h
    exact .str x
  | .tup ds, v, p, r, h => by
    obtain ⟨a, vs, rfl, h1, h2⟩ := r
    have h' : (D.pyes ds).map PyData.tuple = some p := h
    obtain ⟨ps, hp, rfl⟩ := Option.map_eq_some_iff.mp h'
    exact .tup (.inl (.inl h1)) (dqs_of h2 hp)
  | .lst ds, v, p, r, h => by
    obtain ⟨a, vs, rfl, h1, h2⟩ := r
    have h' : (D.pyes ds).map PyData.list = some p := h
    obtain ⟨ps, hp, rfl⟩ := Option.map_eq_some_iff.mp h'
    exact .lst (.inl (.inl h1.1)) (dqs_of h2 hp)
  | .emp, v, p, r, h => by
    obtain ⟨a, rfl, h1, h2⟩ := r
    obtain rfl : PyData.dict [] = p := Option.some.inj h
    exact .dct h1
  | .scr _, _, _, _, h => nomatch h
  | .loc _, _, _, _, h => nomatch h
  | .exc _ _, _, _, _, h => nomatch h
  | .ty _, _, _, _, h => nomatch h
  | .cls _, _, _, _, h => nomatch h
  | .clo _ _ _ _ _ _, _, _, _, h => nomatch h
  | .ktp _, _, _, _, h => nomatch h
theorem dqs_of : ∀ {ds : List D} {vs : List V} {ps : List PyData}, Reps F L H ds vs → D.pyes ds = some ps → DqAll F.K H vs ps
  | [], vs, ps, r, h => by
    obtain rfl : vs = [] := r
    obtain rfl : [] = ps := Option.some.inj h
    exact .nil
  | d :: ds, vs, ps, r, h => by
    obtain ⟨v, rr, rfl, h1, h2⟩ := r
    have h' : (match D.pye d, D.pyes ds with | some p, some ps => some (p :: ps) | _, _ => none) = some ps := h
    cases q1 : D.pye d with
    | none => rw [q1] at h'; cases h'
    | some p =>
      cases q2 : D.pyes ds with
      | none => rw [q1, q2] at h'; cases h'
      | some qs =>
        rw [q1, q2] at h'
        obtain rfl := Option.some.inj h'
        exact .cons (dq_of h1 q1) (dqs_of h2 q2)
end
/-- repr of data -/
def reprGF : List D → Store → RE
  | [d], M => match D.pye d with
    | some p => if p.showable = true ∧ p.depth ≤ 60 ∧ p.shown.length ≤ sizeLine then ok (.str p.shown) M else none
    | none => none
  | _, _ => none
theorem reprG_ok : CallOk F (rRepE F.K) reprGF := fun ds M L H e σ W vs Q sr rv p => by
  unfold reprGF at p
  split at p
  · obtain ⟨v, rfl, h1⟩ := reps1 rv
    split at p
    · rename_i y hy
      split at p
      · rename_i hz
        exact ⟨v, y, rfl, dq_of h1 hy, hz.1, hz.2.1, hz.2.2, p.ok sr rfl⟩
      · exact False.elim p
    · exact False.elim p
  · exact False.elim p
end
end DL
namespace DL
open PySem L2
section
variable {F : Fx} {X : Cx} {W : WX} {L L1 : List Addr} {H H1 : Hp} {M : Store} {e : DL.Env} {σ : L2.St} {T : Ends} {k : Nat}
abbrev rEqE (K : PySem.W.Frag) : R2 := fun x y H Q => ∃ a b xs, x = .ref a ∧ y = .ref b ∧ SqT K H a xs ∧ SqT K H b [] ∧ Q (.bl xs.isEmpty) H
theorem op_eqE (hu : X.A.units + 64 < cLine) : OpR X (compareOp .Eq) (rEqE X.K) := by
  intro p₀ s₀ σ₀ H₀ x y v u Q₀ I₀ rx ry q
  obtain ⟨a, b, xs, rfl, rfl, h1, h2, h3⟩ := q
  obtain rfl : v = .ref a := rx
  obtain rfl : u = .ref b := ry
  obtain ⟨its, rv, p, hz⟩ := I₀.tuple h1
  obtain ⟨its2, rv2, p2, hz2⟩ := I₀.tuple h2
  cases rv2
  refine SeqAt.eq_tupleAt (e := fun _ => true) p p2 (by omega) (fun j _ z => absurd z (by simp)) ?_
  refine ⟨_, H₀, I₀, ?_, h3⟩
  have hl := Paired.length rv
  cases rv with
  | nil => rfl
  | cons r rt => rfl
def eqGF : D → D → Store → RE
  | .tup ds, .tup [], M => ok (.bl ds.isEmpty) M
  | x, y, M => eqF x y M
theorem opr_eqG (hu : X.A.units + 64 < cLine) : OpR X (compareOp .Eq) (fun x y H Q => rEqE X.K x y H Q ∨ rEqV X.K x y H Q) := orR (op_eqE hu) (opr_eq hu)
theorem eqG_ok : OpOk F (fun x y H Q => rEqE F.K x y H Q ∨ rEqV F.K x y H Q) eqGF := fun d1 d2 M L H e σ W v1 v2 Q sr r1 r2 p => by
  unfold eqGF at p
  split at p
  · rename_i ds
    obtain ⟨a, vs, rfl, q1, q2⟩ := r1
    obtain ⟨b, ws, rfl, q3, q4⟩ := r2
    obtain rfl : ws = [] := q4
    refine .inl ⟨a, b, vs, rfl, rfl, (.inl (.inl q1)), (.inl (.inl q3)), ?_⟩
    have hl := reps_len q2
    have e1 : vs.isEmpty = ds.isEmpty := by
      cases vs with
      | nil => cases ds with
        | nil => rfl
        | cons d r => cases hl
      | cons v r => cases ds with
        | nil => cases hl
        | cons d r => rfl
    rw [e1]
    exact p.ok sr rfl
  · exact .inr (eq_ok _ _ _ _ _ _ _ _ _ _ _ sr r1 r2 p)
theorem dt_chain {op op' : CmpOp} {r r' : R2} {f g : D → D → Store → RE} {a b c : Expr} {da db dc : DenE} {pos : Pos} (hf : OpOk F r f) (ho : OpR X (compareOp op) r) (hf' : OpOk F r' g) (ho' : OpR X (compareOp op') r') (tf : Truths f) (ha : DE F X W a da) (hb : DE F X W b db) (hc : DE F X W c dc)
    (hm : lastMarks [op, op'] [b, c] = false := by with_unfolding_all rfl) : DT F X W (.Compare a [op, op'] [b, c] pos) (chainD f g da db dc) := by
  obtain ⟨ta, pa, qa⟩ := ha
  obtain ⟨tb, pb, qb⟩ := hb
  obtain ⟨tc, pc, qc⟩ := hc
  exact ⟨_, pt_chain ho ho' pa pb pc hm, fun e M L σ H Q sr p => chain_t (op := op) (op' := op') (a := a) (b := b) (c := c) hf hf' tf qa qb qc e M L σ H _ sr p⟩
end
end DL
namespace DL
open PySem L2
section
variable {F : Fx} {X : Cx} {W : WX} {L L1 : List Addr} {H H1 : Hp} {M : Store} {e : Env} {σ : St} {T : Ends} {k : Nat}
theorem PSet.or {t t' : V → V → V → Hp → (Hp → Prop) → Prop} (h : PSet X t) (h' : PSet X t') : PSet X (fun o i v H Q => t o i v H Q ∨ t' o i v H Q) := by
  intro pins s σ H o i v ov iv u Q I ro ri rv q
  rcases q with q | q
  · exact h pins s σ H o i v ov iv u Q I ro ri rv q
  · exact h' pins s σ H o i v ov iv u Q I ro ri rv q
end
end DL
namespace DL
open PySem L2
/-- as Stp, nothing said of what is locked -/
structure Stp0 (L : List Addr) (H : Hp) (L' : List Addr) (H' : Hp) : Prop where
  ext : ∀ a o, H a = some o → a ∉ L → (∀ ps, o ≠ .tbl ps) → H' a = some o
  new : ∃ N, L' = L ++ N ∧ ∀ x ∈ N, ∀ o, H x = some o → ∃ ps, o = .tbl ps
section
variable {F : Fx} {L L' : List Addr} {H H' : Hp} {M M' : Store}
theorem Stp0.get (s : Stp0 L H L' H') {n : Nat} {a : Addr} (e : L[n]? = some a) : L'[n]? = some a := by
  obtain ⟨N, rfl, _⟩ := s.new
  rw [List.getElem?_append_left (List.getElem?_eq_some_iff.mp e).1]
  exact e
theorem Stp0.out (s : Stp0 L H L' H') {a : Addr} {o : HO} (e : H a = some o) (n : a ∉ L) (ht : NoTb o := by exact fun ps z => nomatch z) : a ∉ L' := by
  obtain ⟨N, rfl, f⟩ := s.new
  intro z
  rcases List.mem_append.mp z with z | z
  · exact n z
  · obtain ⟨ps, q⟩ := f a z o e
    exact ht ps q
end
theorem Stp.z {L L' : List Addr} {H H' : Hp} (s : Stp L H L' H') : Stp0 L H L' H' := ⟨s.ext, s.new⟩
end DL
namespace DL
open PySem L2
section
variable {F : Fx} {X : Cx} {W : WX} {L L1 : List Addr} {H H1 : Hp} {M : Store} {e : DL.Env} {σ : L2.St} {T : Ends} {k : Nat}
/-- a list, whichever -/
def lsty : D → Bool
  | .lst _ => true
  | .scr _ => true
  | .loc _ => true
  | _ => false
theorem items_lst (sr : SM F L H M) {d : D} {v : V} {ds : List D} {chk : Store → Prop} {M' : Store} (hl : lsty d = true) (h : itemsF d M = some (.val (ds, chk), M')) (r : Rep F L H d v) :
    M' = M ∧ ∃ a, v = .ref a ∧ (∃ vs, SqL F.K H a vs) ∧ ∀ (L' : List Addr) (H' : Hp) (M2 : Store), Stp L H L' H' → SM F L' H' M2 → chk M2 → ∃ ws, SqL F.K H' a ws ∧ Reps F L' H' ds ws := by
  cases d with
  | lst es =>
    cases h
    obtain ⟨a, vs, rfl, a2, a3⟩ := r
    exact ⟨rfl, a, rfl, ⟨vs, (LstAt.sq (L := L) (.inl a2))⟩, fun L' H' M2 s m' _ => ⟨vs, (LstAt.stay sr s (.inl a2)).sq, Reps.stay sr s _ _ a3⟩⟩
  | scr ns =>
    cases h
    obtain ⟨a, rfl, a2⟩ := r
    have a3 : LstAt F.K L H a (ns.map V.int) := .inr a2
    exact ⟨rfl, a, rfl, ⟨_, a3.sq⟩, fun L' H' M2 s m' _ => ⟨_, (LstAt.stay sr s a3).sq, reps_ints ns⟩⟩
  | loc n =>
    unfold itemsF at h
    simp only at h
    split at h
    · rename_i es hm
      cases h
      obtain ⟨a, rfl, a2⟩ := r
      obtain ⟨vs, k1, k2⟩ := sr.obs n a _ a2 hm
      refine ⟨rfl, a, rfl, ⟨vs, .inl (.inl k1)⟩, fun L' H' M2 s m' c => ?_⟩
      obtain ⟨ws, j1, j2⟩ := m'.obs n a _ (s.get a2) c
      exact ⟨ws, .inl (.inl j1), j2⟩
    · cases h
  | _ => cases hl
def zipI (xs ys : List D) : List D := List.zipWith (fun x y => .tup [x, y]) xs ys
theorem zip_len (xs ys : List D) : (zipI xs ys).length = min xs.length ys.length := by simp [zipI]
theorem zip_get {xs ys : List D} {i : Nat} {d : D} (h : (zipI xs ys)[i]? = some d) : ∃ x y, xs[i]? = some x ∧ ys[i]? = some y ∧ d = .tup [x, y] := by
  unfold zipI at h
  rw [List.getElem?_zipWith] at h
  split at h
  · rename_i x y h1 h2
    cases h
    exact ⟨x, y, h1, h2, rfl⟩
  · cases h
def zipD (dr : DenA) : DenI := fun e M => bindE (dr e M) fun ds M1 => match ds with
  | [.tup xs, .tup ys] => ok (zipI xs ys, fun _ => True) M1
  | [x, y] => if lsty x = true ∧ lsty y = true then (match itemsF x M1, itemsF y M1 with
    | some (.val p, _), some (.val q, _) => ok (zipI p.1 q.1, fun M' => p.2 M' ∧ q.2 M') M1
    | _, _ => none) else none
  | _ => none
theorem stp_tup2 {H' : Hp} {M' : Store} {L' : List Addr} {Tt : Addr} {x y : V} {d d' : D} (m : SM F L' H' M') (hT : H' Tt = none) (r : Rep F L' H' d x) (r' : Rep F L' H' d' y) : Stp L' H' L' (upd H' Tt (.tup [x, y])) ∧ SM F L' (upd H' Tt (.tup [x, y])) M' ∧ Rep F L' (upd H' Tt (.tup [x, y])) (.tup [d, d']) (.ref Tt) := by
  have s : Stp L' H' L' (upd H' Tt (.tup [x, y])) := Stp.alloc hT
  exact ⟨s, m.alloc hT, ⟨Tt, _, rfl, upd_same, x, [y], rfl, Rep.stay m s _ _ r, y, [], rfl, Rep.stay m s _ _ r', rfl⟩⟩
theorem walk_zipLL {a b : Addr} {xs ys : List D} {c1 c2 : Store → Prop} (h : ∀ (L' : List Addr) (H' : Hp) (M' : Store), Stp L H L' H' → SM F L' H' M' → c1 M' → ∃ ws, SqL F.K H' a ws ∧ Reps F L' H' xs ws) (h' : ∀ (L' : List Addr) (H' : Hp) (M' : Store), Stp L H L' H' → SM F L' H' M' → c2 M' → ∃ ws, SqL F.K H' b ws ∧ Reps F L' H' ys ws) :
    Walk F L H (Itz F.K a b) (zipI xs ys) (fun M' => c1 M' ∧ c2 M') := by
  refine ⟨fun L' H' M' s m' c => ?_, fun i d hd L' H' M' s m' c => ?_⟩
  · obtain ⟨ws, q, rr⟩ := h L' H' M' s m' c.1
    obtain ⟨us, q', rr'⟩ := h' L' H' M' s m' c.2
    refine ⟨ws, us, q, q', ?_⟩
    rw [zip_len, ← reps_len rr, ← reps_len rr']
    omega
  · obtain ⟨x, y, hx, hy, rfl⟩ := zip_get hd
    obtain ⟨ws, q, rr⟩ := h L' H' M' s m' c.1
    obtain ⟨us, q', rr'⟩ := h' L' H' M' s m' c.2
    obtain ⟨v, h1, h2⟩ := reps_get rr hx
    obtain ⟨u, h3, h4⟩ := reps_get rr' hy
    refine ⟨⟨ws, us, v, u, q, q', h1, h3⟩, fun x0 H'' hz => ?_⟩
    obtain ⟨Tt, v0, u0, rfl, hT, rfl, z, z'⟩ := hz
    have e := z ws q
    rw [h1] at e
    cases e
    have e := z' us q'
    rw [h3] at e
    cases e
    exact stp_tup2 m' hT h2 h4
theorem walk_zipTT {a b : Addr} {xs ys : List D} {vs us : List V} (m : SM F L H M) (q : H a = some (.tup vs)) (r : Reps F L H xs vs) (q' : H b = some (.tup us)) (r' : Reps F L H ys us) : Walk F L H (RZ.ItzT F.K a b) (zipI xs ys) (fun _ => True) := by
  have st : ∀ {L' : List Addr} {H' : Hp}, Stp L H L' H' → SqT F.K H' a vs ∧ SqT F.K H' b us := fun s => ⟨sqt_stay m s (.inl (.inl q)), sqt_stay m s (.inl (.inl q'))⟩
  refine ⟨fun L' H' M' s m' c => ?_, fun i d hd L' H' M' s m' c => ?_⟩
  · refine ⟨vs, us, (st s).1, (st s).2, ?_⟩
    rw [zip_len, ← reps_len r, ← reps_len r']
    omega
  · obtain ⟨x, y, hx, hy, rfl⟩ := zip_get hd
    obtain ⟨v, h1, h2⟩ := reps_get r hx
    obtain ⟨u, h3, h4⟩ := reps_get r' hy
    refine ⟨⟨vs, us, v, u, (st s).1, (st s).2, h1, h3⟩, fun x0 H'' hz => ?_⟩
    obtain ⟨Tt, v0, u0, rfl, hT, rfl, z, z'⟩ := hz
    have e := z vs (st s).1
    rw [h1] at e
    cases e
    have e := z' us (st s).2
    rw [h3] at e
    cases e
    exact stp_tup2 m' hT (Rep.stay m s _ _ h2) (Rep.stay m s _ _ h4)
theorem di_zip {elts : List Expr} {kk : Nat} {tpos : Pos} {l l2 : Expr} {da db : DenE} {p pos : Pos} (hm : X.mg "zip" = none) (ha : DE F X W l da) (hb : DE F X W l2 db) (hK : X.K = F.K := by rfl) (hg : Gl X "zip" := by rfl) (hst : starEach (l :: [l2]) X.env = (false, eval l X.env) :: starEach [l2] X.env := by rfl) (hst2 : starEach (l2 :: []) X.env = (false, eval l2 X.env) :: starEach [] X.env := by rfl) (hpl : (backTo pos (starEach [l2] X.env)).any (·.1) = false := by rfl) :
    DI F X W (.Tuple elts kk tpos) (.Call (.Name "zip" p) [l, l2] [] pos) (zipD (consA da (consA db nilA))) := by
  obtain ⟨t, pa, qa⟩ := da_cons ha (da_cons hb da_nil hst2) hst
  refine ⟨_, RZ.pi_zipA hg hm pa hst hpl, fun e M L σ H R sr pp => qa e M L σ H _ sr (PostG.bind (fun ds M1 L1 H1 vs s1 r1 rv p2 => ?_) pp)⟩
  rw [hK]
  split at p2
  · rename_i xs ys
    obtain ⟨v, v', rfl, r2, r3⟩ := reps2 rv
    obtain ⟨a, us, rfl, a2, a3⟩ := r2
    obtain ⟨b, ws, rfl, b2, b3⟩ := r3
    exact ⟨a, b, us, ws, rfl, .inr ⟨.inl (.inl a2), .inl (.inl b2), p2.ok r1 (walk_zipTT r1.m a2 a3 b2 b3)⟩⟩
  · rename_i x y _
    obtain ⟨v, v', rfl, r2, r3⟩ := reps2 rv
    split at p2
    · rename_i hl
      split at p2
      · rename_i p' M2 q' M3 h1 h2
        obtain ⟨_, a, rfl, ⟨us, a2⟩, a3⟩ := items_lst r1.m hl.1 h1 r2
        obtain ⟨_, b, rfl, ⟨ws, b2⟩, b3⟩ := items_lst r1.m hl.2 h2 r3
        exact ⟨a, b, us, ws, rfl, .inl ⟨a2, b2, p2.ok r1 (walk_zipLL a3 b3)⟩⟩
      · exact False.elim p2
    · exact False.elim p2
  · exact False.elim p2
end
end DL
namespace DL
open PySem L2
/-- the things at these places -/
def pk {α : Type} (is : List Nat) (xs : List α) : List α := is.filterMap (xs[·]?)
theorem vals_pk {vs : List V} {us : List Value} (r : Vals vs us) : ∀ is : List Nat, Vals (pk is vs) (pk is us)
  | [] => .nil
  | i :: is => by
    have ih := vals_pk r is
    have l := Paired.length r
    unfold pk at ih ⊢
    rw [List.filterMap_cons, List.filterMap_cons]
    by_cases h : i < vs.length
    · obtain ⟨u, hu, ru⟩ := paired_get r (List.getElem?_eq_getElem h)
      rw [List.getElem?_eq_getElem h, hu]
      exact .cons ru ih
    · rw [List.getElem?_eq_none (by omega), List.getElem?_eq_none (by omega)]
      exact ih
/-- how n values and the keywords ks come to the parameters: each from its place -/
structure KwB (K : PySem.W.Frag) (fd : FuncData) (ps : List Str) (n : Nat) (ks : List Str) (is : List Nat) : Prop where
  to : ∀ (s : Shared) (us ws : List Value), K.In s.heap → us.length = n → ws.length = ks.length → BindsTo s fd ⟨us, ks.zip ws⟩ (ps.zip (pk is (us ++ ws)))
theorem KwB.of {K : PySem.W.Frag} {fd : FuncData} {ps : List Str} {n : Nat} {ks : List Str} {is : List Nat} (h : ∀ us ws : List Value, us.length = n → ws.length = ks.length → bindArgs fd ⟨us, ks.zip ws⟩ = pure (ps.zip (pk is (us ++ ws)))) : KwB K fd ps n ks is := ⟨fun s us ws _ l1 l2 => .of_eq (h us ws l1 l2)⟩
section
variable {F : Fx} {X : Cx} {W : WX} {k : Nat} {f : Addr} {fd : FuncData} {ps ks : List Str} {den : DenF} {n : Nat} {is : List Nat}
def DK (F : Fx) (X : Cx) (W : WX) (kws : List Keyword) (den : Env → Store → RD (List D)) : Prop :=
  ∃ t, PK X kws t ∧ ∀ (e : Env) (M : Store) (L : List Addr) (σ : St) (H : Hp) (Q : List V → Hp → Prop), SR F L H M e σ → PostA F e L H σ W Q (den e M) → t σ H Q
theorem dk_nil : DK F X W [] nilA := ⟨_, pk_nil, fun e M L σ H Q sr p => p.ok sr (rfl : ([] : List V) = [])⟩
theorem dk_cons {x : Expr} {nm : Option Str} {kpos : Pos} {kws : List Keyword} {da : DenE} {dr : DenA} (ha : DE F X W x da) (hr : DK F X W kws dr) : DK F X W (⟨nm, x, kpos⟩ :: kws) (consA da dr) := by
  obtain ⟨ta, pa, qa⟩ := ha
  obtain ⟨tr, pr, qr⟩ := hr
  refine ⟨_, pk_cons pa pr, fun e M L σ H Q sr p => qa e M L σ H _ sr (PostG.bind (fun d M1 L1 H1 v s1 r1 rv q => ?_) p)⟩
  refine qr e M1 L1 σ H1 _ r1 (PostG.bind (fun ds M2 L2 H2 vs s2 r2 rvs q2 => ?_) q)
  exact q2.ok r2 ⟨v, vs, rfl, Rep.stay r1.m s2 d v rv, rvs⟩
def tCallKw (F : Fx) (W : WX) (den : DenF) (n m l : Nat) (is : List Nat) (t tk : TA) : TE := fun σ H Q => t σ H fun vs H1 => tk σ H1 fun zs H2 => vs.length = n ∧ zs.length = m ∧ (pk is (vs ++ zs)).length = l ∧ spD F den (pk is (vs ++ zs)) H2 Q (WE W σ)
theorem run_fnKw {p₀ : List (Addr × Obj)} {σ : St} {H : Hp} {s : Shared} {Q : VK} {us ws : List Value} {vs zs : List V} (hK : X.K = F.K) (h : FnD X.prog X.w F X.mg X.base k f fd ps den) (d : Dc X W k) (hb : KwB X.K fd ps n ks is) (I : L2.Inv X p₀ σ H s) (r : Vals vs us) (rz : Vals zs ws)
    (l1 : vs.length = n) (l2 : zs.length = ks.length) (l3 : (pk is (vs ++ zs)).length = ps.length) (q : spD F den (pk is (vs ++ zs)) H Q (WE W σ)) : wpAny (model X.prog X.w) X.A (call (.ref f) us (ks.zip ws)) (EP X p₀ σ Q) X.xe s := by
  have r2 := vals_pk (r.append rz) is
  have e0 := I.env0
  rw [hK] at e0
  refine wpAny_call (codeAny_mono (h.run X.A X.stack s H ⟨us, ks.zip ws⟩ (pk is (us ++ ws)) (pk is (vs ++ zs)) Q (WE W σ) d.room d.gd e0 (hb.to s us ws I.kIn (r.length.symm.trans l1) (rz.length.symm.trans l2)) r2 l3 q) fun res s' hq => ?_)
  cases res with
  | error y => exact passAt d.tk σ p₀ H s y s' I hq
  | ok fl =>
    cases fl with
    | ret u => exact I.after hq
    | next => exact (show False from hq).elim
    | brk => exact (show False from hq).elim
    | cont => exact (show False from hq).elim
/-- the arguments as data; l parameters -/
def fnKD (den : DenF) (n m l : Nat) (is : List Nat) (dr dk : DenA) : DenE := fun e M => bindE (dr e M) fun ds M1 => bindE (dk e M1) fun zs M2 => if ds.length = n ∧ zs.length = m ∧ (pk is (ds ++ zs)).length = l then den (pk is (ds ++ zs)) M2 else none
theorem kw_fin {dr dk : DenA} {t tk : TA}
    (hr : ∀ (e : Env) (M : Store) (L : List Addr) (σ : St) (H : Hp) (Q : List V → Hp → Prop), SR F L H M e σ → PostA F e L H σ W Q (dr e M) → t σ H Q)
    (hk : ∀ (e : Env) (M : Store) (L : List Addr) (σ : St) (H : Hp) (Q : List V → Hp → Prop), SR F L H M e σ → PostA F e L H σ W Q (dk e M) → tk σ H Q)
    (n m l : Nat) (e : Env) (M : Store) (L : List Addr) (σ : St) (H : Hp) (Q : VK) (sr : SR F L H M e σ) (p : Post F e L H σ W Q (fnKD den n m l is dr dk e M)) : tCallKw F W den n m l is t tk σ H Q := by
  refine hr e M L σ H _ sr (PostG.bind (fun ds M1 L1 H1 vs s1 r1 rv q => ?_) p)
  refine hk e M1 L1 σ H1 _ r1 (PostG.bind (fun zs M2 L2 H2 ws s2 r2 rz q2 => ?_) q)
  split at q2
  · rename_i hn
    have rv2 := Reps.stay r1.m s2 _ _ rv
    have ra := reps_pick (reps_app rv2 rz) is
    exact ⟨by rw [← reps_len rv2]; exact hn.1, by rw [← reps_len rz]; exact hn.2.1, by
      have q := reps_len ra
      exact q.symm.trans hn.2.2, L2, M2, _, r2.m, ra, post_fn r2 q2⟩
  · exact False.elim q2
theorem de_callKw0 {x : Str} {p pos : Pos} {kws : List Keyword} {dk : DenA} (h : FnD X.prog X.w F X.mg X.base k f fd ps den) (d : Dc X W k) (hm : X.mg x = some (.ref f)) (hk : PySem.W.keepIn X.K (.ref f) = true) (hb : KwB X.K fd ps 0 ks is)
    (hkw : DK F X W kws dk) (hK : X.K = F.K := by rfl) (hg : Gl X x := by rfl) (hdb : (x == ("__debug__" : Str)) = false := by decide) (hall : (backToKw pos (keywordEach kws X.env)).all (·.1.isSome) = true := by rfl) (hks : (backToKw pos (keywordEach kws X.env)).filterMap (·.1) = ks := by rfl)
    (hnn : ((backTo pos (starEach [] X.env)).any (·.1) || (backToKw pos (keywordEach kws X.env)).any (·.1.isNone)) = false := by rfl) :
    DE F X W (.Call (.Name x p) [] kws pos) (fnKD den 0 ks.length ps.length is nilA dk) := by
  obtain ⟨tk, pk', qk⟩ := hkw
  refine ⟨tCallKw F W den 0 ks.length ps.length is tNil tk, ⟨fun p₀ s₀ σ₀ H₀ Q₀ I₀ h₀ => wpAny_Call_Name_kw (ld_glob I₀ hg hm ?_ hdb)⟩, kw_fin (t := tNil) (dr := nilA) (fun e M L σ H Q sr p => PostG.ok (d := ([] : List D)) (v := ([] : List V)) p sr rfl) qk 0 ks.length ps.length⟩
  refine PySem.W.callWith_KW0 (h₀ := X.base) I₀.ok.mod.kin hk hall ?_ hnn
  refine thn (pk'.run pos p₀ s₀ σ₀ H₀ _ I₀ h₀) fun ws s2 ⟨zs, H2, I2, rz, l1, l2, l3, q2⟩ => ⟨I2.kIn, ?_⟩
  rw [hks]
  exact run_fnKw (us := []) (vs := []) hK h d hb I2 .nil rz l1 l2 l3 q2
end
end DL
namespace DL
open PySem L2
end DL
namespace DL
open PySem L2
section
variable {F : Fx} {X : Cx} {W : WX} {L L1 : List Addr} {H H1 : Hp} {M : Store} {e : Env} {σ : St}
theorem PG.or {t : Expr} {g g' : TG} (h : PG X t g) (h' : PG X t g') : PG X t (fun v σ H Q => g v σ H Q ∨ g' v σ H Q) :=
  ⟨fun p s σ H v u Q I r q => q.elim (h.run p s σ H v u Q I r) (h'.run p s σ H v u Q I r)⟩
end
end DL
namespace DL
open PySem L2
abbrev kk (a b : Int) : List Key := [.inl a, .inl b]
end DL
namespace DL
open PySem L2
/-- a fraction as the program tells it -/
abbrev qD (r : Rat) : D := .tup [.int r.num, .int (r.den : Int)]
theorem qmul_den (a b : Rat) : (a * b).den = (a.den / Nat.gcd b.num.natAbs a.den) * (b.den / Nat.gcd a.num.natAbs b.den) := by
  show (Rat.mul a b).den = _
  unfold Rat.mul
  rfl
structure Sz (k : Nat) (r : Rat) : Prop where
  n : Bd k r.num
  d : r.den < 2 ^ k
theorem Sz.mono {j k : Nat} {r : Rat} (s : Sz j r) (h : j ≤ k) : Sz k r := ⟨s.n.mono h, Nat.lt_of_lt_of_le s.d (Nat.pow_le_pow_right (by decide) h)⟩
theorem Sz.db {k : Nat} {r : Rat} (s : Sz k r) : Bd k (r.den : Int) := s.d
theorem bd_mul {j k : Nat} {a b : Int} (ha : Bd j a) (hb : Bd k b) : Bd (j + k) (a * b) := by
  unfold Bd at *
  rw [Nat.pow_add]; rw [Int.natAbs_mul]
  exact Nat.mul_lt_mul'' ha hb
theorem bd_add {k : Nat} {a b : Int} (ha : Bd k a) (hb : Bd k b) : Bd (k + 1) (a + b) := by
  unfold Bd at *
  have := Int.natAbs_add_le a b
  rw [Nat.pow_succ]
  omega
theorem bd_div {k : Nat} {a b : Int} (ha : Bd k a) : Bd k (a / b) := by
  unfold Bd at *
  exact Nat.lt_of_le_of_lt (Int.natAbs_ediv_le_natAbs a b) ha
theorem bd_le {k : Nat} {a b : Int} (hb : Bd k b) (h : a.natAbs ≤ b.natAbs) : Bd k a := Nat.lt_of_le_of_lt h hb
theorem Sz.divInt {k : Nat} {a b : Int} (ha : Bd k a) (hb : Bd k b) (h0 : b ≠ 0) : Sz k (Rat.divInt a b) := by
  constructor
  · rw [Rat.num_divInt]
    refine bd_div ?_
    refine bd_le ha ?_
    rw [Int.natAbs_mul]
    have : b.sign.natAbs ≤ 1 := by
      rw [Int.natAbs_sign]
      split <;> omega
    calc b.sign.natAbs * a.natAbs ≤ 1 * a.natAbs := Nat.mul_le_mul_right _ this
      _ = a.natAbs := Nat.one_mul _
  · rw [Rat.den_divInt, if_neg h0]
    exact Nat.lt_of_le_of_lt (Nat.div_le_self _ _) hb
theorem rat_div (r : Rat) : r = Rat.divInt r.num (r.den : Int) := (Rat.num_divInt_den r).symm
theorem den0 (r : Rat) : (r.den : Int) ≠ 0 := by
  have := r.den_nz
  omega
theorem Sz.mul {j k : Nat} {a b : Rat} (ha : Sz j a) (hb : Sz k b) : Sz (j + k) (a * b) := by
  have e : a * b = Rat.divInt (a.num * b.num) ((a.den : Int) * (b.den : Int)) := by
    conv => lhs; rw [rat_div a, rat_div b]
    exact Rat.divInt_mul_divInt _ _
  rw [e]
  exact Sz.divInt (bd_mul ha.n hb.n) (bd_mul ha.db hb.db) (Int.mul_ne_zero (den0 a) (den0 b))
theorem Sz.int {k : Nat} {i : Int} (h : Bd k i) (hk : 1 ≤ k) : Sz k (i : Rat) := ⟨by rw [Rat.num_intCast]; exact h, by rw [Rat.den_intCast]; exact Nat.lt_of_lt_of_le (by decide : 1 < 2 ^ 1) (Nat.pow_le_pow_right (by decide) hk)⟩
/-- exact quotients -/
theorem fdivE {i j : Int} {k : Nat} {M : Store} (hj : Bd k j) (h0 : j ≠ 0) (hd : j ∣ i) (h : k < 9000) : fdivF (.int i) (.int j) M = ok (.int (i / j)) M := by
  rw [fdivB hj h0 h, Int.fdiv_eq_ediv_of_dvd hd]
end DL
namespace DL
open PySem L2
mutual
/-- data with short leaves -/
def okD : D → Bool
  | .non => true
  | .bl _ => true
  | .int i => decide (i.natAbs.log2 < 100)
  | .str x => ((PyData.str x).showable && (PyData.str x).leavesShort 200 && decide (x.cps.size ≤ 100)) && (PyData.str x).canLay0
  | .tup ds => okDs ds
  | .lst ds => okDs ds
  | _ => false
def okDs : List D → Bool
  | [] => true
  | d :: ds => okD d && okDs ds
end
mutual
def szD' : D → Nat
  | .tup ds => szDs ds
  | .lst ds => szDs ds
  | .str x => x.cps.size
  | _ => 0
def szDs : List D → Nat
  | [] => 0
  | d :: ds => szD' d + 1 + szDs ds
end
mutual
def dpD : D → Nat
  | .tup ds => dpDs ds + 1
  | .lst ds => dpDs ds + 1
  | _ => 0
def dpDs : List D → Nat
  | [] => 0
  | d :: ds => max (dpD d) (dpDs ds)
end
/-- how data are written -/
def rpr (d : D) : Str := match D.py d with
  | some p => p.shown
  | none => ""
section
variable {n w h : Nat} {f : Nat → D}
theorem lg {i : Int} (h : i.natAbs ≤ 1000000) : okD (.int i) = true := decide_eq_true (by
  have : Bd 20 i := by unfold Bd; omega
  have := this.lg
  omega)
end
end DL
namespace DL
open PySem L2 PyProof.Rows
/-- what an object of the top names, as far as it is asked of -/
def refsN (o : Obj) : List Addr := match o.data with
  | .func fd => He.refV fd.code ++ (He.refV fd.kwdefaults ++ (He.refV fd.defaults ++ fd.closure.map (·.2)))
  | .cls cd => [cd.ns]
  | .dict es _ => es.toList.flatMap fun e => He.refV e.val
  | _ => []
def lvl (g : Addr → Option Obj) : List Addr → List Addr
  | [] => []
  | a :: r => (match g a with
    | some o => refsN o
    | none => []) ++ lvl g r
/-- a list of addresses, each told as a number -/
def frA {α : Type} : List Addr → (List Addr → α) → α
  | [], k => k []
  | a :: r, k => HandSHeadRun.frNat a fun a => frA r fun r => k (a :: r)
theorem frA_eq {α : Type} : ∀ (l : List Addr) (k : List Addr → α), frA l k = k l
  | [], k => rfl
  | a :: r, k => by
    show (HandSHeadRun.frNat a fun a => frA r fun r => k (a :: r)) = _
    rw [HandSHeadRun.frNat_eq, frA_eq r]
/-- the objects at these places, but for empty tables -/
def frK {α : Type} (g : Addr → Option Obj) : List Addr → (PySem.W.Frag → α) → α
  | [], k => k []
  | a :: r, k => match g a with
    | some o => (match He.emptyTab o with
      | true => frK g r k
      | false => frK g r fun K => k ((a, o) :: K))
    | none => frK g r k
theorem frK_eq {α : Type} (g : Addr → Option Obj) : ∀ (l : List Addr) (k : PySem.W.Frag → α), frK g l k = k (He.frT g l)
  | [], k => rfl
  | a :: r, k => by
    show (match g a with
      | some o => (match He.emptyTab o with
        | true => frK g r k
        | false => frK g r fun K => k ((a, o) :: K))
      | none => frK g r k) = _
    unfold He.frT He.frG
    rw [List.filterMap_cons]
    cases h : g a with
    | none => exact frK_eq g r k
    | some o =>
      dsimp only [Option.map_some]
      rw [List.filter_cons]
      cases h2 : He.emptyTab o with
      | true => exact frK_eq g r k
      | false => exact frK_eq g r _
/-- four steps from the module's names -/
def asN {α : Type} (g : Addr → Option Obj) (k : List Addr → α) : α :=
  frA (lvl g [mainGlobals]) fun l1 => frA (lvl g l1) fun l2 => frA (lvl g l2) fun l3 => frA (lvl g l3) fun l4 => k (mainGlobals :: PySem.cStatics :: (l1 ++ (l2 ++ (l3 ++ l4))))
def asL (g : Addr → Option Obj) : List Addr := mainGlobals :: PySem.cStatics :: (lvl g [mainGlobals] ++ (lvl g (lvl g [mainGlobals]) ++ (lvl g (lvl g (lvl g [mainGlobals])) ++ lvl g (lvl g (lvl g (lvl g [mainGlobals]))))))
theorem asN_eq {α : Type} (g : Addr → Option Obj) (k : List Addr → α) : asN g k = k (asL g) := by
  unfold asN asL
  simp only [frA_eq]
def KZ (_n : Nat) (g : Addr → Option Obj) : PySem.W.Frag := He.frT g (asL g)
theorem KZ_in {n : Nat} {h : Heap} : (KZ n h.get?).In h := He.frT_in
abbrev FnM : Type := Option (Str × Str × Arguments × FuncBody × Scope × Addr × List Str × Addr)
/-- a function as it stands -/
def fnM (K : PySem.W.Frag) (a : Addr) : FnM := match K.lookup a with
  | some ⟨_, _, .func fd, _⟩ => some (fd.name, fd.qualname, fd.params, fd.body, fd.scope, fd.globals, fd.closure.map (·.1), fd.builtins)
  | _ => none
def fdOf (K : PySem.W.Frag) (a : Addr) : FuncData := match K.lookup a with
  | some ⟨_, _, .func fd, _⟩ => fd
  | _ => default
abbrev AlZ : Type := Bool × List FnM
abbrev FzL : Type := List (List (PySem.W.Frag → Bool))
abbrev MzL : Type := List (PySem.W.Frag → FnM)
def obsZ (fs : FzL) (ms : MzL) (K : PySem.W.Frag) : AlZ := (fs.all fun l => l.all fun f => f K, ms.map fun m => m K)
def SaysZ (fs : FzL) (ms : MzL) (vs : List FnM) (K : PySem.W.Frag) : Prop := obsZ fs ms K = (true, vs)
def hookZ (n : Nat) (fs : FzL) (ms : MzL) (vs : List FnM) : PySem.W.Hook where
  α := AlZ
  obs := fun s => obsZ fs ms (KZ n s.heap.get?)
  val := fun _ => (true, vs)
  says := fun _ h => ∃ K : PySem.W.Frag, K.In h ∧ SaysZ fs ms vs K
  of := fun _ _ e => ⟨_, KZ_in, e⟩
  keeps := fun _ _ _ ⟨Kw, hKw, cw⟩ kw => ⟨Kw, PySem.W.Frag.In.keeps hKw kw, cw⟩
def obZ (_n : Nat) (fs : FzL) (ms : MzL) (s : PySem.W.SharedT) : AlZ := asN (HandSHeadRun.getT s) fun as => frK (HandSHeadRun.getT s) as fun K => obsZ fs ms K
theorem obZ_eq {n : Nat} {fs : FzL} {ms : MzL} {vs : List FnM} (s : PySem.W.SharedT) : obZ n fs ms s = (hookZ n fs ms vs).obs s.abs := by
  have e : HandSHeadRun.getT s = s.abs.heap.get? := funext (HandSHeadRun.getT_eq s)
  unfold obZ
  rw [asN_eq, frK_eq, e] <;> rfl
section
variable {fs : FzL} {ms : MzL} {vs : List FnM} {K : PySem.W.Frag}
theorem SaysZ.fact (c : SaysZ fs ms vs K) (i j : Nat) {l : List (PySem.W.Frag → Bool)} {f : PySem.W.Frag → Bool} (hi : fs[i]? = some l := by rfl) (hj : l[j]? = some f := by rfl) : f K = true := by
  have c1 : (fs.all fun l => l.all fun f => f K) = true := congrArg (fun z : AlZ => z.1) c
  exact List.all_eq_true.mp (List.all_eq_true.mp c1 l (List.mem_of_getElem? hi)) f (List.mem_of_getElem? hj)
theorem SaysZ.fn (c : SaysZ fs ms vs K) (i : Nat) {m : PySem.W.Frag → FnM} {v : FnM} (hm : ms[i]? = some m := by rfl) (hv : vs[i]? = some v := by rfl) : m K = v := by
  have e : ms.map (fun m => m K) = vs := congrArg (fun z : AlZ => z.2) c
  have e2 : (ms.map fun m => m K)[i]? = vs[i]? := by rw [e]
  rw [List.getElem?_map, hm, hv] at e2
  exact Option.some.inj e2
end
def gloZ (x : Str) (K : PySem.W.Frag) : Bool := He.eqO (PySem.W.nsIn K mainGlobals x) (some (some (.ref (He.ga K x))))
def freeZ (x : Str) (K : PySem.W.Frag) : Bool := He.eqO (PySem.W.nsIn K mainGlobals x) (some none)
def bltZ (x : Str) (id : String) (K : PySem.W.Frag) : Bool := He.eqO (PySem.W.nsIn K mainGlobals x) (some (some (.builtin id)))
def intZ (x : Str) (i : Int) (K : PySem.W.Frag) : Bool := (He.Fa.int x i).ok K
section
variable {mg : Str → Option Value} {h : Heap} {K : PySem.W.Frag}
theorem gloZ_ok (X : K.In h) (G : h.Ns mainGlobals mg) {x : Str} (c : gloZ x K = true) : mg x = some (.ref (He.ga K x)) := PySem.W.mg_of X G (He.eqO_ok c)
theorem freeZ_ok (X : K.In h) (G : h.Ns mainGlobals mg) {x : Str} (c : freeZ x K = true) : mg x = none := PySem.W.mg_none_of X G (He.eqO_ok c)
theorem bltZ_ok (X : K.In h) (G : h.Ns mainGlobals mg) {x : Str} {id : String} (c : bltZ x id K = true) : mg x = some (.builtin id) := PySem.W.mg_of X G (He.eqO_ok c)
theorem intZ_ok (X : K.In h) (G : h.Ns mainGlobals mg) {x : Str} {i : Int} (c : intZ x i K = true) : ∃ t, mg x = some (.int i t) := He.int_ok X G c
end
/-- a def: its code object bears its name, no defaults -/
def defZ (x : Str) (K : PySem.W.Frag) : Bool := match K.lookup (He.ga K x) with
  | some ⟨_, _, .func fd, _⟩ => PySem.W.codeIn K fd.code x && (fd.defaults == Value.none && PySem.W.keepIn K (.ref (He.ga K x)))
  | _ => false
theorem fn_look {K : PySem.W.Frag} {a : Addr} {nm q : Str} {pa : Arguments} {body : List Stmt} {sc : Scope} {cn : List Str} {gl bi : Addr} (e : fnM K a = some (nm, q, pa, .stmts body, sc, gl, cn, bi)) :
    ∃ (oc : Value) (od : Option Addr) (osl : Array (Option Value)) (cl : List (Str × Addr)) (dV kV doc pm : Value) (an : Option Addr) (cdv ct : Value), cl.map (·.1) = cn ∧
      fdOf K a = ⟨nm, q, pa, .stmts body, sc, gl, cl, dV, kV, doc, pm, an, cdv, ct, bi⟩ ∧ K.lookup a = some ⟨oc, od, .func (fdOf K a), osl⟩ := by
  unfold fnM at e
  cases q1 : K.lookup a with
  | none =>
    rw [q1] at e
    cases e
  | some o =>
    obtain ⟨oc, od, dt, osl⟩ := o
    rw [q1] at e
    cases dt with
    | func fd =>
      rcases fd with ⟨n1, n2, n3, n4, n5, n6, n7, n8, n9, n10, n11, n12, n13, n14, n15⟩
      have e2 : (some (n1, n2, n3, n4, n5, n6, n7.map (·.1), n15) : FnM) = some (nm, q, pa, .stmts body, sc, gl, cn, bi) := e
      simp only [Prod.mk.injEq, Option.some.injEq] at e2
      rcases e2 with ⟨h1, h2, h3, h4, h5, h6, h7, h8⟩
      subst h1 h2 h3 h4 h5 h6 h7 h8
      have e3 : fdOf K a = ⟨n1, n2, n3, .stmts body, n5, n6, n7, n8, n9, n10, n11, n12, n13, n14, n15⟩ := by
        unfold fdOf
        rw [q1]
      exact ⟨oc, od, osl, n7, n8, n9, n10, n11, n12, n13, n14, rfl, e3, by rw [e3]⟩
    | _ => cases e
theorem map_nil {α β : Type} {f : α → β} {l : List α} (h : l.map f = []) : l = [] := List.map_eq_nil_iff.mp h
theorem fun_z {K : PySem.W.Frag} {x : Str} {st : Stmt} (e : fnM K (He.ga K x) = some (x, x, defArgs st, .stmts (defBody st), defScope st, mainGlobals, [], builtinsNs)) (b : defZ x K = true) : Fun K x x st (He.ga K x) (fdOf K (He.ga K x)) := by
  obtain ⟨oc, od, osl, cl, dV, kV, doc, pm, an, cdv, ct, hcl, hf, lk⟩ := fn_look e
  have hcl := map_nil hcl
  subst hcl
  unfold defZ at b
  rw [lk] at b
  dsimp only at b
  obtain ⟨b1, b2⟩ := He.ba b
  obtain ⟨b2, b3⟩ := He.ba b2
  rw [hf] at b1 b2
  have hd : dV = .none := beq_iff_eq.mp b2
  subst hd
  exact ⟨⟨oc, od, kV, doc, pm, an, cdv, ct, osl, hf, lk, b1⟩, b3⟩
theorem kwB_z {K : PySem.W.Frag} {x : Str} {st : Stmt} {f : Addr} {ps ks : List Str} {n : Nat} {is : List Nat} (F : Fun K x x st f (fdOf K (He.ga K x)))
    (h : ∀ (kV doc pm : Value) (an : Option Addr) (cdv ct : Value) (us ws : List Value), us.length = n → ws.length = ks.length → bindArgs (PySem.W.fnOf x x (defArgs st) (defBody st) (defScope st) .none kV doc pm an cdv ct) ⟨us, ks.zip ws⟩ = pure (ps.zip (pk is (us ++ ws)))) : KwB K (fdOf K (He.ga K x)) ps n ks is := by
  obtain ⟨oc, od, kV, doc, pm, an, cdv, ct, osl, hf, lk, hcd⟩ := F.ex
  rw [hf]
  exact KwB.of fun us ws h1 h2 => h kV doc pm an cdv ct us ws h1 h2
def excZ (x : Str) (K : PySem.W.Frag) : Bool := (fun C : Addr =>
  (PySem.W.keepIn K (.ref C) && (decide (PySem.W.subIn K (.ref C) (.type "BaseException") = some true) && decide (PySem.W.typeIn K (.ref C) = some (.type "type")))) &&
  ((He.eqO (PySem.W.findIn K (.ref C) "__getattribute__") (some (some (.builtin "BaseException.__getattribute__"))) && He.eqO (PySem.W.findIn K (.ref C) "__getattr__") (some none)) &&
  ((PySem.W.hasDictIn K C && He.eqO (PySem.W.findIn K (.ref C) "__class__") (some (some (.builtin "object.__class__")))) &&
  ((He.eqO (PySem.W.specialIn K (.builtin "object.__class__") "__get__") (some (some (.builtin "getset_descriptor.__get__"))) && decide (PySem.W.takesIn K (.builtin "object.__class__") = some true)) && decide (PySem.W.mroIn K C (.type "object") = some true))))) (He.ga K x)
structure ExcF (K : PySem.W.Frag) (C : Addr) : Prop where
  kp : (PySem.W.keepIn K (.ref C)) = true
  bc : PySem.W.subIn K (.ref C) (.type "BaseException") = some true
  tc : PySem.W.typeIn K (.ref C) = some (.type "type")
  ec : L2.ExcC K C
theorem excZ_ok {x : Str} {K : PySem.W.Frag} (h : excZ x K = true) : ExcF K (He.ga K x) := by
  unfold excZ at h
  obtain ⟨h1, h2⟩ := He.ba h
  obtain ⟨h3, h4⟩ := He.ba h1
  obtain ⟨h4, h5⟩ := He.ba h4
  obtain ⟨h6, h7⟩ := He.ba h2
  obtain ⟨h6, h8⟩ := He.ba h6
  obtain ⟨h9, h10⟩ := He.ba h7
  obtain ⟨h9, h11⟩ := He.ba h9
  obtain ⟨h12, h13⟩ := He.ba h10
  obtain ⟨h12, h14⟩ := He.ba h12
  have e := of_decide_eq_true h4
  exact ⟨h3, e, of_decide_eq_true h5, ⟨He.eqO_ok h6, He.eqO_ok h8, e, h9, He.eqO_ok h11, He.eqO_ok h12, of_decide_eq_true h14, of_decide_eq_true h13⟩⟩
def kitZ (x : Str) (v : PySem.W.Frag → Value) (b : Bool) (K : PySem.W.Frag) : Bool := decide (PySem.W.kitOne K (.ref (He.ga K x)) (v K) = some b)
def exmOZ (x y : Str) (K : PySem.W.Frag) : Bool := decide (PySem.W.exmOne K (.ref (He.ga K x)) (.ref (He.ga K y)) = some true)
def exc0Z (x : Str) (tl : List Value) (nw : String) (K : PySem.W.Frag) : Bool := PySem.W.excIn K (He.ga K x) tl nw
theorem walk_Z {l : PySem.W.OpenLaw} {n k : Nat} {q : Program} {loose : List Str} {XP : (Str → Option Value) → Heap → Prop} {YP : World → Heap → Prop} {d : DefRec} {x : Str} (hn : l.most = some n) (hn2 : n ≤ sizeLine) (hdf : d.params.defaults = [])
    (hr : Room k callerA) (F : ∀ (w : World) (mg : Str → Option Value) (fa : Addr) (h : Heap), YP w h → h.Ns mainGlobals mg → mg d.name = some (.ref fa) → ∃ K : PySem.W.Frag, K.In h ∧ DEnd l.prog w K q k n x mg fa) :
    PySem.W.WalkO q loose XP YP l.row.toRowW d [] (fun g ws => PySem.call g ws) := by
  refine Att.attach_callB hn hdf fun w s₀ s₁ mg mb fa ob pmd cdv dcv a vs ns G Y ho hd hcd hmg hobj hints hlen hbits hg => ?_
  obtain ⟨K, KX, F0, fd, xs, den, hK, hx, hT, hb, hF, hden⟩ := F w mg fa _ Y G.T.g hmg
  subst hK
  have hc : ∀ p ∈ xs.map (·.2), PySem.W.CodeHd s₁.heap p.1 p.2 ∧ s₁.heap.get? p.2 = some { cls := .none, data := .fields #[] } := fun p hp => by
    obtain ⟨y, hy, rfl⟩ := List.mem_map.mp hp
    obtain ⟨⟨dd, h1⟩, h2, h3⟩ := hx y hy
    exact PySem.W.tab_of G.T KX h1 h2
  have e : Ent F0.K mg s₁ (xs.map (·.2)) a vs ns := ⟨KX, G.T.g, ⟨mb, G.T.b, G.T.builtins⟩, G.T.nolimit, hg, fun p hp => (hc p hp).2, fun p hp => by
    obtain ⟨y, hy, rfl⟩ := List.mem_map.mp hp
    exact (hx y hy).2.2, fun p hp => (hc p hp).1, G.T.bmain, hobj, hints, Nat.le_trans hlen hn2⟩
  exact ent_call e hr hT hb hF (hden ns hlen hbits)
end DL
namespace DL
open PySem L2 PyProof.Rows
end DL
namespace L2
open PySem PySem.Spec
open PyProof.Rows
section
variable {X : Cx}
def tPar3 (i j l : Nat) (ta : TA) : TS := fun D σ H => ta σ H fun vs H1 => ∃ v w z, vs = [v, w, z] ∧ D.nx (((σ.set i (some v)).set j (some w)).set l (some z)) H1
theorem ps_par3 {i j l : Nat} {x y z : Str} {a b c : Expr} {ta : TA} {px py pz pt pos : Pos} {kt k2 pt2} (hcq : X.calm = true) (hNq : X.N.Nodup) (hi : X.N[i]? = some x) (hj : X.N[j]? = some y) (hl : X.N[l]? = some z) (hij : i ≠ j) (hil : i ≠ l) (hjl : j ≠ l)
    (hxq : X.env.scope.names.lookup x = some .local) (hyq : X.env.scope.names.lookup y = some .local) (hzq : X.env.scope.names.lookup z = some .local) (ha : PA X [a, b, c] ta)
    (hwq : swappedStores [.Tuple [.Name x px, .Name y py, .Name z pz] kt pt] (.Tuple [a, b, c] k2 pt2) X.env = pure (some [x, y, z]))
    (hsq : swapsWithSole [.Tuple [.Name x px, .Name y py, .Name z pz] kt pt] (.Tuple [a, b, c] k2 pt2) pos.line X.env = pure false) : PS X (.Assign [.Tuple [.Name x px, .Name y py, .Name z pz] kt pt] (.Tuple [a, b, c] k2 pt2) pos) (tPar3 i j l ta) := by
  refine ⟨fun pins s σ H D I h0 => ?_⟩
  rw [exec_Assign_arm]
  (refine wpAny_bind (wpAny_standAt ?_))
  rw [hsq]
  (refine wpAny_bind (wpAny_pure ?_))
  rw [if_neg (by decide)]
  refine wpAny_bind (Tuple_ (thn (ha.run _ pins s σ H _ I h0) fun us s1 ⟨vs, H1, I1, r1, q1⟩ => ?_))
  obtain ⟨v, w, t, e1, q1⟩ := q1
  subst e1
  obtain ⟨u1, u2, u3, rfl, rv, rw', rt⟩ : ∃ u1 u2 u3, us = [u1, u2, u3] ∧ RelV v u1 ∧ RelV w u2 ∧ RelV t u3 := by
    cases r1 with
    | cons p q => cases q with
      | cons p' q' => cases q' with
        | cons p2 q2 =>
          cases q2
          exact ⟨_, _, _, rfl, p, p', p2⟩
  (refine wpAny_newObj_type ?_ (by show 3 ≤ sizeLine; decide))
  have I2 : Inv X pins σ H1 { s1 with heap := s1.heap.push { cls := .type "tuple", data := .seq [u1, u2, u3].toArray } } := by
    exact I1.kept (t' := s1.toks) (fun b o q => Heap.get?_push_of_some _ q)
  rw [hwq]
  (refine wpAny_bind (wpAny_pure ?_))
  (show wpAny (model X.prog X.w) X.A (do rule "assign.swapped-stores"; let items ← unpackItems (.ref s1.heap.objs.size) 3 none; assignInOrder [fun v => bindName X.env z v, fun v => bindName X.env y v, fun v => bindName X.env x v] items.reverse; pure Flow.next) _ _ _)
  refine wpAny_bind (wpAny_rule (wpAny_bind (unpackItems_tuple (items := #[u1, u2, u3]) (I.ok.hd hcq) (IsTup.new s1.heap _) fun h' hxq' => ?_)))
  have I3 := I2.kept (h' := h') (t' := s1.toks) fun b o e => hxq' b o (Nat.ne_of_lt (Heap.lt_size e)) e
  (show wpAny _ _ (assignInOrder [fun v => bindName X.env z v, fun v => bindName X.env y v, fun v => bindName X.env x v] [u3, u2, u1] >>= fun _ => pure Flow.next) _ _ _)
  refine wpAny_bind (assignInOrder_cons (wpAny_bindName (store_ok I3 hNq hl (.inl hzq) rt (fun s2 I4 => ?_) (.inr hzq))))
  refine assignInOrder_cons (wpAny_bindName (store_ok I4 hNq hj (.inl hyq) rw' (fun s3 I5 => ?_) (.inr hyq)))
  refine assignInOrder_cons (wpAny_bindName (store_ok I5 hNq hi (.inl hxq) rv (fun s4 I6 => assignInOrder_nil (wpAny_pure ?_)) (.inr hxq)))
  have e : ((σ.set l (some t)).set j (some w)).set i (some v) = ((σ.set i (some v)).set j (some w)).set l (some t) := by
    rw [List.set_comm _ _ hjl.symm, List.set_comm _ _ hil.symm, List.set_comm (some w) (some v) hij.symm]
  rw [e] at I6
  exact ⟨_, H1, I6, q1⟩
end
end L2
namespace DL
open PySem L2
section
variable {F : Fx} {X : Cx} {W : WX} {L L1 : List Addr} {H H1 : Hp} {M : Store} {e : Env} {σ : St} {T : Ends} {k : Nat}
def parS3 (i j l : Nat) (da db dc : DenE) : DenS := fun e M => thenS (da e M) e fun d M1 => thenS (db e M1) e fun d' M2 => thenS (dc e M2) e fun d2 M3 => some (.nx (((e.set i (some d)).set j (some d')).set l (some d2)), M3)
theorem ds_par3 (i j l : Nat) {x y z : Str} {a b c : Expr} {da db dc : DenE} {px py pz pt pos : Pos} {kt k2 pt2} (hc : X.calm = true) (hN : X.N.Nodup) (ha : DE F X W a da) (hb : DE F X W b db) (hd : DE F X W c dc) (hi : X.N[i]? = some x := by rfl) (hj : X.N[j]? = some y := by rfl) (hl : X.N[l]? = some z := by rfl) (hij : i ≠ j := by decide) (hil : i ≠ l := by decide) (hjl : j ≠ l := by decide)
    (hx : X.env.scope.names.lookup x = some .local := by rfl) (hy : X.env.scope.names.lookup y = some .local := by rfl) (hz : X.env.scope.names.lookup z = some .local := by rfl) (hw : swappedStores [.Tuple [.Name x px, .Name y py, .Name z pz] kt pt] (.Tuple [a, b, c] k2 pt2) X.env = pure (some [x, y, z]) := by rfl)
    (hs : swapsWithSole [.Tuple [.Name x px, .Name y py, .Name z pz] kt pt] (.Tuple [a, b, c] k2 pt2) pos.line X.env = pure false := by rfl) (h1 : starEach (a :: [b, c]) X.env = (false, eval a X.env) :: starEach [b, c] X.env := by rfl) (h2 : starEach (b :: [c]) X.env = (false, eval b X.env) :: starEach [c] X.env := by rfl) (h3 : starEach (c :: []) X.env = (false, eval c X.env) :: starEach [] X.env := by rfl) :
    DS F X W (.Assign [.Tuple [.Name x px, .Name y py, .Name z pz] kt pt] (.Tuple [a, b, c] k2 pt2) pos) (parS3 i j l da db dc) := by
  obtain ⟨ta, p1, q1⟩ := ha
  obtain ⟨tb, p2, q2⟩ := hb
  obtain ⟨tc, p3, q3⟩ := hd
  refine ⟨_, ps_par3 hc hN hi hj hl hij hil hjl hx hy hz (pa_cons p1 (pa_cons p2 (pa_cons p3 pa_nil h3) h2) h1) hw hs, fun e M L σ H T sr pp => q1 e M L σ H _ sr (post_then (fun d M1 L1 H1 v s1 r1 rv q => ?_) pp)⟩
  refine q2 e M1 L1 σ H1 _ r1 (post_then (fun d2 M2 L2 H2 v2 s2 r2 rv2 q => ?_) q)
  refine q3 e M2 L2 σ H2 _ r2 (post_then (fun d3 M3 L3 H3 v3 s3 r3 rv3 q => ?_) q)
  exact ⟨v, v2, v3, rfl, q L3 H3 _ (Stp.refl L3 H3) (((r3.set i (Rep.stay r2.m s3 d v (Rep.stay r1.m s2 d v rv))).set j (Rep.stay r2.m s3 d2 v2 rv2)).set l rv3)⟩
end
end DL
namespace DL
open PySem L2
section
variable {F : Fx} {X : Cx} {W : WX} {L L1 : List Addr} {H H1 : Hp} {M : Store} {e : DL.Env} {σ : L2.St} {T : Ends} {k : Nat}
abbrev rNeE (K : PySem.W.Frag) : R2 := fun x y H Q => ∃ a b xs, x = .ref a ∧ y = .ref b ∧ SqT K H a xs ∧ SqT K H b [] ∧ Q (.bl (!xs.isEmpty)) H
theorem op_neE (hu : X.A.units + 64 < cLine) : OpR X (compareOp .NotEq) (rNeE X.K) := by
  intro p₀ s₀ σ₀ H₀ x y v u Q₀ I₀ rx ry q
  obtain ⟨a, b, xs, rfl, rfl, h1, h2, h3⟩ := q
  obtain rfl : v = .ref a := rx
  obtain rfl : u = .ref b := ry
  obtain ⟨its, rv, p, hz⟩ := I₀.tuple h1
  obtain ⟨its2, rv2, p2, hz2⟩ := I₀.tuple h2
  cases rv2
  refine SeqAt.RcNeAt.tuples (e := fun _ => true) p p2 (by omega) (fun j _ z => absurd z (by simp)) X.prog X.w _ _ ?_
  refine ⟨_, H₀, I₀, ?_, h3⟩
  have hl := Paired.length rv
  cases rv with
  | nil => rfl
  | cons r rt => rfl
def neGF : D → D → Store → RE
  | .tup ds, .tup [], M => ok (.bl (!ds.isEmpty)) M
  | x, y, M => neF x y M
theorem opr_neG (hu : X.A.units + 64 < cLine) : OpR X (compareOp .NotEq) (fun x y H Q => rNeE X.K x y H Q ∨ rNeV X.K x y H Q) := orR (op_neE hu) (opr_ne hu)
theorem neG_ok : OpOk F (fun x y H Q => rNeE F.K x y H Q ∨ rNeV F.K x y H Q) neGF := fun d1 d2 M L H e σ W v1 v2 Q sr r1 r2 p => by
  unfold neGF at p
  split at p
  · rename_i ds
    obtain ⟨a, vs, rfl, q1, q2⟩ := r1
    obtain ⟨b, ws, rfl, q3, q4⟩ := r2
    obtain rfl : ws = [] := q4
    refine .inl ⟨a, b, vs, rfl, rfl, (.inl (.inl q1)), (.inl (.inl q3)), ?_⟩
    have hl := reps_len q2
    have e1 : vs.isEmpty = ds.isEmpty := by
      cases vs with
      | nil => cases ds with
        | nil => rfl
        | cons d r => cases hl
      | cons v r => cases ds with
        | nil => cases hl
        | cons d r => rfl
    rw [e1]
    exact p.ok sr rfl
  · exact .inr (ne_ok _ _ _ _ _ _ _ _ _ _ _ sr r1 r2 p)
end
end DL
namespace DL
open PySem L2
section
variable {e : DL.Env} {M : Store} {da db : DenE} {a b : Bool}
theorem or_v (h1 : da e M = ok (.bl a) M) (h2 : a = false → db e M = ok (.bl b) M) : orD da db e M = ok (.bl (a || b)) M := by
  unfold orD brD
  rw [h1, bindE_v]
  cases a with
  | true => rfl
  | false => exact h2 rfl
theorem and_v (h1 : da e M = ok (.bl a) M) (h2 : a = true → db e M = ok (.bl b) M) : andD da db e M = ok (.bl (a && b)) M := by
  unfold andD brD
  rw [h1, bindE_v]
  cases a with
  | false => rfl
  | true => exact h2 rfl
theorem not_v (h1 : da e M = ok (.bl a) M) : unD notF da e M = ok (.bl (!a)) M := by
  unfold unD
  rw [h1]
  rfl
theorem if_t {d1 d2 : DenS} (h1 : da e M = ok (.bl true) M) : ifS da d1 d2 e M = d1 e M := by
  unfold ifS
  rw [h1]
  rfl
theorem if_f {d1 d2 : DenS} (h1 : da e M = ok (.bl false) M) : ifS da d1 d2 e M = d2 e M := by
  unfold ifS
  rw [h1]
  rfl
end
section
variable {g : DenG} {body b : DenS} {chk : Store → Prop} {di : DenI} {e : DL.Env} {M : Store} {P : Flw → Store → Prop}
theorem forL_R (Inv : Nat → DL.Env → Store → Prop) : ∀ (ds : List D) (i : Nat) (e : DL.Env) (M : Store), (∀ (j : Nat) (d : D) (e : DL.Env) (M : Store), ds[j]? = some d → Inv (i + j) e M → chk M ∧ ∃ e1 M1, g d e M = some (.nx e1, M1) ∧ Wp (body e1 M1) fun f M2 => (∃ e2, (f = .nx e2 ∨ f = .ct e2) ∧ Inv (i + j + 1) e2 M2) ∨ ∃ v, f = .rt v ∧ P f M2) →
    (∀ e M, Inv (i + ds.length) e M → chk M) → Inv i e M → Wp (forIL g chk body ds e M) fun f M2 => (∃ e2, f = .nx e2 ∧ Inv (i + ds.length) e2 M2) ∨ ∃ v, f = .rt v ∧ P f M2
  | [], i, e, M, _, hc, h => ⟨.nx e, M, by unfold forIL; rw [if_pos (hc e M h)], .inl ⟨e, rfl, h⟩⟩
  | d :: ds, i, e, M, hs, hc, h => by
    obtain ⟨c, e1, M1, h1, f, M2, h2, h3⟩ := hs 0 d e M rfl h
    rcases h3 with ⟨e2, h3, h4⟩ | ⟨v, rfl, h4⟩
    · obtain ⟨f', M', k1, k2⟩ := forL_R Inv ds (i + 1) e2 M2 (fun j d' e M q w => by
        have := hs (j + 1) d' e M q (by rwa [show i + (j + 1) = i + 1 + j by omega])
        rwa [show i + (j + 1) + 1 = i + 1 + j + 1 by omega] at this) (fun e M w => hc e M (by rwa [List.length_cons, show i + (ds.length + 1) = i + 1 + ds.length by omega])) h4
      refine ⟨f', M', ?_, by rwa [List.length_cons, show i + (ds.length + 1) = i + 1 + ds.length by omega]⟩
      unfold forIL
      rw [if_pos c, h1]
      dsimp only
      rcases h3 with rfl | rfl
      · rw [h2]
        exact k1
      · rw [h2]
        exact k1
    · refine ⟨.rt v, M2, ?_, .inr ⟨v, rfl, h4⟩⟩
      unfold forIL
      rw [if_pos c, h1]
      dsimp only
      rw [h2]
theorem wp_forR (ds : List D) (Inv : Nat → DL.Env → Store → Prop) (hdi : di e M = ok (ds, chk) M)
    (hs : ∀ (j : Nat) (d : D) (e : DL.Env) (M : Store), ds[j]? = some d → Inv j e M → chk M ∧ ∃ e1 M1, g d e M = some (.nx e1, M1) ∧ Wp (body e1 M1) fun f M2 => (∃ e2, (f = .nx e2 ∨ f = .ct e2) ∧ Inv (j + 1) e2 M2) ∨ ∃ v, f = .rt v ∧ P f M2)
    (hc : ∀ e M, Inv ds.length e M → chk M) (h : Inv 0 e M) (k : ∀ e' M', Inv ds.length e' M' → P (.nx e') M') : Wp (forI g di body e M) P := by
  obtain ⟨f, M', h1, h2⟩ := forL_R (P := P) (g := g) (body := body) (chk := chk) Inv ds 0 e M (fun j d e M q w => by
    rw [Nat.zero_add] at w ⊢
    exact hs j d e M q w) (fun e M w => hc e M (by rwa [Nat.zero_add] at w)) h
  refine ⟨f, M', ?_, ?_⟩
  · unfold forI
    rw [hdi, thenS_v]
    exact h1
  · rcases h2 with ⟨e2, rfl, h2⟩ | ⟨v, rfl, h2⟩
    · exact k e2 M' (by rwa [Nat.zero_add] at h2)
    · exact h2
theorem wp_forR_nx (ds : List D) (Inv : Nat → DL.Env → Store → Prop) (hdi : di e M = ok (ds, chk) M)
    (hs : ∀ (j : Nat) (d : D) (e : DL.Env) (M : Store), ds[j]? = some d → Inv j e M → chk M ∧ ∃ e1 M1, g d e M = some (.nx e1, M1) ∧ Wp (body e1 M1) fun f M2 => (∃ e2, (f = .nx e2 ∨ f = .ct e2) ∧ Inv (j + 1) e2 M2) ∨ ∃ v, f = .rt v ∧ P f M2)
    (hc : ∀ e M, Inv ds.length e M → chk M) (h : Inv 0 e M) (k : ∀ e' M', Inv ds.length e' M' → Wp (b e' M') P) : Wp (seqS (forI g di body) b e M) P := by
  refine wp_seq (wp_forR ds Inv hdi (fun j d e M q w => ?_) hc h fun e' M' w => .inl ⟨e', rfl, k e' M' w⟩)
  obtain ⟨c, e1, M1, h1, f, M2, h2, h3⟩ := hs j d e M q w
  refine ⟨c, e1, M1, h1, f, M2, h2, ?_⟩
  rcases h3 with h3 | ⟨v, rfl, h4⟩
  · exact .inl h3
  · exact .inr ⟨v, rfl, .inr ⟨(fun _ z => nomatch z), h4⟩⟩
end
theorem pick_range {α : Type} (xs : List α) (a : Nat) : ∀ m, a + m ≤ xs.length → ((List.range m).map fun j => a + j).filterMap (xs[·]?) = (xs.drop a).take m
  | 0, _ => by simp
  | m + 1, h => by
    have e : xs[a + m]? = some xs[a + m] := List.getElem?_eq_getElem (by omega)
    rw [List.range_succ, List.map_append, List.filterMap_append, pick_range xs a m (by omega), List.map_singleton, List.filterMap_cons, e]
    rw [List.take_add_one, List.getElem?_drop, e]
    rfl
theorem slp_part {ds : List D} {lo hi : Option Int} {a m : Nat} {M : Store} (h : (Builtin.Slice.sliceAdjust lo hi 1 ds.length).1 = (a : Int)) (h2 : Builtin.Slice.slicePlaces (Builtin.Slice.sliceAdjust lo hi 1 ds.length).1 (Builtin.Slice.sliceAdjust lo hi 1 ds.length).2 1 = m) (hm : a + m ≤ ds.length) (hl : ds.length ≤ 100000) : slpF (.tup ds) lo hi none M = ok (.tup ((ds.drop a).take m)) M := by
  have e : prtI ds.length lo hi none = (List.range m).map fun j => a + j := by
    unfold prtI
    rw [show (none : Option Int).getD 1 = 1 from rfl, h2, h]
    exact List.map_congr_left fun j _ => by omega
  unfold slpF prtF
  dsimp only
  rw [if_pos ⟨by decide, by rw [e, List.length_map, List.length_range]; omega⟩]
  unfold prtT
  rw [e, pick_range _ _ _ hm]
  by_cases w : whole ds.length lo hi none = true
  · rw [if_pos w]
    unfold whole at w
    rw [show (none : Option Int).getD 1 = 1 from rfl, h2, h] at w
    simp only [Bool.and_eq_true, beq_iff_eq] at w
    have a0 : a = 0 := by omega
    rw [a0, List.drop_zero, w.2, List.take_length]
  · rw [if_neg w]
theorem slp_take {ds : List D} {k : Nat} {M : Store} (hl : ds.length ≤ 100000) : slpF (.tup ds) none (some (k : Int)) none M = ok (.tup (ds.take k)) M := by
  rw [slp_part (a := 0) (m := min k ds.length) rfl ?_ (by omega) hl]
  · rw [List.drop_zero]
    by_cases c : k ≤ ds.length
    · rw [Nat.min_eq_left c]
    · rw [Nat.min_eq_right (by omega), List.take_length, List.take_of_length_le (by omega)]
  · unfold Builtin.Slice.slicePlaces Builtin.Slice.sliceAdjust
    simp only [show ¬ (1 : Int) < 0 by decide, if_false, show (1 : Int) > 0 by decide, if_true]
    rw [if_neg (show ¬ (k : Int) < 0 by omega)]
    split <;> omega
theorem slp_drop {ds : List D} {k : Nat} {M : Store} (hl : ds.length ≤ 100000) : slpF (.tup ds) (some (k : Int)) none none M = ok (.tup (ds.drop k)) M := by
  rw [slp_part (a := min k ds.length) (m := ds.length - k) ?_ ?_ (by omega) hl]
  · congr 2
    by_cases c : k ≤ ds.length
    · rw [Nat.min_eq_left c, List.take_of_length_le (by simp)]
    · rw [Nat.min_eq_right (by omega), List.drop_of_length_le (Nat.le_refl _), List.drop_of_length_le (by omega), List.take_nil]
  · unfold PySem.Builtin.Slice.sliceAdjust
    simp only [show ¬ (1 : Int) < 0 by decide, if_false]
    rw [if_neg (show ¬ (k : Int) < 0 by omega)]
    omega
  · unfold Builtin.Slice.slicePlaces Builtin.Slice.sliceAdjust
    simp only [show ¬ (1 : Int) < 0 by decide, if_false, show (1 : Int) > 0 by decide, if_true]
    rw [if_neg (show ¬ (k : Int) < 0 by omega)]
    split <;> omega
theorem slc_drop {d : D} {ds : List D} {k : Nat} {M : Store} (hd : getL M d = some ds) (nt : ∀ xs, d ≠ .tup xs) : slpF d (some (k : Int)) none none M = ok (.lst (ds.drop k)) M := by
  have e1 : slpF d (some (k : Int)) none none M = slcF d (some (k : Int)) none none M := by
    unfold slpF
    split
    · exact absurd rfl (nt _)
    · rfl
  rw [e1]
  unfold slcF
  rw [hd]
  dsimp only
  rw [if_neg (by decide)]
  have e2 : pickL ds (some (k : Int)) none none = ds.drop k := by
    unfold pickL sliceRange sliceBounds
    have q : (if 1 > 0 then max 0 (min (if (k : Int) < 0 then (k : Int) + (ds.length : Int) else (k : Int)) (ds.length : Int)) else max (-1) (min (if (k : Int) < 0 then (k : Int) + (ds.length : Int) else (k : Int)) ((ds.length : Int) - 1))) = ((min k ds.length : Nat) : Int) := by
      rw [if_pos (by decide), if_neg (by omega)]
      omega
    simp only [Option.getD_none, show (1 : Int) > 0 by decide, if_true]
    rw [if_neg (show ¬ (k : Int) < 0 by omega)]
    have q2 : max 0 (min (k : Int) (ds.length : Int)) = ((min k ds.length : Nat) : Int) := by omega
    rw [q2]
    have q3 : (if ((min k ds.length : Nat) : Int) < (ds.length : Int) then ((ds.length : Int) - ((min k ds.length : Nat) : Int) + 1 - 1) / 1 else 0).toNat = ds.length - k := by
      split <;> omega
    rw [q3]
    have q4 : (List.map (fun (j : Nat) => (((min k ds.length : Nat) : Int) + 1 * (j : Int)).toNat) (List.range (ds.length - k))) = (List.range (ds.length - k)).map fun j => min k ds.length + j := List.map_congr_left fun j _ => by omega
    rw [q4, pick_range _ _ _ (by omega)]
    by_cases c : k ≤ ds.length
    · rw [Nat.min_eq_left c, List.take_of_length_le (by simp)]
    · rw [Nat.min_eq_right (by omega), List.drop_of_length_le (Nat.le_refl _), List.drop_of_length_le (by omega), List.take_nil]
  rw [e2]
section
variable {e : DL.Env} {M : Store} {n : Nat}
theorem map_getR {α : Type} {n j : Nat} {f : Nat → α} {d : α} (h : ((List.range n).map f)[j]? = some d) : j < n ∧ d = f j := by
  have lt := (List.getElem?_eq_some_iff.mp h).1
  simp only [List.length_map, List.length_range] at lt
  refine ⟨lt, ?_⟩
  rw [List.getElem?_map, List.getElem?_range lt] at h
  exact (Option.some.inj h).symm
theorem get_mapR {α : Type} {n j : Nat} {f : Nat → α} (h : j < n) : ((List.range n).map f)[j]? = some (f j) := by
  rw [List.getElem?_map, List.getElem?_range h]
  rfl
theorem it_r1 {da : DenE} {n : Nat} (h : da e M = ok (.int (n : Int)) M) (hn : n ≤ 1000000) : rng1 (consA da nilA) e M = ok ((List.range n).map fun (j : Nat) => D.int (j : Int), fun _ => True) M := it_rng (by
  show bindE (da e M) (fun d M1 => bindE (ok [] M1) fun ds M2 => ok (d :: ds) M2) = _
  rw [h]
  rfl) hn
theorem it_r2 {da db : DenE} {a b : Nat} (ha : da e M = ok (.int (a : Int)) M) (hb : db e M = ok (.int (b : Int)) M) (h : b ≤ 1000000) (h2 : a ≤ 1000000) : rng2 (consA da (consA db nilA)) e M = ok ((List.range (b - a)).map fun (j : Nat) => D.int ((a + j : Nat) : Int), fun _ => True) M := by
  unfold rng2
  show bindE (bindE (da e M) fun d M1 => bindE (bindE (db e M1) fun d M1 => ok [d] M1) fun ds M2 => ok (d :: ds) M2) _ = _
  rw [ha, bindE_v, hb, bindE_v, bindE_v, bindE_v]
  dsimp only
  rw [if_pos ⟨small_i (by omega), small_i (by omega)⟩, show ((b : Int) - (a : Int)).toNat = b - a by omega]
  unfold rngI
  refine congrArg (fun l => ok (l, fun _ => True) M) (List.map_congr_left fun j _ => ?_)
  exact congrArg D.int (by omega)
theorem ixN_nat {n j : Nat} (h : j < n) : ixN n (j : Int) = some j := by
  unfold ixN
  (rw [if_pos (by omega), if_pos (by omega)])
  rfl
theorem subG_at {dob di : DenE} {n j : Nat} {i : Int} {d : D} {ds : List D} (ho : dob e M = ok (.loc n) M) (hi : di e M = ok (.int i) M) (hij : i = (j : Int)) (h : M[n]? = some (.lst ds)) (hj : j < ds.length) : subG dob di d e M = some (.nx e, M.set n (.lst (ds.set j d))) := by
  subst hij
  unfold subG
  rw [ho, thenS_v, hi, thenS_v]
  dsimp only
  rw [h]
  dsimp only
  rw [ixN_nat hj]
theorem map_set {n j : Nat} {f : Nat → D} {d : D} (hj : j < n) : ((List.range n).map f).set j d = (List.range n).map fun c => if c = j then d else f c := by
  apply List.ext_getElem?
  intro i
  by_cases hi : i < n
  · rw [get_mapR hi]
    by_cases hij : j = i
    · subst hij
      rw [List.getElem?_set_self (by simp; omega), if_pos rfl]
    · rw [List.getElem?_set_ne hij, get_mapR hi, if_neg (fun z => hij z.symm)]
  · rw [List.getElem?_eq_none (by simp; omega), List.getElem?_eq_none (by simp; omega)]
theorem set_self {α : Type} {M : List α} {i : Nat} {o : α} (h : M[i]? = some o) : M.set i o = M := by
  have lt := (List.getElem?_eq_some_iff.mp h).1
  apply List.ext_getElem?
  intro j
  by_cases hj : i = j
  · subst hj
    rw [List.getElem?_set_self lt, h]
  · rw [List.getElem?_set_ne hj]
theorem range_snoc {f : Nat → D} (n : Nat) : (List.range n).map f ++ [f n] = (List.range (n + 1)).map f := by
  rw [List.range_succ, List.map_append]
  rfl
theorem tupcompR {f g : Nat → D} {de : DenE} {di : DenI} {i : Nat} (hdi : ∀ M, di e M = ok ((List.range n).map g, fun _ => True) M) (hn : n ≤ 100) (hde : ∀ k, k < n → ∀ M, de (e.set i (some (g k))) M = ok (f k) M) (nl : ∀ k, k < n → nlD 0 (f k) = true) (M : Store) :
    callD tupcF (consA (cutE (compD (set1 i) (cD (.bl true)) de [i] di)) nilA) e M = ok (rowD n f) M := by
  have hc := comp_v (M := M) (set := set1 i) (vs := [i]) (de := de) (g := g) (f := f) (e := e) (List.range n) (hdi M) (by rw [List.length_range]; omega) (fun k hk => ⟨e.set i (some (g k)), by
    show some ((e.set i none).set i (some (g k))) = _
    rw [List.set_set], hde k (List.mem_range.mp hk)⟩) (fun k hk => nl k (List.mem_range.mp hk))
  show bindE (bindE (cutE _ e M) fun d M1 => bindE (ok [] M1) fun ds M2 => ok (d :: ds) M2) tupcF = _
  rw [hc]
  exact tup_row (by omega)
theorem addG_tup {xs ys : List D} (h : xs.length + ys.length ≤ 100000) : addGF (.tup xs) (.tup ys) M = ok (.tup (xs ++ ys)) M := by
  cases xs with
  | nil =>
    show (if ys.length ≤ 100000 then ok (D.tup ys) M else none) = _
    rw [if_pos (by simpa using h)]
    rfl
  | cons x r =>
    show (if (x :: r).length + ys.length ≤ sizeLine ∧ x :: r ≠ [] then ok (D.tup (x :: r ++ ys)) M else none) = _
    rw [if_pos ⟨sz_ok h, by simp⟩]
theorem addG_int {i j : Int} : addGF (.int i) (.int j) M = ok (.int (i + j)) M := rfl
theorem eqG_int {i j : Int} : eqGF (.int i) (.int j) M = ok (.bl (decide (i = j))) M := eq_int
theorem neG_str {x y : Str} : neGF (.str x) (.str y) M = ok (.bl (!decide (x = y))) M := ne_str
theorem eqG_str {x y : Str} : eqGF (.str x) (.str y) M = ok (.bl (decide (x = y))) M := eq_str
end
section
variable {n : Nat} {den : DenS} {args : List D} {e0 e' : DL.Env} {v : D} {M M1 X : Store}
theorem fv_nx2 (X : Store) (he : args.map some ++ List.replicate (n - args.length) none = e0) (h : den e0 M = some (.nx e', M1 ++ X)) (hl : M1.length = M.length) (hc : ∀ (j : Nat) (ob : Ob), j < M.length → M1[j]? = some ob → M[j]? = some ob ∨ nlOb M.length ob = true) : cutF (ofBody n den) args M = ok .non M1 :=
  cut_val2 (by unfold ofBody; rw [he, h] <;> rfl) hl hc (cutD_pd rfl)
end
end DL
namespace DL
open PySem L2
def Flw.out : Flw → Bool
  | .rt _ => true
  | .ex _ _ _ => true
  | _ => false
section
variable {g : DenG} {body b : DenS} {chk : Store → Prop} {di : DenI} {e : DL.Env} {M : Store} {P : Flw → Store → Prop}
theorem forL_X (Inv : Nat → DL.Env → Store → Prop) : ∀ (ds : List D) (i : Nat) (e : DL.Env) (M : Store), (∀ (j : Nat) (d : D) (e : DL.Env) (M : Store), ds[j]? = some d → Inv (i + j) e M → chk M ∧ ∃ e1 M1, g d e M = some (.nx e1, M1) ∧ Wp (body e1 M1) fun f M2 => (∃ e2, (f = .nx e2 ∨ f = .ct e2) ∧ Inv (i + j + 1) e2 M2) ∨ (f.out = true ∧ P f M2)) →
    (∀ e M, Inv (i + ds.length) e M → chk M) → Inv i e M → Wp (forIL g chk body ds e M) fun f M2 => (∃ e2, f = .nx e2 ∧ Inv (i + ds.length) e2 M2) ∨ (f.out = true ∧ P f M2)
  | [], i, e, M, _, hc, h => ⟨.nx e, M, by unfold forIL; rw [if_pos (hc e M h)], .inl ⟨e, rfl, h⟩⟩
  | d :: ds, i, e, M, hs, hc, h => by
    obtain ⟨c, e1, M1, h1, f, M2, h2, h3⟩ := hs 0 d e M rfl h
    rcases h3 with ⟨e2, h3, h4⟩ | ⟨ho, h4⟩
    · obtain ⟨f', M', k1, k2⟩ := forL_X Inv ds (i + 1) e2 M2 (fun j d' e M q w => by
        have := hs (j + 1) d' e M q (by rwa [show i + (j + 1) = i + 1 + j by omega])
        rwa [show i + (j + 1) + 1 = i + 1 + j + 1 by omega] at this) (fun e M w => hc e M (by rwa [List.length_cons, show i + (ds.length + 1) = i + 1 + ds.length by omega])) h4
      refine ⟨f', M', ?_, by rwa [List.length_cons, show i + (ds.length + 1) = i + 1 + ds.length by omega]⟩
      unfold forIL
      rw [if_pos c, h1]
      dsimp only
      rcases h3 with rfl | rfl
      · rw [h2]
        exact k1
      · rw [h2]
        exact k1
    · refine ⟨f, M2, ?_, .inr ⟨ho, h4⟩⟩
      unfold forIL
      rw [if_pos c, h1]
      dsimp only
      rw [h2]
      cases f with
      | rt v => rfl
      | ex c fs e' => rfl
      | nx _ => cases ho
      | ct _ => cases ho
      | bk _ => cases ho
theorem wp_forX (ds : List D) (Inv : Nat → DL.Env → Store → Prop) (hdi : di e M = ok (ds, chk) M)
    (hs : ∀ (j : Nat) (d : D) (e : DL.Env) (M : Store), ds[j]? = some d → Inv j e M → chk M ∧ ∃ e1 M1, g d e M = some (.nx e1, M1) ∧ Wp (body e1 M1) fun f M2 => (∃ e2, (f = .nx e2 ∨ f = .ct e2) ∧ Inv (j + 1) e2 M2) ∨ (f.out = true ∧ P f M2))
    (hc : ∀ e M, Inv ds.length e M → chk M) (h : Inv 0 e M) (k : ∀ e' M', Inv ds.length e' M' → P (.nx e') M') : Wp (forI g di body e M) P := by
  obtain ⟨f, M', h1, h2⟩ := forL_X (P := P) (g := g) (body := body) (chk := chk) Inv ds 0 e M (fun j d e M q w => by
    rw [Nat.zero_add] at w ⊢
    exact hs j d e M q w) (fun e M w => hc e M (by rwa [Nat.zero_add] at w)) h
  refine ⟨f, M', ?_, ?_⟩
  · unfold forI
    rw [hdi, thenS_v]
    exact h1
  · rcases h2 with ⟨e2, rfl, h2⟩ | ⟨_, h2⟩
    · exact k e2 M' (by rwa [Nat.zero_add] at h2)
    · exact h2
/-- the place of the first thing that isn't so -/
theorem enum_rows {n : Nat} {da : DenE} {e : DL.Env} {f : Nat → D} {M : Store} (ha : da e M = ok (rowD n f) M) : enumD (consA da nilA) e M = ok ((List.range n).map fun (i : Nat) => .tup [.int (i : Int), f i], fun _ => True) M := by
  have h1 : enumD (consA da nilA) e M = ok (enumI 0 ((List.range n).map f), fun _ => True) M := by
    unfold enumD
    simp only [consA, nilA, ha, bindE_v]
    rfl
  rw [h1]
  refine congrArg (fun l => ok (l, fun _ => True) M) ?_
  apply List.ext_getElem?
  intro i
  rw [enum_get]
  by_cases hi : i < n
  · rw [get_mapR hi, get_mapR hi, Nat.zero_add]
    rfl
  · rw [List.getElem?_eq_none (by simp; omega), List.getElem?_eq_none (by simp; omega)]
    rfl
end
end DL
namespace L2
open PySem PySem.Spec
open PyProof.Rows
theorem tuple_mulOne (l : Addr) (items : Array Value) (n : Nat) (dd : Option Addr) (sl : Array (Option Value)) (u : Tok) :
    Meets (Builtin.«tuple.__mul__» ⟨[.ref l, .int 1 u], []⟩) (fun _ R s => s.heap.get? l = some { cls := .type "tuple", dict := dd, data := .seq items n, slots := sl } ∧ R (.ok (.ret (Value.ref l))) s) :=
  .of_wp fun prog w A R s hh => by
    rcases s with ⟨hp, g, d, tk, os⟩
    obtain ⟨hld, hh⟩ := hh
    have f1 := AutoSeq1.idx_int
    have e1 : (items.isEmpty || (1 : Int) == 1) = true := by simp
    wp_walk using wpAny_loadPart' hld
    repeat (first
      | (refine wpAny_ite_true (decide_eq_true e1) ?_; wp_walk using wpAny_loadPart' hld)
      | (refine wpAny_ite_true (decide_eq_true (by rfl)) ?_; wp_walk using wpAny_loadPart' hld)
      | (refine wpAny_ite_false (decide_eq_false (by decide)) ?_; wp_walk using wpAny_loadPart' hld))
    all_goals exact ⟨_, rfl, hh⟩
theorem tuple_mulNone (l : Addr) (items : Array Value) (n : Nat) (dd : Option Addr) (sl : Array (Option Value)) (u : Tok) (h0 : items.isEmpty = false) :
    Meets (Builtin.«tuple.__mul__» ⟨[.ref l, .int 0 u], []⟩) (fun _ R s => s.heap.get? l = some { cls := .type "tuple", dict := dd, data := .seq items n, slots := sl } ∧
      R (.ok (.ret (Value.ref s.heap.objs.size))) { s with heap := s.heap.push { cls := Value.type "tuple", data := Data.seq #[] }, toks := s.toks }) :=
  .of_wp fun prog w A R s hh => by
    rcases s with ⟨hp, g, d, tk, os⟩
    obtain ⟨hld, hh⟩ := hh
    have f1 := AutoSeq1.idx_int
    have e1 : (items.isEmpty || (0 : Int) == 1) = false := by rw [h0]; rfl
    have c2 : (decide ((0 : Int) ≤ 0) || items.isEmpty) = true := rfl
    wp_walk using wpAny_loadPart' hld
    repeat (first
      | (refine wpAny_ite_false (decide_eq_false (by rw [e1]; exact Bool.false_ne_true)) ?_; wp_walk using wpAny_loadPart' hld)
      | (refine wpAny_ite_true (decide_eq_true c2) ?_; wp_walk using wpAny_loadPart' hld)
      | (refine wpAny_ite_false (decide_eq_false (by decide)) ?_; wp_walk using wpAny_loadPart' hld))
    all_goals exact ⟨_, rfl, hh⟩
def rRep1 (K : PySem.W.Frag) : R2 := fun x y H Q => ∃ l k xs, x = .ref l ∧ y = .int k ∧ SqT K H l xs ∧ xs ≠ [] ∧ ((k = 1 ∧ Q (.ref l) H) ∨ (k = 0 ∧ ∀ p, H p = none → Q (.ref p) (upd H p (.tup []))))
section
variable {X : Cx}
theorem op_rep1 : OpR X (binaryOp .Mult) (rRep1 X.K) := by
  (intro pins s σ H x y v u Q I rx ry h)
  obtain ⟨l, k, xs, rfl, rfl, hT, hne, q⟩ := h
  cases rx
  obtain ⟨t, rfl⟩ := ry
  (obtain ⟨its, r, ⟨⟨cls, dd, data, sl⟩, ho, hc, n, hd⟩, hs⟩ := I.tuple hT)
  simp only at hc hd
  subst hc hd
  have hle : its.length = xs.length := (r.length.symm)
  have hie : its.toArray.isEmpty = false := by
    cases its with
    | nil =>
      exact absurd (List.eq_nil_of_length_eq_zero hle.symm) hne
    | cons a b => rfl
  rcases q with ⟨rfl, q⟩ | ⟨rfl, q⟩
  · refine wpAny_binaryOp_repeat_ref (T := "tuple") (U := "int") (by decide) ⟨_, ho, rfl⟩ (fun s' => typeIs_int s' 1 t) noFill_tuple_mul F.fills_int_mul F.slot_int_rmul repeat_tuple F.slot_int_index.lookup
      (call_meets F.slot_int_rmul (typeIs_int s 1 t) F.entry_int_rmul (F.args_int_rmul_2 _ _) (int_rmul_tuple 1 t l its.toArray n dd sl)
        ⟨ho, rfl, ⟨_, ho, rfl⟩, call_meets F.slot_tuple_mul ⟨_, ho, rfl⟩ F.entry_tuple_mul (F.args_tuple_mul_2 _ _) (tuple_mulOne l its.toArray n dd sl t) ⟨ho, ?_⟩⟩)
    exact ⟨.ref l, H, I, rfl, q⟩
  · refine wpAny_binaryOp_repeat_ref (T := "tuple") (U := "int") (by decide) ⟨_, ho, rfl⟩ (fun s' => typeIs_int s' 0 t) noFill_tuple_mul F.fills_int_mul F.slot_int_rmul repeat_tuple F.slot_int_index.lookup
      (call_meets F.slot_int_rmul (typeIs_int s 0 t) F.entry_int_rmul (F.args_int_rmul_2 _ _) (int_rmul_tuple 0 t l its.toArray n dd sl)
        ⟨ho, rfl, ⟨_, ho, rfl⟩, call_meets F.slot_tuple_mul ⟨_, ho, rfl⟩ F.entry_tuple_mul (F.args_tuple_mul_2 _ _) (tuple_mulNone l its.toArray n dd sl t hie) ⟨ho, ?_⟩⟩)
    exact ⟨.ref s.heap.objs.size, _, I.laid (t' := s.toks) (o := .tup []) (fun b ob q => Heap.get?_push_of_some _ q) (Nat.le_refl _) ⟨by decide, [], .nil, IsTup.new _ _⟩, rfl, q _ (I.hok.fresh (Nat.le_refl _))⟩
end
end L2
namespace DL
open PySem L2
section
variable {F : Fx} {X : Cx} {W : WX} {L L1 : List Addr} {H H1 : Hp} {M : Store} {e : DL.Env} {σ : L2.St} {T : Ends} {k : Nat}
/-- a tuple times a number, one and nought, too -/
def mulTGF : D → D → Store → RE
  | .tup ds, .int k, M => if ds ≠ [] ∧ k = 1 then ok (.tup ds) M else if ds ≠ [] ∧ k = 0 then ok (.tup []) M else mulTF (.tup ds) (.int k) M
  | x, y, M => mulTF x y M
theorem mulTG_ok : OpOk F (fun x y H Q => (rMulD x y H Q ∨ rRepT F.K x y H Q) ∨ rRep1 F.K x y H Q) mulTGF := fun d1 d2 M L H e σ W v1 v2 Q sr r1 r2 p => by
  unfold mulTGF at p
  split at p
  · rename_i ds k
    split at p
    · rename_i hc
      obtain ⟨a, vs, rfl, q1, q2⟩ := r1
      have e2 : v2 = .int k := r2
      have hl := reps_len q2
      refine .inr ⟨a, k, vs, rfl, e2, (.inl (.inl q1)), fun z => hc.1 ?_, .inl ⟨hc.2, p.ok sr ⟨a, vs, rfl, q1, q2⟩⟩⟩
      rw [z] at hl
      exact List.length_eq_zero_iff.mp hl
    · split at p
      · rename_i hc
        obtain ⟨a, vs, rfl, q1, q2⟩ := r1
        have e2 : v2 = .int k := r2
        have hl := reps_len q2
        refine .inr ⟨a, k, vs, rfl, e2, (.inl (.inl q1)), fun z => hc.1 ?_, .inr ⟨hc.2, fun q hq => post_tup p sr (show Reps F L H [] [] from rfl) hq⟩⟩
        rw [z] at hl
        exact List.length_eq_zero_iff.mp hl
      · exact .inl (mulT_ok _ _ M L H e σ W v1 v2 Q sr r1 r2 p)
  · exact .inl (mulT_ok d1 d2 M L H e σ W v1 v2 Q sr r1 r2 p)
theorem opr_mulTG : OpR X (binaryOp .Mult) (fun x y H Q => (rMulD x y H Q ∨ rRepT X.K x y H Q) ∨ rRep1 X.K x y H Q) := orR opr_mulT op_rep1
/-- so many times one thing -/
theorem mulTG_rep {x : D} {n : Nat} (h : n ≤ 1000) : mulTGF (.tup [x]) (.int (n : Int)) M = ok (.tup (List.replicate n x)) M := by
  unfold mulTGF
  dsimp only
  by_cases h1 : n = 1
  · subst h1
    rw [if_pos ⟨by simp, rfl⟩]
    rfl
  · rw [if_neg (by omega)]
    by_cases h0 : n = 0
    · subst h0
      rw [if_pos ⟨by simp, rfl⟩]
      rfl
    · rw [if_neg (by omega)]
      unfold mulTF
      dsimp only
      rw [if_pos ⟨by omega, by omega, by simp, by simp⟩, Int.toNat_natCast]
      have : ∀ n : Nat, (List.replicate n [x]).flatten = List.replicate n x := fun n => by
        induction n with
        | zero => rfl
        | succ n ih =>
          rw [List.replicate_succ, List.flatten_cons, ih]
          rfl
      rw [this]
end
end DL
namespace DL
open PySem L2
mutual
/-- data with longer leaves -/
def okW : D → Bool
  | .non => true
  | .bl _ => true
  | .int i => decide (i.natAbs.log2 < 1500)
  | .str x => ((PyData.str x).showable && (PyData.str x).leavesShort 1600 && decide (x.cps.size ≤ 100)) && (PyData.str x).canLay0
  | .tup ds => okWs ds
  | .lst ds => okWs ds
  | _ => false
def okWs : List D → Bool
  | [] => true
  | d :: ds => okW d && okWs ds
end
mutual
theorem pyw_ok : ∀ d : D, okW d = true → ∃ p, D.py d = some p ∧ p.showable = true ∧ p.hasDict = false ∧ p.depth ≤ dpD d ∧ p.leavesShort 1600 = true ∧ p.bulk = szD' d ∧ p.canLay0 = true ∧ PyData.eqv p p = true
  | .non, _ => ⟨.none, rfl, rfl, rfl, Nat.zero_le _, rfl, rfl, rfl, rfl⟩
  | .bl b, _ => ⟨.bool b, rfl, rfl, rfl, Nat.zero_le _, rfl, rfl, rfl, by simp [PyData.eqv]⟩
  | .int i, h => by
    have h1 : i.natAbs.log2 < 1500 := of_decide_eq_true h
    have h2 : (PySem.Str.ofString (toString i)).length ≤ 1501 := Nat.le_trans (Nat.le_of_eq (PySem.ofString_length _)) (PySem.int_text_length_le (Nat.zero_lt_succ _) h1)
    refine ⟨.int i, rfl, ?_, rfl, Nat.zero_le _, ?_, rfl, rfl, by simp [PyData.eqv]⟩
    · simp [PyData.showable]; omega
    · simp only [PyData.leavesShort, PyData.shown, decide_eq_true_eq]
      exact decide_eq_true (Nat.le_trans h2 (by decide : 1501 ≤ 1600))
  | .str x, h => by
    have h' : (((PyData.str x).showable && (PyData.str x).leavesShort 1600 && decide (x.cps.size ≤ 100)) && (PyData.str x).canLay0) = true := h
    rw [Bool.and_eq_true, Bool.and_eq_true, Bool.and_eq_true] at h'
    exact ⟨.str x, rfl, h'.1.1.1, rfl, Nat.zero_le _, h'.1.1.2, rfl, h'.2, by simp [PyData.eqv]⟩
  | .tup ds, h => by
    obtain ⟨ps, h1, h2, h3, h4, h5, h6, h7, h8⟩ := pysw_ok ds h
    refine ⟨.tuple ps, by show (D.pys ds).map PyData.tuple = _; rw [h1]; rfl, ?_, ?_, ?_, ?_, ?_, ?_, ?_⟩
    · simp only [PyData.showable]; exact h2
    · simp only [PyData.hasDict]; exact h3
    · simp only [PyData.depth]; show _ ≤ dpDs ds + 1; omega
    · simp only [PyData.leavesShort]; exact h5
    · simp only [PyData.bulk]; exact h6
    · simp only [PyData.canLay0]; exact h7
    · simp only [PyData.eqv]; exact h8
  | .lst ds, h => by
    obtain ⟨ps, h1, h2, h3, h4, h5, h6, h7, h8⟩ := pysw_ok ds h
    refine ⟨.list ps, by show (D.pys ds).map PyData.list = _; rw [h1]; rfl, ?_, ?_, ?_, ?_, ?_, ?_, ?_⟩
    · simp only [PyData.showable]; exact h2
    · simp only [PyData.hasDict]; exact h3
    · simp only [PyData.depth]; show _ ≤ dpDs ds + 1; omega
    · simp only [PyData.leavesShort]; exact h5
    · simp only [PyData.bulk]; exact h6
    · simp only [PyData.canLay0]; exact h7
    · simp only [PyData.eqv]; exact h8
  | .scr _, h => nomatch (show false = true from h)
  | .emp, h => nomatch (show false = true from h)
  | .loc _, h => nomatch (show false = true from h)
  | .exc _ _, h => nomatch (show false = true from h)
  | .ty _, h => nomatch (show false = true from h)
  | .cls _, h => nomatch (show false = true from h)
  | .clo _ _ _ _ _ _, h => nomatch (show false = true from h)
  | .ktp _, h => nomatch (show false = true from h)
theorem pysw_ok : ∀ ds : List D, okWs ds = true → ∃ ps, D.pys ds = some ps ∧ PyData.showableAll ps = true ∧ PyData.hasDictAll ps = false ∧ PyData.depthAll ps ≤ dpDs ds ∧ PyData.leavesShortAll 1600 ps = true ∧ PyData.bulkAll ps = szDs ds ∧ PyData.canLayAll0 ps = true ∧ PyData.eqvAll ps ps = true
  | [], _ => ⟨[], rfl, rfl, rfl, Nat.zero_le _, rfl, rfl, rfl, by simp [PyData.eqvAll]⟩
  | d :: ds, h => by
    have h' : (okW d && okWs ds) = true := h
    rw [Bool.and_eq_true] at h'
    obtain ⟨p, a1, a2, a3, a4, a5, a6, a7, a8⟩ := pyw_ok d h'.1
    obtain ⟨ps, h1, h2, h3, h4, h5, h6, h7, h8⟩ := pysw_ok ds h'.2
    refine ⟨p :: ps, by show (match D.py d, D.pys ds with | some p, some ps => some (p :: ps) | _, _ => none) = _; rw [a1, h1], ?_, ?_, ?_, ?_, ?_, ?_, ?_⟩
    · simp only [PyData.showableAll, a2, h2, Bool.and_self]
    · simp only [PyData.hasDictAll, a3, h3, Bool.or_self]
    · simp only [PyData.depthAll]; show _ ≤ max (dpD d) (dpDs ds); omega
    · simp only [PyData.leavesShortAll, a5, h5, Bool.and_self]
    · simp only [PyData.bulkAll, a6, h6]; rfl
    · simp only [PyData.canLayAll0, a7, h7, Bool.and_self]
    · simp only [PyData.eqvAll, a8, h8, Bool.and_self]
end
section
variable {d : D} {ds : List D} {M : Store}
theorem shpw (h : okW d = true) (hd : dpD d ≤ 60) : ∃ p, D.py d = some p ∧ SeqAt.shaped p = true ∧ PyData.eqv p p = true := by
  obtain ⟨p, h1, h2, h3, h4, h5, h6, h7, h8⟩ := pyw_ok d h
  refine ⟨p, h1, ?_, h8⟩
  unfold SeqAt.shaped
  rw [h7, Bool.true_and]
  exact (decide_eq_true (by omega))
/-- a thing is itself -/
theorem eqv_selfw {n : Bool} (h : okW (.tup ds) = true) (hd : dpD (.tup ds) ≤ 60) : eqvF n (.tup ds) (.tup ds) M = ok (.bl (n != true)) M := by
  obtain ⟨p, h1, h2, h3⟩ := shpw h hd
  show (match D.py (.tup ds), D.py (.tup ds) with | some p, some q => if SeqAt.shaped p = true ∧ SeqAt.shaped q = true then ok (D.bl (n != PyData.eqv p q)) M else none | _, _ => none) = _
  rw [h1]
  show (if SeqAt.shaped p = true ∧ SeqAt.shaped p = true then ok (D.bl (n != PyData.eqv p p)) M else none) = _
  rw [if_pos ⟨h2, h2⟩, h3]
end
section
variable {n : Nat} {f : Nat → D}
theorem okWs_map {α : Type} {f : α → D} : ∀ (l : List α), (∀ i ∈ l, okW (f i) = true) → okWs (l.map f) = true
  | [], _ => rfl
  | i :: l, h => by
    show (okW (f i) && okWs (l.map f)) = true
    rw [h i List.mem_cons_self, okWs_map l fun j hj => h j (List.mem_cons_of_mem _ hj)]
    rfl
theorem okW_row (h : ∀ i, i < n → okW (f i) = true) : okW (rowD n f) = true := okWs_map _ fun i hi => h i (List.mem_range.mp hi)
theorem szs_map {α : Type} {f : α → D} {k : Nat} : ∀ (l : List α), (∀ i ∈ l, szD' (f i) ≤ k) → szDs (l.map f) ≤ l.length * (k + 1)
  | [], _ => Nat.zero_le _
  | i :: l, h => by
    have := szs_map l fun j hj => h j (List.mem_cons_of_mem _ hj)
    have := h i List.mem_cons_self
    show szD' (f i) + 1 + szDs (l.map f) ≤ (l.length + 1) * (k + 1)
    rw [Nat.succ_mul]
    omega
theorem sz_rowN {k : Nat} (h : ∀ i, i < n → szD' (f i) ≤ k) : szD' (rowD n f) ≤ n * (k + 1) := by
  have := szs_map (f := f) (k := k) (List.range n) fun i hi => h i (List.mem_range.mp hi)
  rw [List.length_range] at this
  exact this
theorem dps_map {α : Type} {f : α → D} {k : Nat} : ∀ (l : List α), (∀ i ∈ l, dpD (f i) ≤ k) → dpDs (l.map f) ≤ k
  | [], _ => Nat.zero_le _
  | i :: l, h => by
    have := dps_map l fun j hj => h j (List.mem_cons_of_mem _ hj)
    have := h i List.mem_cons_self
    show max (dpD (f i)) (dpDs (l.map f)) ≤ k
    omega
theorem dp_rowN {k : Nat} (h : ∀ i, i < n → dpD (f i) ≤ k) : dpD (rowD n f) ≤ k + 1 := Nat.succ_le_succ (dps_map _ fun i hi => h i (List.mem_range.mp hi))
theorem okW_int {i : Int} {k : Nat} (h : Bd k i) (hk : k < 1500) : okW (.int i) = true := decide_eq_true (Nat.lt_of_le_of_lt h.lg hk)
end
mutual
theorem pye_of : ∀ (d : D) (p : PyData), D.py d = some p → D.pye d = some p
  | .non, _, h => h
  | .bl _, _, h => h
  | .int _, _, h => h
  | .str _, _, h => h
  | .tup ds, p, h => by
    have h' : (D.pys ds).map PyData.tuple = some p := h
    obtain ⟨ps, h1, h2⟩ := Option.map_eq_some_iff.mp h'
    show (D.pyes ds).map PyData.tuple = some p
    rw [pyes_of ds ps h1, ← h2]
    rfl
  | .lst ds, p, h => by
    have h' : (D.pys ds).map PyData.list = some p := h
    obtain ⟨ps, h1, h2⟩ := Option.map_eq_some_iff.mp h'
    show (D.pyes ds).map PyData.list = some p
    rw [pyes_of ds ps h1, ← h2]
    rfl
  | .scr _, _, h => nomatch (show none = some _ from h)
  | .emp, _, h => nomatch (show none = some _ from h)
  | .loc _, _, h => nomatch (show none = some _ from h)
  | .exc _ _, _, h => nomatch (show none = some _ from h)
  | .ty _, _, h => nomatch (show none = some _ from h)
  | .cls _, _, h => nomatch (show none = some _ from h)
  | .clo _ _ _ _ _ _, _, h => nomatch (show none = some _ from h)
  | .ktp _, _, h => nomatch (show none = some _ from h)
theorem pyes_of : ∀ (ds : List D) (ps : List PyData), D.pys ds = some ps → D.pyes ds = some ps
  | [], _, h => h
  | d :: ds, ps, h => by
    have h' : (match D.py d, D.pys ds with
      | some p, some ps => some (p :: ps)
      | _, _ => none) = some ps := h
    cases q1 : D.py d with
    | none => rw [q1] at h'; cases h'
    | some p =>
      cases q2 : D.pys ds with
      | none => rw [q1, q2] at h'; cases h'
      | some qs =>
        rw [q1, q2] at h'
        show (match D.pye d, D.pyes ds with
          | some p, some ps => some (p :: ps)
          | _, _ => none) = some ps
        rw [pye_of d p q1, pyes_of ds qs q2]
        exact h'
end
theorem reprG_w {d : D} {M : Store} (h : okW d = true) (hz : szD' d ≤ 6000) (hd : dpD d ≤ 60) : reprGF [d] M = ok (.str (rpr d)) M := by
  obtain ⟨p, h1, h2, h3, h4, h5, h6, _, _⟩ := pyw_ok d h
  have q := PyData.shown_le_bulk 1600 (by decide) p h5
  have q3 : 10200000 ≤ sizeLine := by decide
  unfold reprGF rpr
  simp only [pye_of d p h1, h1]
  exact if_pos ⟨h2, by omega, by omega⟩
end DL
namespace K62
open PySem L2 DL
def topS (i : Nat) : Stmt := PySem.Challenge.pw_hollowrise_k62_minors_of_rows.main.body.getD i (.Pass ⟨0, 0, 0, 0⟩)
abbrev s__law_cell : Stmt := topS 20
theorem sc__law_cell : FnScope ["cells", "spot", "k", "base", "own", "turn"] ["cells", "spot"] (defScope s__law_cell) := ⟨rfl, rfl, rfl, by decide +kernel, rfl, by decide +kernel, by decide +kernel⟩
abbrev s__law_low : Stmt := topS 21
theorem sc__law_low : FnScope ["above", "below", "one", "other", "part"] ["above", "below"] (defScope s__law_low) := ⟨rfl, rfl, rfl, by decide +kernel, rfl, by decide +kernel, by decide +kernel⟩
abbrev s__law_entries : Stmt := topS 26
theorem sc__law_entries : FnScope ["cells", "spot", "size", "sort", "found", "i", "row", "j", "n", "some", "far"] ["cells", "spot", "size", "sort"] (defScope s__law_entries) := ⟨rfl, rfl, rfl, by decide +kernel, rfl, by decide +kernel, by decide +kernel⟩
abbrev s_is_tuple_of : Stmt := topS 8
theorem sc_is_tuple_of : FnScope ["thing", "many"] ["thing", "many"] (defScope s_is_tuple_of) := ⟨rfl, rfl, rfl, by decide +kernel, rfl, by decide +kernel, by decide +kernel⟩
abbrev s__is_row : Stmt := topS 15
theorem sc__is_row : FnScope ["thing", "many", "one", "above", "below"] ["thing", "many"] (defScope s__is_row) := ⟨rfl, rfl, rfl, by decide +kernel, rfl, by decide +kernel, by decide +kernel⟩
abbrev s_need_rows : Stmt := topS 14
theorem sc_need_rows : FnScope ["thing", "least", "most", "row"] ["thing", "least", "most"] (defScope s_need_rows) := ⟨rfl, rfl, rfl, by decide +kernel, rfl, by decide +kernel, by decide +kernel⟩
abbrev s_fraction : Stmt := topS 10
theorem sc_fraction : FnScope ["above", "below", "shared"] ["above", "below"] (defScope s_fraction) := ⟨rfl, rfl, rfl, by decide +kernel, rfl, by decide +kernel, by decide +kernel⟩
abbrev s__clear : Stmt := topS 18
theorem sc__clear : FnScope ["line", "first", "number", "ahead", "top", "own", "size", "place"] ["line", "first", "number", "ahead"] (defScope s__clear) := ⟨rfl, rfl, rfl, by decide +kernel, rfl, by decide +kernel, by decide +kernel⟩
abbrev s__whole_minor : Stmt := topS 17
theorem sc__whole_minor : FnScope ["lines", "sign", "ahead", "size", "number", "found", "first", "line"] ["lines"] (defScope s__whole_minor) := ⟨rfl, rfl, rfl, by decide +kernel, rfl, by decide +kernel, by decide +kernel⟩
abbrev s__minor_of : Stmt := topS 16
theorem sc__minor_of : FnScope ["rows", "wholes", "divisor", "row", "shared", "_", "below", "above"] ["rows"] (defScope s__minor_of) := ⟨rfl, rfl, rfl, by decide +kernel, rfl, by decide +kernel, by decide +kernel⟩
abbrev s_minor : Stmt := topS 13
theorem sc_minor : FnScope ["rows"] ["rows"] (defScope s_minor) := ⟨rfl, rfl, rfl, by decide +kernel, rfl, by decide +kernel, by decide +kernel⟩
abbrev s__law_orders : Stmt := topS 24
theorem sc__law_orders : FnScope ["size", "found", "k", "more", "order", "sign", "nth"] ["size"] (defScope s__law_orders) := ⟨rfl, rfl, rfl, by decide +kernel, rfl, by decide +kernel, by decide +kernel⟩
abbrev s__law_plus : Stmt := topS 22
theorem sc__law_plus : FnScope ["one", "other"] ["one", "other"] (defScope s__law_plus) := ⟨rfl, rfl, rfl, by decide +kernel, rfl, by decide +kernel, by decide +kernel⟩
abbrev s__law_times : Stmt := topS 23
theorem sc__law_times : FnScope ["one", "other"] ["one", "other"] (defScope s__law_times) := ⟨rfl, rfl, rfl, by decide +kernel, rfl, by decide +kernel, by decide +kernel⟩
abbrev s__law_minor : Stmt := topS 25
theorem sc__law_minor : FnScope ["grid", "found", "order", "sign", "part", "row", "nth"] ["grid"] (defScope s__law_minor) := ⟨rfl, rfl, rfl, by decide +kernel, rfl, by decide +kernel, by decide +kernel⟩
abbrev s__law_great_right : Stmt := topS 30
theorem sc__law_great_right : FnScope ["cells", "spot", "n", "size", "line", "sign", "grid", "k", "row", "nth", "to", "first", "last"] ["cells", "spot"] (defScope s__law_great_right) := ⟨rfl, rfl, rfl, by decide +kernel, rfl, by decide +kernel, by decide +kernel⟩
abbrev s__law_turned : Stmt := topS 28
theorem sc__law_turned : FnScope ["grid", "found", "nth", "row"] ["grid"] (defScope s__law_turned) := ⟨rfl, rfl, rfl, by decide +kernel, rfl, by decide +kernel, by decide +kernel⟩
abbrev s__law_is_refused : Stmt := topS 27
theorem sc__law_is_refused : FnScope ["thing", "error", "caught"] ["thing"] (defScope s__law_is_refused) := ⟨rfl, rfl, rfl, by decide +kernel, rfl, by decide +kernel, by decide +kernel⟩
abbrev s__law_bent : Stmt := topS 29
theorem sc__law_bent : FnScope ["grid", "n", "size", "odd", "nth", "spot", "bad", "row", "menu"] ["grid", "n"] (defScope s__law_bent) := ⟨rfl, rfl, rfl, by decide +kernel, rfl, by decide +kernel, by decide +kernel⟩
abbrev s_law : Stmt := topS 31
theorem sc_law : FnScope ["script", "spot", "k", "n", "grid", "due", "kept"] ["script"] (defScope s_law) := ⟨rfl, rfl, rfl, by decide +kernel, rfl, by decide +kernel, by decide +kernel⟩
/-- where things stand -/
structure Tx where
  K : PySem.W.Frag
  mg : Str → Option Value
  a__law_cell : Addr
  fd__law_cell : FuncData
  a__law_low : Addr
  fd__law_low : FuncData
  a__law_entries : Addr
  fd__law_entries : FuncData
  a_is_tuple_of : Addr
  fd_is_tuple_of : FuncData
  a__is_row : Addr
  fd__is_row : FuncData
  a_need_rows : Addr
  fd_need_rows : FuncData
  a_fraction : Addr
  fd_fraction : FuncData
  a__clear : Addr
  fd__clear : FuncData
  a__whole_minor : Addr
  fd__whole_minor : FuncData
  a__minor_of : Addr
  fd__minor_of : FuncData
  a_minor : Addr
  fd_minor : FuncData
  a__law_orders : Addr
  fd__law_orders : FuncData
  a__law_plus : Addr
  fd__law_plus : FuncData
  a__law_times : Addr
  fd__law_times : FuncData
  a__law_minor : Addr
  fd__law_minor : FuncData
  a__law_great_right : Addr
  fd__law_great_right : FuncData
  a__law_turned : Addr
  fd__law_turned : FuncData
  a__law_is_refused : Addr
  fd__law_is_refused : FuncData
  a__law_bent : Addr
  fd__law_bent : FuncData
  a_law : Addr
  fd_law : FuncData
  C_HollowError : Addr
  C_BadField : Addr
  C_BadFraction : Addr
  C_BadTable : Addr
  C_BadRows : Addr
  I_BadField : Addr
  I_BadTable : Addr
def Tx.cl (t : Tx) : String → Option Addr
  | "HollowError" => some t.C_HollowError
  | "BadField" => some t.C_BadField
  | "BadFraction" => some t.C_BadFraction
  | "BadTable" => some t.C_BadTable
  | "BadRows" => some t.C_BadRows
  | _ => none
def Tx.fx (t : Tx) : Fx := ⟨t.K, t.cl, []⟩
structure TxOk (P : Program) (t : Tx) : Prop where
  g__law_cell : t.mg "_law_cell" = some (.ref t.a__law_cell)
  F__law_cell : Fun t.K "_law_cell" "_law_cell" s__law_cell t.a__law_cell t.fd__law_cell
  b__law_cell : Binds t.K t.fd__law_cell ["cells", "spot"] []
  g__law_low : t.mg "_law_low" = some (.ref t.a__law_low)
  F__law_low : Fun t.K "_law_low" "_law_low" s__law_low t.a__law_low t.fd__law_low
  b__law_low : Binds t.K t.fd__law_low ["above", "below"] []
  g__law_entries : t.mg "_law_entries" = some (.ref t.a__law_entries)
  F__law_entries : Fun t.K "_law_entries" "_law_entries" s__law_entries t.a__law_entries t.fd__law_entries
  b__law_entries : Binds t.K t.fd__law_entries ["cells", "spot", "size", "sort"] []
  g_is_tuple_of : t.mg "is_tuple_of" = some (.ref t.a_is_tuple_of)
  F_is_tuple_of : Fun t.K "is_tuple_of" "is_tuple_of" s_is_tuple_of t.a_is_tuple_of t.fd_is_tuple_of
  b_is_tuple_of : Binds t.K t.fd_is_tuple_of ["thing", "many"] []
  g__is_row : t.mg "_is_row" = some (.ref t.a__is_row)
  F__is_row : Fun t.K "_is_row" "_is_row" s__is_row t.a__is_row t.fd__is_row
  b__is_row : Binds t.K t.fd__is_row ["thing", "many"] []
  g_need_rows : t.mg "need_rows" = some (.ref t.a_need_rows)
  F_need_rows : Fun t.K "need_rows" "need_rows" s_need_rows t.a_need_rows t.fd_need_rows
  b_need_rows : Binds t.K t.fd_need_rows ["thing", "least", "most"] []
  g_fraction : t.mg "fraction" = some (.ref t.a_fraction)
  F_fraction : Fun t.K "fraction" "fraction" s_fraction t.a_fraction t.fd_fraction
  b_fraction : Binds t.K t.fd_fraction ["above", "below"] []
  g__clear : t.mg "_clear" = some (.ref t.a__clear)
  F__clear : Fun t.K "_clear" "_clear" s__clear t.a__clear t.fd__clear
  b__clear : Binds t.K t.fd__clear ["line", "first", "number", "ahead"] []
  g__whole_minor : t.mg "_whole_minor" = some (.ref t.a__whole_minor)
  F__whole_minor : Fun t.K "_whole_minor" "_whole_minor" s__whole_minor t.a__whole_minor t.fd__whole_minor
  b__whole_minor : Binds t.K t.fd__whole_minor ["lines"] []
  g__minor_of : t.mg "_minor_of" = some (.ref t.a__minor_of)
  F__minor_of : Fun t.K "_minor_of" "_minor_of" s__minor_of t.a__minor_of t.fd__minor_of
  b__minor_of : Binds t.K t.fd__minor_of ["rows"] []
  g_minor : t.mg "minor" = some (.ref t.a_minor)
  F_minor : Fun t.K "minor" "minor" s_minor t.a_minor t.fd_minor
  b_minor : Binds t.K t.fd_minor ["rows"] []
  kb_minor_0 : KwB t.K t.fd_minor ["rows"] 0 ["rows"] [0]
  g__law_orders : t.mg "_law_orders" = some (.ref t.a__law_orders)
  F__law_orders : Fun t.K "_law_orders" "_law_orders" s__law_orders t.a__law_orders t.fd__law_orders
  b__law_orders : Binds t.K t.fd__law_orders ["size"] []
  g__law_plus : t.mg "_law_plus" = some (.ref t.a__law_plus)
  F__law_plus : Fun t.K "_law_plus" "_law_plus" s__law_plus t.a__law_plus t.fd__law_plus
  b__law_plus : Binds t.K t.fd__law_plus ["one", "other"] []
  g__law_times : t.mg "_law_times" = some (.ref t.a__law_times)
  F__law_times : Fun t.K "_law_times" "_law_times" s__law_times t.a__law_times t.fd__law_times
  b__law_times : Binds t.K t.fd__law_times ["one", "other"] []
  g__law_minor : t.mg "_law_minor" = some (.ref t.a__law_minor)
  F__law_minor : Fun t.K "_law_minor" "_law_minor" s__law_minor t.a__law_minor t.fd__law_minor
  b__law_minor : Binds t.K t.fd__law_minor ["grid"] []
  g__law_great_right : t.mg "_law_great_right" = some (.ref t.a__law_great_right)
  F__law_great_right : Fun t.K "_law_great_right" "_law_great_right" s__law_great_right t.a__law_great_right t.fd__law_great_right
  b__law_great_right : Binds t.K t.fd__law_great_right ["cells", "spot"] []
  g__law_turned : t.mg "_law_turned" = some (.ref t.a__law_turned)
  F__law_turned : Fun t.K "_law_turned" "_law_turned" s__law_turned t.a__law_turned t.fd__law_turned
  b__law_turned : Binds t.K t.fd__law_turned ["grid"] []
  g__law_is_refused : t.mg "_law_is_refused" = some (.ref t.a__law_is_refused)
  F__law_is_refused : Fun t.K "_law_is_refused" "_law_is_refused" s__law_is_refused t.a__law_is_refused t.fd__law_is_refused
  b__law_is_refused : Binds t.K t.fd__law_is_refused ["thing"] []
  g__law_bent : t.mg "_law_bent" = some (.ref t.a__law_bent)
  F__law_bent : Fun t.K "_law_bent" "_law_bent" s__law_bent t.a__law_bent t.fd__law_bent
  b__law_bent : Binds t.K t.fd__law_bent ["grid", "n"] []
  g_law : t.mg "law" = some (.ref t.a_law)
  F_law : Fun t.K "law" "law" s_law t.a_law t.fd_law
  b_law : Binds t.K t.fd_law ["script"] []
  m_abs : t.mg "abs" = none
  m_enumerate : t.mg "enumerate" = none
  m_gcd : t.mg "gcd" = some (.builtin "math.gcd")
  m_int : t.mg "int" = none
  m_isinstance : t.mg "isinstance" = none
  m_len : t.mg "len" = none
  m_list : t.mg "list" = none
  m_min : t.mg "min" = none
  m_range : t.mg "range" = none
  m_repr : t.mg "repr" = none
  m_tuple : t.mg "tuple" = none
  m_type : t.mg "type" = none
  m_zip : t.mg "zip" = none
  g_HollowError : t.mg "HollowError" = some (.ref t.C_HollowError)
  g_BadField : t.mg "BadField" = some (.ref t.C_BadField)
  g_BadFraction : t.mg "BadFraction" = some (.ref t.C_BadFraction)
  g_BadTable : t.mg "BadTable" = some (.ref t.C_BadTable)
  g_BadRows : t.mg "BadRows" = some (.ref t.C_BadRows)
  n_MOST_MINOR : ∃ tk, t.mg "MOST_MINOR" = some (.int (7) tk)
  sup : t.mg "super" = none
  xc_BadRows : PySem.W.excIn t.K t.C_BadRows [.type "ValueError", .type "Exception", .type "BaseException", .type "object"] "ValueError.__new__" = true
  kc_BadRows : PySem.W.keepIn t.K (.ref t.C_BadRows) = true
  bc_BadRows : PySem.W.subIn t.K (.ref t.C_BadRows) (.type "BaseException") = some true
  tc_BadRows : PySem.W.typeIn t.K (.ref t.C_BadRows) = some (.type "type")
  ec_BadRows : L2.ExcC t.K t.C_BadRows
  ki_BadRows_BadRows : PySem.W.kitOne t.K (.ref t.C_BadRows) (.ref t.C_BadRows) = some true
  ki_BadRows_BadField : PySem.W.kitOne t.K (.ref t.C_BadRows) (.ref t.C_BadField) = some false
  ki_BadRows_BadFraction : PySem.W.kitOne t.K (.ref t.C_BadRows) (.ref t.C_BadFraction) = some false
  ki_BadRows_BadTable : PySem.W.kitOne t.K (.ref t.C_BadRows) (.ref t.C_BadTable) = some false
  xc_BadFraction : PySem.W.excIn t.K t.C_BadFraction [.type "ValueError", .type "Exception", .type "BaseException", .type "object"] "ValueError.__new__" = true
  kc_BadFraction : PySem.W.keepIn t.K (.ref t.C_BadFraction) = true
  bc_BadFraction : PySem.W.subIn t.K (.ref t.C_BadFraction) (.type "BaseException") = some true
  tc_BadFraction : PySem.W.typeIn t.K (.ref t.C_BadFraction) = some (.type "type")
  ec_BadFraction : L2.ExcC t.K t.C_BadFraction
  ki_BadFraction_BadRows : PySem.W.kitOne t.K (.ref t.C_BadFraction) (.ref t.C_BadRows) = some false
  ki_BadFraction_BadField : PySem.W.kitOne t.K (.ref t.C_BadFraction) (.ref t.C_BadField) = some false
  ki_BadFraction_BadFraction : PySem.W.kitOne t.K (.ref t.C_BadFraction) (.ref t.C_BadFraction) = some true
  ki_BadFraction_BadTable : PySem.W.kitOne t.K (.ref t.C_BadFraction) (.ref t.C_BadTable) = some false
  ex1_HollowError_BadRows : PySem.W.exmOne t.K (.ref t.C_BadRows) (.ref t.C_HollowError) = some true
  ex1_HollowError_BadFraction : PySem.W.exmOne t.K (.ref t.C_BadFraction) (.ref t.C_HollowError) = some true
theorem TxOk.h_cl_BadField {P : Program} {x : Tx} (_ : TxOk P x) : x.fx.cl "BadField" = some x.C_BadField := rfl
theorem TxOk.h_cl_BadFraction {P : Program} {x : Tx} (_ : TxOk P x) : x.fx.cl "BadFraction" = some x.C_BadFraction := rfl
theorem TxOk.h_cl_BadTable {P : Program} {x : Tx} (_ : TxOk P x) : x.fx.cl "BadTable" = some x.C_BadTable := rfl
theorem TxOk.h_cl_BadRows {P : Program} {x : Tx} (_ : TxOk P x) : x.fx.cl "BadRows" = some x.C_BadRows := rfl
theorem TxOk.cf_BadRows {P : Program} {x : Tx} (t : TxOk P x) (X : Cx) (hK : X.K = x.K := by rfl) (hm : X.mg = x.mg := by rfl) : ClsF X x.C_BadRows "BadRows" := ⟨⟨_, _, _, _, PySem.F.excBase_ValueError, by rw [hK]; exact t.xc_BadRows⟩, by rw [hm]; exact t.g_BadRows, by rw [hK]; exact t.kc_BadRows, raises_own (by rw [hK]; exact t.bc_BadRows) (by rw [hK]; exact t.tc_BadRows)⟩
theorem TxOk.cf_BadFraction {P : Program} {x : Tx} (t : TxOk P x) (X : Cx) (hK : X.K = x.K := by rfl) (hm : X.mg = x.mg := by rfl) : ClsF X x.C_BadFraction "BadFraction" := ⟨⟨_, _, _, _, PySem.F.excBase_ValueError, by rw [hK]; exact t.xc_BadFraction⟩, by rw [hm]; exact t.g_BadFraction, by rw [hK]; exact t.kc_BadFraction, raises_own (by rw [hK]; exact t.bc_BadFraction) (by rw [hK]; exact t.tc_BadFraction)⟩
def subT : String → D → Option Bool
  | "BadRows", .cls "BadRows" => some true
  | "BadRows", .cls "BadField" => some false
  | "BadRows", .cls "BadFraction" => some false
  | "BadRows", .cls "BadTable" => some false
  | "BadFraction", .cls "BadRows" => some false
  | "BadFraction", .cls "BadField" => some false
  | "BadFraction", .cls "BadFraction" => some true
  | "BadFraction", .cls "BadTable" => some false
  | _, _ => none
structure Tb (x : Tx) (base : Heap) : Prop where
def catT_HollowError : String → Bool
  | "BadRows" => true
  | "BadFraction" => true
  | _ => false
def Tx.cv_HollowError (x : Tx) (u : Value) : Bool := decide (PySem.W.exmOne x.K u (.ref x.C_HollowError) = some true)
theorem TxOk.hcat_HollowError {P : Program} {x : Tx} (t : TxOk P x) : ∀ c C, x.fx.cl c = some C → catT_HollowError c = true → x.cv_HollowError (.ref C) = true := by
  intro c C h1 h2
  unfold catT_HollowError at h2
  split at h2
  · obtain rfl := Option.some.inj h1
    exact decide_eq_true t.ex1_HollowError_BadRows
  · obtain rfl := Option.some.inj h1
    exact decide_eq_true t.ex1_HollowError_BadFraction
  · cases h2
theorem TxOk.h_sub {P : Program} {x : Tx} (t : TxOk P x) : ∀ (c : String) (d : D) (b : Bool) (C : Addr) (u : Value), x.fx.cl c = some C → clsU x.fx d = some u → subT c d = some b → L2.ExcC x.fx.K C ∧ PySem.W.kitOne x.fx.K (.ref C) u = some b := by
  intro c d b C u h1 h2 h3
  unfold subT at h3
  split at h3
  · obtain rfl := Option.some.inj h1
    obtain rfl := Option.some.inj h2
    obtain rfl := Option.some.inj h3
    exact ⟨t.ec_BadRows, t.ki_BadRows_BadRows⟩
  · obtain rfl := Option.some.inj h1
    obtain rfl := Option.some.inj h2
    obtain rfl := Option.some.inj h3
    exact ⟨t.ec_BadRows, t.ki_BadRows_BadField⟩
  · obtain rfl := Option.some.inj h1
    obtain rfl := Option.some.inj h2
    obtain rfl := Option.some.inj h3
    exact ⟨t.ec_BadRows, t.ki_BadRows_BadFraction⟩
  · obtain rfl := Option.some.inj h1
    obtain rfl := Option.some.inj h2
    obtain rfl := Option.some.inj h3
    exact ⟨t.ec_BadRows, t.ki_BadRows_BadTable⟩
  · obtain rfl := Option.some.inj h1
    obtain rfl := Option.some.inj h2
    obtain rfl := Option.some.inj h3
    exact ⟨t.ec_BadFraction, t.ki_BadFraction_BadRows⟩
  · obtain rfl := Option.some.inj h1
    obtain rfl := Option.some.inj h2
    obtain rfl := Option.some.inj h3
    exact ⟨t.ec_BadFraction, t.ki_BadFraction_BadField⟩
  · obtain rfl := Option.some.inj h1
    obtain rfl := Option.some.inj h2
    obtain rfl := Option.some.inj h3
    exact ⟨t.ec_BadFraction, t.ki_BadFraction_BadFraction⟩
  · obtain rfl := Option.some.inj h1
    obtain rfl := Option.some.inj h2
    obtain rfl := Option.some.inj h3
    exact ⟨t.ec_BadFraction, t.ki_BadFraction_BadTable⟩
  · cases h3
theorem TxOk.sub_cls {P : Program} {x : Tx} (t : TxOk P x) : ∀ (c : String) (d : D) (b : Bool), subT c d = some b → ∃ u, clsU x.fx d = some u := by
  intro c d b h3
  unfold subT at h3
  split at h3
  · exact ⟨_, rfl⟩
  · exact ⟨_, rfl⟩
  · exact ⟨_, rfl⟩
  · exact ⟨_, rfl⟩
  · exact ⟨_, rfl⟩
  · exact ⟨_, rfl⟩
  · exact ⟨_, rfl⟩
  · exact ⟨_, rfl⟩
  · cases h3
end K62
namespace K62
open PySem L2 DL PyProof.Rows
def fz0 : List (PySem.W.Frag → Bool) := [gloZ "_law_cell", defZ "_law_cell", gloZ "_law_low", defZ "_law_low", gloZ "_law_entries", defZ "_law_entries", gloZ "is_tuple_of", defZ "is_tuple_of", gloZ "_is_row", defZ "_is_row", gloZ "need_rows", defZ "need_rows", gloZ "fraction", defZ "fraction", gloZ "_clear", defZ "_clear", gloZ "_whole_minor", defZ "_whole_minor", gloZ "_minor_of", defZ "_minor_of", gloZ "minor", defZ "minor", gloZ "_law_orders", defZ "_law_orders"]
def fz1 : List (PySem.W.Frag → Bool) := [gloZ "_law_plus", defZ "_law_plus", gloZ "_law_times", defZ "_law_times", gloZ "_law_minor", defZ "_law_minor", gloZ "_law_great_right", defZ "_law_great_right", gloZ "_law_turned", defZ "_law_turned", gloZ "_law_is_refused", defZ "_law_is_refused", gloZ "_law_bent", defZ "_law_bent", gloZ "law", defZ "law", freeZ "abs", freeZ "enumerate", bltZ "gcd" "math.gcd", freeZ "int", freeZ "isinstance", freeZ "len", freeZ "list", freeZ "min"]
def fz2 : List (PySem.W.Frag → Bool) := [freeZ "range", freeZ "repr", freeZ "tuple", freeZ "type", freeZ "zip", gloZ "HollowError", gloZ "BadField", gloZ "BadFraction", gloZ "BadTable", gloZ "BadRows", intZ "MOST_MINOR" (7), freeZ "super", exc0Z "BadRows" [.type "ValueError", .type "Exception", .type "BaseException", .type "object"] "ValueError.__new__", excZ "BadRows", kitZ "BadRows" (fun K => .ref (He.ga K "BadRows")) true, kitZ "BadRows" (fun K => .ref (He.ga K "BadField")) false, kitZ "BadRows" (fun K => .ref (He.ga K "BadFraction")) false, kitZ "BadRows" (fun K => .ref (He.ga K "BadTable")) false, exmOZ "BadRows" "HollowError", exc0Z "BadFraction" [.type "ValueError", .type "Exception", .type "BaseException", .type "object"] "ValueError.__new__", excZ "BadFraction", kitZ "BadFraction" (fun K => .ref (He.ga K "BadRows")) false, kitZ "BadFraction" (fun K => .ref (He.ga K "BadField")) false, kitZ "BadFraction" (fun K => .ref (He.ga K "BadFraction")) true]
def fz3 : List (PySem.W.Frag → Bool) := [kitZ "BadFraction" (fun K => .ref (He.ga K "BadTable")) false, exmOZ "BadFraction" "HollowError"]
def fz : FzL := [fz0, fz1, fz2, fz3]
def mz0 : MzL := [fun K => fnM K (He.ga K "_law_cell"), fun K => fnM K (He.ga K "_law_low"), fun K => fnM K (He.ga K "_law_entries"), fun K => fnM K (He.ga K "is_tuple_of"), fun K => fnM K (He.ga K "_is_row"), fun K => fnM K (He.ga K "need_rows"), fun K => fnM K (He.ga K "fraction"), fun K => fnM K (He.ga K "_clear"), fun K => fnM K (He.ga K "_whole_minor"), fun K => fnM K (He.ga K "_minor_of"), fun K => fnM K (He.ga K "minor"), fun K => fnM K (He.ga K "_law_orders"), fun K => fnM K (He.ga K "_law_plus"), fun K => fnM K (He.ga K "_law_times"), fun K => fnM K (He.ga K "_law_minor"), fun K => fnM K (He.ga K "_law_great_right"), fun K => fnM K (He.ga K "_law_turned"), fun K => fnM K (He.ga K "_law_is_refused"), fun K => fnM K (He.ga K "_law_bent"), fun K => fnM K (He.ga K "law")]
def vz0 : List FnM := [some ("_law_cell", "_law_cell", defArgs s__law_cell, .stmts (defBody s__law_cell), defScope s__law_cell, mainGlobals, [], builtinsNs), some ("_law_low", "_law_low", defArgs s__law_low, .stmts (defBody s__law_low), defScope s__law_low, mainGlobals, [], builtinsNs), some ("_law_entries", "_law_entries", defArgs s__law_entries, .stmts (defBody s__law_entries), defScope s__law_entries, mainGlobals, [], builtinsNs), some ("is_tuple_of", "is_tuple_of", defArgs s_is_tuple_of, .stmts (defBody s_is_tuple_of), defScope s_is_tuple_of, mainGlobals, [], builtinsNs), some ("_is_row", "_is_row", defArgs s__is_row, .stmts (defBody s__is_row), defScope s__is_row, mainGlobals, [], builtinsNs), some ("need_rows", "need_rows", defArgs s_need_rows, .stmts (defBody s_need_rows), defScope s_need_rows, mainGlobals, [], builtinsNs), some ("fraction", "fraction", defArgs s_fraction, .stmts (defBody s_fraction), defScope s_fraction, mainGlobals, [], builtinsNs), some ("_clear", "_clear", defArgs s__clear, .stmts (defBody s__clear), defScope s__clear, mainGlobals, [], builtinsNs), some ("_whole_minor", "_whole_minor", defArgs s__whole_minor, .stmts (defBody s__whole_minor), defScope s__whole_minor, mainGlobals, [], builtinsNs), some ("_minor_of", "_minor_of", defArgs s__minor_of, .stmts (defBody s__minor_of), defScope s__minor_of, mainGlobals, [], builtinsNs), some ("minor", "minor", defArgs s_minor, .stmts (defBody s_minor), defScope s_minor, mainGlobals, [], builtinsNs), some ("_law_orders", "_law_orders", defArgs s__law_orders, .stmts (defBody s__law_orders), defScope s__law_orders, mainGlobals, [], builtinsNs), some ("_law_plus", "_law_plus", defArgs s__law_plus, .stmts (defBody s__law_plus), defScope s__law_plus, mainGlobals, [], builtinsNs), some ("_law_times", "_law_times", defArgs s__law_times, .stmts (defBody s__law_times), defScope s__law_times, mainGlobals, [], builtinsNs), some ("_law_minor", "_law_minor", defArgs s__law_minor, .stmts (defBody s__law_minor), defScope s__law_minor, mainGlobals, [], builtinsNs), some ("_law_great_right", "_law_great_right", defArgs s__law_great_right, .stmts (defBody s__law_great_right), defScope s__law_great_right, mainGlobals, [], builtinsNs), some ("_law_turned", "_law_turned", defArgs s__law_turned, .stmts (defBody s__law_turned), defScope s__law_turned, mainGlobals, [], builtinsNs), some ("_law_is_refused", "_law_is_refused", defArgs s__law_is_refused, .stmts (defBody s__law_is_refused), defScope s__law_is_refused, mainGlobals, [], builtinsNs), some ("_law_bent", "_law_bent", defArgs s__law_bent, .stmts (defBody s__law_bent), defScope s__law_bent, mainGlobals, [], builtinsNs), some ("law", "law", defArgs s_law, .stmts (defBody s_law), defScope s_law, mainGlobals, [], builtinsNs)]
def mz : MzL := mz0
def vz : List FnM := vz0
noncomputable def txOf (K : PySem.W.Frag) (mg : Str → Option Value) : Tx := { K := K, mg := mg, a__law_cell := He.ga K "_law_cell", fd__law_cell := fdOf K (He.ga K "_law_cell"), a__law_low := He.ga K "_law_low", fd__law_low := fdOf K (He.ga K "_law_low"), a__law_entries := He.ga K "_law_entries", fd__law_entries := fdOf K (He.ga K "_law_entries"), a_is_tuple_of := He.ga K "is_tuple_of", fd_is_tuple_of := fdOf K (He.ga K "is_tuple_of"), a__is_row := He.ga K "_is_row", fd__is_row := fdOf K (He.ga K "_is_row"), a_need_rows := He.ga K "need_rows", fd_need_rows := fdOf K (He.ga K "need_rows"), a_fraction := He.ga K "fraction", fd_fraction := fdOf K (He.ga K "fraction"), a__clear := He.ga K "_clear", fd__clear := fdOf K (He.ga K "_clear"), a__whole_minor := He.ga K "_whole_minor", fd__whole_minor := fdOf K (He.ga K "_whole_minor"), a__minor_of := He.ga K "_minor_of", fd__minor_of := fdOf K (He.ga K "_minor_of"), a_minor := He.ga K "minor", fd_minor := fdOf K (He.ga K "minor"), a__law_orders := He.ga K "_law_orders", fd__law_orders := fdOf K (He.ga K "_law_orders"), a__law_plus := He.ga K "_law_plus", fd__law_plus := fdOf K (He.ga K "_law_plus"), a__law_times := He.ga K "_law_times", fd__law_times := fdOf K (He.ga K "_law_times"), a__law_minor := He.ga K "_law_minor", fd__law_minor := fdOf K (He.ga K "_law_minor"), a__law_great_right := He.ga K "_law_great_right", fd__law_great_right := fdOf K (He.ga K "_law_great_right"), a__law_turned := He.ga K "_law_turned", fd__law_turned := fdOf K (He.ga K "_law_turned"), a__law_is_refused := He.ga K "_law_is_refused", fd__law_is_refused := fdOf K (He.ga K "_law_is_refused"), a__law_bent := He.ga K "_law_bent", fd__law_bent := fdOf K (He.ga K "_law_bent"), a_law := He.ga K "law", fd_law := fdOf K (He.ga K "law"), C_HollowError := He.ga K "HollowError", C_BadField := He.ga K "BadField", C_BadFraction := He.ga K "BadFraction", C_BadTable := He.ga K "BadTable", C_BadRows := He.ga K "BadRows", I_BadField := default, I_BadTable := default }
section
variable {P : Program} {K : PySem.W.Frag} {h : Heap} {mg : Str → Option Value} (hP : ((P.main.file : Str) == ("/claim/cut.py" : Str)) = true) (hS : (P.main.scope.names.lookup ("super" : Str)).isSome = false) (X : K.In h) (G : h.Ns mainGlobals mg) (c : SaysZ fz mz vz K)
include c
theorem F__law_cell : Fun K "_law_cell" "_law_cell" s__law_cell (He.ga K "_law_cell") (fdOf K (He.ga K "_law_cell")) := fun_z (c.fn 0) (c.fact 0 1)
theorem b__law_cell : Binds K (fdOf K (He.ga K "_law_cell")) ["cells", "spot"] [] := (F__law_cell c).binds fun _ _ _ _ _ _ us hl => match us, hl with | [_, _], _ => rfl
theorem F__law_low : Fun K "_law_low" "_law_low" s__law_low (He.ga K "_law_low") (fdOf K (He.ga K "_law_low")) := fun_z (c.fn 1) (c.fact 0 3)
theorem b__law_low : Binds K (fdOf K (He.ga K "_law_low")) ["above", "below"] [] := (F__law_low c).binds fun _ _ _ _ _ _ us hl => match us, hl with | [_, _], _ => rfl
theorem F__law_entries : Fun K "_law_entries" "_law_entries" s__law_entries (He.ga K "_law_entries") (fdOf K (He.ga K "_law_entries")) := fun_z (c.fn 2) (c.fact 0 5)
theorem b__law_entries : Binds K (fdOf K (He.ga K "_law_entries")) ["cells", "spot", "size", "sort"] [] := (F__law_entries c).binds fun _ _ _ _ _ _ us hl => match us, hl with | [_, _, _, _], _ => rfl
theorem F_is_tuple_of : Fun K "is_tuple_of" "is_tuple_of" s_is_tuple_of (He.ga K "is_tuple_of") (fdOf K (He.ga K "is_tuple_of")) := fun_z (c.fn 3) (c.fact 0 7)
theorem b_is_tuple_of : Binds K (fdOf K (He.ga K "is_tuple_of")) ["thing", "many"] [] := (F_is_tuple_of c).binds fun _ _ _ _ _ _ us hl => match us, hl with | [_, _], _ => rfl
theorem F__is_row : Fun K "_is_row" "_is_row" s__is_row (He.ga K "_is_row") (fdOf K (He.ga K "_is_row")) := fun_z (c.fn 4) (c.fact 0 9)
theorem b__is_row : Binds K (fdOf K (He.ga K "_is_row")) ["thing", "many"] [] := (F__is_row c).binds fun _ _ _ _ _ _ us hl => match us, hl with | [_, _], _ => rfl
theorem F_need_rows : Fun K "need_rows" "need_rows" s_need_rows (He.ga K "need_rows") (fdOf K (He.ga K "need_rows")) := fun_z (c.fn 5) (c.fact 0 11)
theorem b_need_rows : Binds K (fdOf K (He.ga K "need_rows")) ["thing", "least", "most"] [] := (F_need_rows c).binds fun _ _ _ _ _ _ us hl => match us, hl with | [_, _, _], _ => rfl
theorem F_fraction : Fun K "fraction" "fraction" s_fraction (He.ga K "fraction") (fdOf K (He.ga K "fraction")) := fun_z (c.fn 6) (c.fact 0 13)
theorem b_fraction : Binds K (fdOf K (He.ga K "fraction")) ["above", "below"] [] := (F_fraction c).binds fun _ _ _ _ _ _ us hl => match us, hl with | [_, _], _ => rfl
theorem F__clear : Fun K "_clear" "_clear" s__clear (He.ga K "_clear") (fdOf K (He.ga K "_clear")) := fun_z (c.fn 7) (c.fact 0 15)
theorem b__clear : Binds K (fdOf K (He.ga K "_clear")) ["line", "first", "number", "ahead"] [] := (F__clear c).binds fun _ _ _ _ _ _ us hl => match us, hl with | [_, _, _, _], _ => rfl
theorem F__whole_minor : Fun K "_whole_minor" "_whole_minor" s__whole_minor (He.ga K "_whole_minor") (fdOf K (He.ga K "_whole_minor")) := fun_z (c.fn 8) (c.fact 0 17)
theorem b__whole_minor : Binds K (fdOf K (He.ga K "_whole_minor")) ["lines"] [] := (F__whole_minor c).binds fun _ _ _ _ _ _ us hl => match us, hl with | [_], _ => rfl
theorem F__minor_of : Fun K "_minor_of" "_minor_of" s__minor_of (He.ga K "_minor_of") (fdOf K (He.ga K "_minor_of")) := fun_z (c.fn 9) (c.fact 0 19)
theorem b__minor_of : Binds K (fdOf K (He.ga K "_minor_of")) ["rows"] [] := (F__minor_of c).binds fun _ _ _ _ _ _ us hl => match us, hl with | [_], _ => rfl
theorem F_minor : Fun K "minor" "minor" s_minor (He.ga K "minor") (fdOf K (He.ga K "minor")) := fun_z (c.fn 10) (c.fact 0 21)
theorem b_minor : Binds K (fdOf K (He.ga K "minor")) ["rows"] [] := (F_minor c).binds fun _ _ _ _ _ _ us hl => match us, hl with | [_], _ => rfl
theorem kwb_minor_0 : KwB K (fdOf K (He.ga K "minor")) ["rows"] 0 ["rows"] [0] := kwB_z (F_minor c) fun _ _ _ _ _ _ us ws h1 h2 => match us, ws, h1, h2 with | [], [_], _, _ => rfl
theorem F__law_orders : Fun K "_law_orders" "_law_orders" s__law_orders (He.ga K "_law_orders") (fdOf K (He.ga K "_law_orders")) := fun_z (c.fn 11) (c.fact 0 23)
theorem b__law_orders : Binds K (fdOf K (He.ga K "_law_orders")) ["size"] [] := (F__law_orders c).binds fun _ _ _ _ _ _ us hl => match us, hl with | [_], _ => rfl
theorem F__law_plus : Fun K "_law_plus" "_law_plus" s__law_plus (He.ga K "_law_plus") (fdOf K (He.ga K "_law_plus")) := fun_z (c.fn 12) (c.fact 1 1)
theorem b__law_plus : Binds K (fdOf K (He.ga K "_law_plus")) ["one", "other"] [] := (F__law_plus c).binds fun _ _ _ _ _ _ us hl => match us, hl with | [_, _], _ => rfl
theorem F__law_times : Fun K "_law_times" "_law_times" s__law_times (He.ga K "_law_times") (fdOf K (He.ga K "_law_times")) := fun_z (c.fn 13) (c.fact 1 3)
theorem b__law_times : Binds K (fdOf K (He.ga K "_law_times")) ["one", "other"] [] := (F__law_times c).binds fun _ _ _ _ _ _ us hl => match us, hl with | [_, _], _ => rfl
theorem F__law_minor : Fun K "_law_minor" "_law_minor" s__law_minor (He.ga K "_law_minor") (fdOf K (He.ga K "_law_minor")) := fun_z (c.fn 14) (c.fact 1 5)
theorem b__law_minor : Binds K (fdOf K (He.ga K "_law_minor")) ["grid"] [] := (F__law_minor c).binds fun _ _ _ _ _ _ us hl => match us, hl with | [_], _ => rfl
theorem F__law_great_right : Fun K "_law_great_right" "_law_great_right" s__law_great_right (He.ga K "_law_great_right") (fdOf K (He.ga K "_law_great_right")) := fun_z (c.fn 15) (c.fact 1 7)
theorem b__law_great_right : Binds K (fdOf K (He.ga K "_law_great_right")) ["cells", "spot"] [] := (F__law_great_right c).binds fun _ _ _ _ _ _ us hl => match us, hl with | [_, _], _ => rfl
theorem F__law_turned : Fun K "_law_turned" "_law_turned" s__law_turned (He.ga K "_law_turned") (fdOf K (He.ga K "_law_turned")) := fun_z (c.fn 16) (c.fact 1 9)
theorem b__law_turned : Binds K (fdOf K (He.ga K "_law_turned")) ["grid"] [] := (F__law_turned c).binds fun _ _ _ _ _ _ us hl => match us, hl with | [_], _ => rfl
theorem F__law_is_refused : Fun K "_law_is_refused" "_law_is_refused" s__law_is_refused (He.ga K "_law_is_refused") (fdOf K (He.ga K "_law_is_refused")) := fun_z (c.fn 17) (c.fact 1 11)
theorem b__law_is_refused : Binds K (fdOf K (He.ga K "_law_is_refused")) ["thing"] [] := (F__law_is_refused c).binds fun _ _ _ _ _ _ us hl => match us, hl with | [_], _ => rfl
theorem F__law_bent : Fun K "_law_bent" "_law_bent" s__law_bent (He.ga K "_law_bent") (fdOf K (He.ga K "_law_bent")) := fun_z (c.fn 18) (c.fact 1 13)
theorem b__law_bent : Binds K (fdOf K (He.ga K "_law_bent")) ["grid", "n"] [] := (F__law_bent c).binds fun _ _ _ _ _ _ us hl => match us, hl with | [_, _], _ => rfl
theorem F_law : Fun K "law" "law" s_law (He.ga K "law") (fdOf K (He.ga K "law")) := fun_z (c.fn 19) (c.fact 1 15)
theorem b_law : Binds K (fdOf K (He.ga K "law")) ["script"] [] := (F_law c).binds fun _ _ _ _ _ _ us hl => match us, hl with | [_], _ => rfl
theorem ex_BadRows : ExcF K (He.ga K "BadRows") := excZ_ok (c.fact 2 13)
theorem ex_BadFraction : ExcF K (He.ga K "BadFraction") := excZ_ok (c.fact 2 20)
include X G hP hS in
theorem txok : TxOk P (txOf K mg) := { g__law_cell := gloZ_ok X G (c.fact 0 0), F__law_cell := F__law_cell c, b__law_cell := b__law_cell c, g__law_low := gloZ_ok X G (c.fact 0 2), F__law_low := F__law_low c, b__law_low := b__law_low c, g__law_entries := gloZ_ok X G (c.fact 0 4), F__law_entries := F__law_entries c, b__law_entries := b__law_entries c, g_is_tuple_of := gloZ_ok X G (c.fact 0 6), F_is_tuple_of := F_is_tuple_of c, b_is_tuple_of := b_is_tuple_of c, g__is_row := gloZ_ok X G (c.fact 0 8), F__is_row := F__is_row c, b__is_row := b__is_row c, g_need_rows := gloZ_ok X G (c.fact 0 10), F_need_rows := F_need_rows c, b_need_rows := b_need_rows c, g_fraction := gloZ_ok X G (c.fact 0 12), F_fraction := F_fraction c, b_fraction := b_fraction c, g__clear := gloZ_ok X G (c.fact 0 14), F__clear := F__clear c, b__clear := b__clear c, g__whole_minor := gloZ_ok X G (c.fact 0 16), F__whole_minor := F__whole_minor c, b__whole_minor := b__whole_minor c, g__minor_of := gloZ_ok X G (c.fact 0 18), F__minor_of := F__minor_of c, b__minor_of := b__minor_of c, g_minor := gloZ_ok X G (c.fact 0 20), F_minor := F_minor c, b_minor := b_minor c, kb_minor_0 := kwb_minor_0 c, g__law_orders := gloZ_ok X G (c.fact 0 22), F__law_orders := F__law_orders c, b__law_orders := b__law_orders c, g__law_plus := gloZ_ok X G (c.fact 1 0), F__law_plus := F__law_plus c, b__law_plus := b__law_plus c, g__law_times := gloZ_ok X G (c.fact 1 2), F__law_times := F__law_times c, b__law_times := b__law_times c, g__law_minor := gloZ_ok X G (c.fact 1 4), F__law_minor := F__law_minor c, b__law_minor := b__law_minor c, g__law_great_right := gloZ_ok X G (c.fact 1 6), F__law_great_right := F__law_great_right c, b__law_great_right := b__law_great_right c, g__law_turned := gloZ_ok X G (c.fact 1 8), F__law_turned := F__law_turned c, b__law_turned := b__law_turned c, g__law_is_refused := gloZ_ok X G (c.fact 1 10), F__law_is_refused := F__law_is_refused c, b__law_is_refused := b__law_is_refused c, g__law_bent := gloZ_ok X G (c.fact 1 12), F__law_bent := F__law_bent c, b__law_bent := b__law_bent c, g_law := gloZ_ok X G (c.fact 1 14), F_law := F_law c, b_law := b_law c, m_abs := freeZ_ok X G (c.fact 1 16), m_enumerate := freeZ_ok X G (c.fact 1 17), m_gcd := bltZ_ok X G (c.fact 1 18), m_int := freeZ_ok X G (c.fact 1 19), m_isinstance := freeZ_ok X G (c.fact 1 20), m_len := freeZ_ok X G (c.fact 1 21), m_list := freeZ_ok X G (c.fact 1 22), m_min := freeZ_ok X G (c.fact 1 23), m_range := freeZ_ok X G (c.fact 2 0), m_repr := freeZ_ok X G (c.fact 2 1), m_tuple := freeZ_ok X G (c.fact 2 2), m_type := freeZ_ok X G (c.fact 2 3), m_zip := freeZ_ok X G (c.fact 2 4), g_HollowError := gloZ_ok X G (c.fact 2 5), g_BadField := gloZ_ok X G (c.fact 2 6), g_BadFraction := gloZ_ok X G (c.fact 2 7), g_BadTable := gloZ_ok X G (c.fact 2 8), g_BadRows := gloZ_ok X G (c.fact 2 9), n_MOST_MINOR := intZ_ok X G (c.fact 2 10), sup := freeZ_ok X G (c.fact 2 11), xc_BadRows := (c.fact 2 12), kc_BadRows := (ex_BadRows c).kp, bc_BadRows := (ex_BadRows c).bc, tc_BadRows := (ex_BadRows c).tc, ec_BadRows := (ex_BadRows c).ec, ki_BadRows_BadRows := of_decide_eq_true (c.fact 2 14), ki_BadRows_BadField := of_decide_eq_true (c.fact 2 15), ki_BadRows_BadFraction := of_decide_eq_true (c.fact 2 16), ki_BadRows_BadTable := of_decide_eq_true (c.fact 2 17), ex1_HollowError_BadRows := of_decide_eq_true (c.fact 2 18), xc_BadFraction := (c.fact 2 19), kc_BadFraction := (ex_BadFraction c).kp, bc_BadFraction := (ex_BadFraction c).bc, tc_BadFraction := (ex_BadFraction c).tc, ec_BadFraction := (ex_BadFraction c).ec, ki_BadFraction_BadRows := of_decide_eq_true (c.fact 2 21), ki_BadFraction_BadField := of_decide_eq_true (c.fact 2 22), ki_BadFraction_BadFraction := of_decide_eq_true (c.fact 2 23), ki_BadFraction_BadTable := of_decide_eq_true (c.fact 3 0), ex1_HollowError_BadFraction := of_decide_eq_true (c.fact 3 1) }
end
def nz0 : List Str := ["__name__", "HollowError", "BadField", "BadFraction", "BadTable", "BadRows", "is_tuple_of", "fraction", "MOST_MINOR", "minor", "need_rows", "_is_row", "_minor_of", "_whole_minor", "_clear", "_law_cell", "_law_low", "_law_plus", "_law_times", "_law_orders", "_law_minor", "_law_entries", "_law_is_refused", "_law_turned", "_law_bent", "_law_great_right"]
def nz : List Str := nz0
abbrev Rz : PySem.W.OpenRow := PySem.W.OpenLaw.row PySem.Challenge.rw_hollowrise_k62_minors_of_rows
abbrev qz : Program := PySem.W.view Rz.prog [0, 31]
abbrev hkz : PySem.W.Hook := hookZ 5 fz mz vz
theorem runz (w : PySem.World) : HandSHeadRun.RunEqI Rz qz hkz (obZ 5 fz mz) 30000 nz w := by
  unfold HandSHeadRun.RunEqI
  kernel_rfl
end K62
namespace K62
open PySem L2 DL
/-- fuel: one more than the number at slot i -/
def fuelN (i : Nat) : DL.Env → Store → Nat := fun e _ => match e[i]? with
  | some (some (.int n)) => n.natAbs + 1
  | _ => 0
noncomputable def den__law_cell : DenS := seqS (asgG (binD addF (binD ixF (nameD 1) (cD (.int 0))) (cD (.int 1))) (subG (nameD 1) (cD (.int 0)))) (seqS (asgS 2 (binD ixF (nameD 1) (cD (.int 0)))) (seqS (asgS 3 (binD addF (binD mulF (binD mulF (cD (.int 31)) (nameD 2)) (nameD 2)) (binD mulF (cD (.int 7919)) (nameD 2)))) (seqS (ifS (andD (binD (gtF) (callD (lenF) (consA (nameD 0) (nilA))) (cD (.int 0))) (andD (binD (geF) (binD ixF (nameD 0) (binD fmodF (nameD 2) (callD (lenF) (consA (nameD 0) (nilA))))) (binD powF (cD (.int 10)) (cD (.int 18)))) (binD (ltF) (binD fdivF (nameD 2) (callD (lenF) (consA (nameD 0) (nilA)))) (cD (.int 60))))) (seqS (asgS 4 (binD ixF (nameD 0) (binD fmodF (nameD 2) (callD (lenF) (consA (nameD 0) (nilA)))))) (seqS (forI (nameG 5) (rng1 (consA (binD fdivF (nameD 2) (callD (lenF) (consA (nameD 0) (nilA)))) (nilA))) (asgS 4 (binD fdivF (nameD 4) (cD (.int 306783379))))) (ifS (binD (gtF) (nameD 4) (cD (.int 0))) (retS (binD fmodF (nameD 4) (cD (.int 306783379)))) (nilS)))) (nilS)) (seqS (ifS (binD (gtF) (callD (lenF) (consA (nameD 0) (nilA))) (cD (.int 0))) (asgS 3 (binD addF (nameD 3) (binD mulF (binD fmodF (binD ixF (nameD 0) (binD fmodF (nameD 2) (callD (lenF) (consA (nameD 0) (nilA))))) (cD (.int 2147483629))) (binD addF (cD (.int 1)) (binD fdivF (nameD 2) (callD (lenF) (consA (nameD 0) (nilA)))))))) (nilS)) (retS (binD fdivF (binD fmodF (binD powF (binD fmodF (nameD 3) (cD (.int 2147483647))) (cD (.int 5))) (cD (.int 2147483647))) (cD (.int 7))))))))
noncomputable def m__law_cell : DenF := cutF (ofBody 6 den__law_cell)
theorem ok__law_cell {x : Tx} {P : Program} (t : TxOk P x) {w : World} {base : Heap} (tb : Tb x base) : FnD P w x.fx x.mg base 1 x.a__law_cell x.fd__law_cell ["cells", "spot"] m__law_cell := by
  have sc := sc__law_cell
  exact FnD.cut (fn_mk (k := 0) t.F__law_cell sc rfl fun cdv A outer s H E dc => (dss_cons (ds_asg (de_bin add_ok opr_add (de_ix (de_name 1) de_int) de_int) (dg_sub (de_name 1) de_int)) (dss_cons (ds_set 2 sc.nd (de_ix (de_name 1) de_int)) (dss_cons (ds_set 3 sc.nd (de_bin add_ok opr_add (de_bin mul_ok opr_mul (de_bin mul_ok opr_mul de_int (de_name 2)) (de_name 2)) (de_bin mul_ok opr_mul de_int (de_name 2)))) (dss_cons (ds_if (DW.dt (dw_and (dt_cmp gt_ok op_gt (de_callB len_ok call_len t.m_len (da_cons (de_name 0) da_nil)) de_int (nomark _)) (dw_and (dt_cmp ge_ok op_ge (de_ix (de_name 0) (de_bin fmod_ok op_modN (de_name 2) (de_callB len_ok call_len t.m_len (da_cons (de_name 0) da_nil)))) (de_bin pow_ok opr_pow de_int de_int) (nomark _)) (dw_and1 (dt_cmp lt_ok op_lt (de_bin fdiv_ok opr_fdiv (de_name 2) (de_callB len_ok call_len t.m_len (da_cons (de_name 0) da_nil))) de_int (nomark _)))))) (dss_cons (ds_set 4 sc.nd (de_ix (de_name 0) (de_bin fmod_ok op_modN (de_name 2) (de_callB len_ok call_len t.m_len (da_cons (de_name 0) da_nil))))) (dss_cons (ds_forI dc (di_rng1 t.m_range (de_bin fdiv_ok opr_fdiv (de_name 2) (de_callB len_ok call_len t.m_len (da_cons (de_name 0) da_nil)))) (dg_name 5 sc.nd) (dss_one (ds_set 4 sc.nd (de_bin fdiv_ok opr_fdiv (de_name 4) de_int)))) (dss_one (ds_if (dt_cmp gt_ok op_gt (de_name 4) de_int (nomark _)) (dss_one (ds_ret (de_bin fmod_ok op_modN (de_name 4) de_int))) dss_nil)))) dss_nil) (dss_cons (ds_if (dt_cmp gt_ok op_gt (de_callB len_ok call_len t.m_len (da_cons (de_name 0) da_nil)) de_int (nomark _)) (dss_one (ds_set 3 sc.nd (de_bin add_ok opr_add (de_name 3) (de_bin mul_ok opr_mul (de_bin fmod_ok op_modN (de_ix (de_name 0) (de_bin fmod_ok op_modN (de_name 2) (de_callB len_ok call_len t.m_len (da_cons (de_name 0) da_nil)))) de_int) (de_bin add_ok opr_add de_int (de_bin fdiv_ok opr_fdiv (de_name 2) (de_callB len_ok call_len t.m_len (da_cons (de_name 0) da_nil)))))))) dss_nil) (dss_one (ds_ret (de_bin fdiv_ok opr_fdiv (de_bin fmod_ok op_modN (de_bin pow_ok opr_pow (de_bin fmod_ok op_modN (de_name 3) de_int) de_int) de_int) de_int)))))))))
noncomputable def den__law_low : DenS := seqS (parS 2 3 (callD (absF) (consA (nameD 0) (nilA))) (callD (absF) (consA (nameD 1) (nilA)))) (seqS (wlS (fuelN 3) (binD (neF) (nameD 3) (cD (.int 0))) (parS 2 3 (nameD 3) (binD fmodF (nameD 2) (nameD 3)))) (seqS (asgS 4 (brD (binD (gtF) (nameD 1) (cD (.int 0))) (nameD 2) (binD subF (cD (.int 0)) (nameD 2)))) (retS (tupD (consA (binD fdivF (nameD 0) (nameD 4)) (consA (binD fdivF (nameD 1) (nameD 4)) (nilA)))))))
noncomputable def m__law_low : DenF := cutF (ofBody 5 den__law_low)
theorem ok__law_low {x : Tx} {P : Program} (t : TxOk P x) {w : World} {base : Heap} (tb : Tb x base) : FnD P w x.fx x.mg base 1 x.a__law_low x.fd__law_low ["above", "below"] m__law_low := by
  have sc := sc__law_low
  exact FnD.cut (fn_mk (k := 0) t.F__law_low sc rfl fun cdv A outer s H E dc => (dss_cons (ds_par 2 3 dc.calm sc.nd (de_callB abs_ok call_abs t.m_abs (da_cons (de_name 0) da_nil)) (de_callB abs_ok call_abs t.m_abs (da_cons (de_name 1) da_nil))) (dss_cons (ds_wl (fuelN 3) dc (dt_cmp ne_ok (opr_ne dc.u64) (de_name 3) de_int (nomark _)) (dss_one (ds_par 2 3 dc.calm sc.nd (de_name 3) (de_bin fmod_ok op_modN (de_name 2) (de_name 3))))) (dss_cons (ds_set 4 sc.nd (de_ifExp (dt_cmp gt_ok op_gt (de_name 1) de_int (nomark _)) (de_name 2) (de_bin sub_ok op_sub de_int (de_name 2)))) (dss_one (ds_ret (de_tup (da_cons (de_bin fdiv_ok opr_fdiv (de_name 0) (de_name 4)) (da_cons (de_bin fdiv_ok opr_fdiv (de_name 1) (de_name 4)) da_nil)))))))))
noncomputable def den__law_entries : DenS := seqS (ownS 4 (nilA)) (seqS (forI (nameG 5) (rng1 (consA (nameD 2) (nilA))) (seqS (ownS 6 (nilA)) (seqS (forI (nameG 7) (rng1 (consA (nameD 2) (nilA))) (seqS (asgS 8 (fnD m__law_cell 2 [] (consA (nameD 0) (consA (nameD 1) (nilA))))) (seqS (asgS 9 (lstD (consA (tupD (consA (binD addF (cD (.int 1)) (binD fmodF (nameD 8) (cD (.int 2)))) (consA (cD (.int 1)) (nilA)))) (consA (fnD m__law_low 2 [] (consA (binD addF (cD (.int 1)) (binD fmodF (nameD 8) (cD (.int 7)))) (consA (binD addF (cD (.int 1)) (binD fmodF (binD fdivF (nameD 8) (cD (.int 7))) (cD (.int 5)))) (nilA)))) (consA (tupD (consA (binD subF (binD fmodF (nameD 8) (cD (.int 4))) (cD (.int 1))) (consA (cD (.int 1)) (nilA)))) (consA (tupD (consA (binD addF (nameD 8) (binD powF (cD (.int 10)) (cD (.int 30)))) (consA (cD (.int 1)) (nilA)))) (consA (tupD (consA (cD (.int 1)) (consA (cD (.int 1)) (nilA)))) (nilA)))))))) (seqS (asgS 10 (brD (binD (eqF) (binD fmodF (binD fdivF (nameD 8) (cD (.int 35))) (cD (.int 2))) (cD (.int 0))) (binD ixF (nameD 9) (nameD 3)) (tupD (consA (binD subF (cD (.int 0)) (binD ixF (binD ixF (nameD 9) (nameD 3)) (cD (.int 0)))) (consA (binD ixF (binD ixF (nameD 9) (nameD 3)) (cD (.int 1))) (nilA)))))) (appS (nameD 6) (brD (binD (gtF) (nameD 3) (cD (.int 2))) (binD ixF (nameD 9) (nameD 3)) (nameD 10))))))) (appS (nameD 4) (callD (tupcF) (consA (nameD 6) (nilA))))))) (retS (callD (tupcF) (consA (nameD 4) (nilA)))))
noncomputable def m__law_entries : DenF := cutF (ofBody 11 den__law_entries)
theorem ok__law_entries {x : Tx} {P : Program} (t : TxOk P x) {w : World} {base : Heap} (tb : Tb x base) : FnD P w x.fx x.mg base 2 x.a__law_entries x.fd__law_entries ["cells", "spot", "size", "sort"] m__law_entries := by
  have sc := sc__law_entries
  exact FnD.cut (fn_mk (k := 1) t.F__law_entries sc rfl fun cdv A outer s H E dc => (dss_cons (ds_own 4 sc.nd da_nil) (dss_cons (ds_forI dc (di_rng1 t.m_range (de_name 2)) (dg_name 5 sc.nd) (dss_cons (ds_own 6 sc.nd da_nil) (dss_cons (ds_forI dc (di_rng1 t.m_range (de_name 2)) (dg_name 7 sc.nd) (dss_cons (ds_set 8 sc.nd (de_call (k := 1) (ps := ["cells", "spot"]) (ok__law_cell t tb) (dc.mono (by decide)) t.g__law_cell t.F__law_cell.kp t.b__law_cell .nil (fun _ _ => rfl) (da_cons (de_name 0) (da_cons (de_name 1) da_nil)))) (dss_cons (ds_set 9 sc.nd (de_lst (da_cons (de_tup (da_cons (de_bin add_ok opr_add de_int (de_bin fmod_ok op_modN (de_name 8) de_int)) (da_cons de_int da_nil))) (da_cons (de_call (k := 1) (ps := ["above", "below"]) (ok__law_low t tb) (dc.mono (by decide)) t.g__law_low t.F__law_low.kp t.b__law_low .nil (fun _ _ => rfl) (da_cons (de_bin add_ok opr_add de_int (de_bin fmod_ok op_modN (de_name 8) de_int)) (da_cons (de_bin add_ok opr_add de_int (de_bin fmod_ok op_modN (de_bin fdiv_ok opr_fdiv (de_name 8) de_int) de_int)) da_nil))) (da_cons (de_tup (da_cons (de_bin sub_ok op_sub (de_bin fmod_ok op_modN (de_name 8) de_int) de_int) (da_cons de_int da_nil))) (da_cons (de_tup (da_cons (de_bin add_ok opr_add (de_name 8) (de_bin pow_ok opr_pow de_int de_int)) (da_cons de_int da_nil))) (da_cons (de_tup (da_cons de_int (da_cons de_int da_nil))) da_nil))))))) (dss_cons (ds_set 10 sc.nd (de_ifExp (dt_cmp eq_ok (opr_eq dc.u64) (de_bin fmod_ok op_modN (de_bin fdiv_ok opr_fdiv (de_name 8) de_int) de_int) de_int (nomark _)) (de_ix (de_name 9) (de_name 3)) (de_tup (da_cons (de_bin sub_ok op_sub de_int (de_ix (de_ix (de_name 9) (de_name 3)) de_int)) (da_cons (de_ix (de_ix (de_name 9) (de_name 3)) de_int) da_nil))))) (dss_one (ds_app (de_name 6) (de_ifExp (dt_cmp gt_ok op_gt (de_name 3) de_int (nomark _)) (de_ix (de_name 9) (de_name 3)) (de_name 10)))))))) (dss_one (ds_app (de_name 4) (de_callTy tupc_ok callr_tuple t.m_tuple (da_cons (de_name 6) da_nil))))))) (dss_one (ds_ret (de_callTy tupc_ok callr_tuple t.m_tuple (da_cons (de_name 4) da_nil)))))))
noncomputable def den_is_tuple_of : DenS := retS (andD (binD (isF false) (callD (typF) (consA (nameD 0) (nilA))) (cD (.ty "tuple"))) (binD (eqF) (callD (lenF) (consA (nameD 0) (nilA))) (nameD 1)))
noncomputable def m_is_tuple_of : DenF := cutF (ofBody 2 den_is_tuple_of)
theorem ok_is_tuple_of {x : Tx} {P : Program} (t : TxOk P x) {w : World} {base : Heap} (tb : Tb x base) : FnD P w x.fx x.mg base 1 x.a_is_tuple_of x.fd_is_tuple_of ["thing", "many"] m_is_tuple_of := by
  have sc := sc_is_tuple_of
  exact FnD.cut (fn_mk (k := 0) t.F_is_tuple_of sc rfl fun cdv A outer s H E dc => (dss_one (ds_ret (de_and (de_cmp is_ok opr_is (de_callTy typ_ok callr_type t.m_type (da_cons (de_name 0) da_nil)) (de_cls t.m_tuple) (nomark _)) (de_one (de_cmp eq_ok (opr_eq dc.u64) (de_callB len_ok call_len t.m_len (da_cons (de_name 0) da_nil)) (de_name 1) (nomark _)))))))
noncomputable def den__is_row : DenS := seqS (ifS (unD notF (tstD (fnD m_is_tuple_of 2 [] (consA (nameD 0) (consA (nameD 1) (nilA)))))) (retS (cD (.bl false))) (nilS)) (seqS (forI (nameG 2) (itD (nameD 0)) (seqS (ifS (orD (binD (isF true) (callD (typF) (consA (nameD 2) (nilA))) (cD (.ty "tuple"))) (binD (neF) (callD (lenF) (consA (nameD 2) (nilA))) (cD (.int 2)))) (retS (cD (.bl false))) (nilS)) (seqS (asgG (nameD 2) (tupG 2 (consG (nameG 3) (consG (nameG 4) (nilG))))) (seqS (ifS (orD (binD (isF true) (callD (typF) (consA (nameD 3) (nilA))) (cD (.ty "int"))) (binD (isF true) (callD (typF) (consA (nameD 4) (nilA))) (cD (.ty "int")))) (retS (cD (.bl false))) (nilS)) (ifS (andD (binD (neF) (nameD 4) (cD (.int 1))) (orD (binD (ltF) (nameD 4) (cD (.int 1))) (binD (neF) (callD gcdF (consA (nameD 3) (consA (nameD 4) (nilA)))) (cD (.int 1))))) (retS (cD (.bl false))) (nilS)))))) (retS (cD (.bl true))))
noncomputable def m__is_row : DenF := cutF (ofBody 5 den__is_row)
theorem ok__is_row {x : Tx} {P : Program} (t : TxOk P x) {w : World} {base : Heap} (tb : Tb x base) : FnD P w x.fx x.mg base 2 x.a__is_row x.fd__is_row ["thing", "many"] m__is_row := by
  have sc := sc__is_row
  exact FnD.cut (fn_mk (k := 1) t.F__is_row sc rfl fun cdv A outer s H E dc => (dss_cons (ds_if (dt_not (dt_v (de_call (k := 1) (ps := ["thing", "many"]) (ok_is_tuple_of t tb) (dc.mono (by decide)) t.g_is_tuple_of t.F_is_tuple_of.kp t.b_is_tuple_of .nil (fun _ _ => rfl) (da_cons (de_name 0) (da_cons (de_name 1) da_nil))))) (dss_one (ds_ret de_bl)) dss_nil) (dss_cons (ds_forI dc (di_sq (de_name 0)) (dg_name 2 sc.nd) (dss_cons (ds_if (DW.dt (dw_or (dt_cmp is_ok opr_isnot (de_callTy typ_ok callr_type t.m_type (da_cons (de_name 2) da_nil)) (de_cls t.m_tuple) (nomark _)) (dw_or1 (dt_cmp ne_ok (opr_ne dc.u64) (de_callB len_ok call_len t.m_len (da_cons (de_name 2) da_nil)) de_int (nomark _))))) (dss_one (ds_ret de_bl)) dss_nil) (dss_cons (ds_asg (de_name 2) (dg_tup dc.calm (dgs_cons (dg_name 3 sc.nd) (dgs_cons (dg_name 4 sc.nd) dgs_nil)))) (dss_cons (ds_if (DW.dt (dw_or (dt_cmp is_ok opr_isnot (de_callTy typ_ok callr_type t.m_type (da_cons (de_name 3) da_nil)) (de_cls t.m_int) (nomark _)) (dw_or1 (dt_cmp is_ok opr_isnot (de_callTy typ_ok callr_type t.m_type (da_cons (de_name 4) da_nil)) (de_cls t.m_int) (nomark _))))) (dss_one (ds_ret de_bl)) dss_nil) (dss_one (ds_if (DW.dt (dw_and (dt_cmp ne_ok (opr_ne dc.u64) (de_name 4) de_int (nomark _)) (dw_and1 (DW.dt (dw_or (dt_cmp lt_ok op_lt (de_name 4) de_int (nomark _)) (dw_or1 (dt_cmp ne_ok (opr_ne dc.u64) (de_callG gcd_ok cr_gcd t.m_gcd (da_cons (de_name 3) (da_cons (de_name 4) da_nil))) de_int (nomark _)))))))) (dss_one (ds_ret de_bl)) dss_nil)))))) (dss_one (ds_ret de_bl)))))
noncomputable def den_need_rows : DenS := seqS (ifS (orD (binD (isF true) (callD (typF) (consA (nameD 0) (nilA))) (cD (.ty "tuple"))) (unD notF (chainD leF leF (nameD 1) (callD (lenF) (consA (nameD 0) (nilA))) (nameD 2)))) (raiseS "BadRows") (nilS)) (forI (nameG 3) (itD (nameD 0)) (ifS (unD notF (tstD (fnD m__is_row 2 [] (consA (nameD 3) (consA (callD (lenF) (consA (nameD 0) (nilA))) (nilA)))))) (raiseS "BadRows") (nilS)))
noncomputable def m_need_rows : DenF := cutF (ofBody 4 den_need_rows)
theorem ok_need_rows {x : Tx} {P : Program} (t : TxOk P x) {w : World} {base : Heap} (tb : Tb x base) : FnD P w x.fx x.mg base 3 x.a_need_rows x.fd_need_rows ["thing", "least", "most"] m_need_rows := by
  have sc := sc_need_rows
  exact FnD.cut (fn_mk (k := 2) t.F_need_rows sc rfl fun cdv A outer s H E dc => (dss_cons (ds_if (DW.dt (dw_or (dt_cmp is_ok opr_isnot (de_callTy typ_ok callr_type t.m_type (da_cons (de_name 0) da_nil)) (de_cls t.m_tuple) (nomark _)) (dw_or1 (dt_not (dt_chain le_ok op_le le_ok op_le truths_int (de_name 1) (de_callB len_ok call_len t.m_len (da_cons (de_name 0) da_nil)) (de_name 2)))))) (dss_one (ds_raise "BadRows" dc t.h_cl_BadRows (t.cf_BadRows _))) dss_nil) (dss_one (ds_forI dc (di_sq (de_name 0)) (dg_name 3 sc.nd) (dss_one (ds_if (dt_not (dt_v (de_call (k := 2) (ps := ["thing", "many"]) (ok__is_row t tb) (dc.mono (by decide)) t.g__is_row t.F__is_row.kp t.b__is_row .nil (fun _ _ => rfl) (da_cons (de_name 3) (da_cons (de_callB len_ok call_len t.m_len (da_cons (de_name 0) da_nil)) da_nil))))) (dss_one (ds_raise "BadRows" dc t.h_cl_BadRows (t.cf_BadRows _))) dss_nil))))))
noncomputable def den_fraction : DenS := seqS (ifS (binD (eqF) (nameD 1) (cD (.int 0))) (raiseS "BadFraction") (nilS)) (seqS (ifS (binD (ltF) (nameD 1) (cD (.int 0))) (parS 0 1 (unD negF (nameD 0)) (unD negF (nameD 1))) (nilS)) (seqS (asgS 2 (callD gcdF (consA (nameD 0) (consA (nameD 1) (nilA))))) (retS (tupD (consA (binD fdivF (nameD 0) (nameD 2)) (consA (binD fdivF (nameD 1) (nameD 2)) (nilA)))))))
noncomputable def m_fraction : DenF := cutF (ofBody 3 den_fraction)
theorem ok_fraction {x : Tx} {P : Program} (t : TxOk P x) {w : World} {base : Heap} (tb : Tb x base) : FnD P w x.fx x.mg base 1 x.a_fraction x.fd_fraction ["above", "below"] m_fraction := by
  have sc := sc_fraction
  exact FnD.cut (fn_mk (k := 0) t.F_fraction sc rfl fun cdv A outer s H E dc => (dss_cons (ds_if (dt_cmp eq_ok (opr_eq dc.u64) (de_name 1) de_int (nomark _)) (dss_one (ds_raise "BadFraction" dc t.h_cl_BadFraction (t.cf_BadFraction _))) dss_nil) (dss_cons (ds_if (dt_cmp lt_ok op_lt (de_name 1) de_int (nomark _)) (dss_one (ds_par 0 1 dc.calm sc.nd (de_un neg_ok un_neg (de_name 0)) (de_un neg_ok un_neg (de_name 1)))) dss_nil) (dss_cons (ds_set 2 sc.nd (de_callG gcd_ok cr_gcd t.m_gcd (da_cons (de_name 0) (da_cons (de_name 1) da_nil)))) (dss_one (ds_ret (de_tup (da_cons (de_bin fdiv_ok opr_fdiv (de_name 0) (de_name 2)) (da_cons (de_bin fdiv_ok opr_fdiv (de_name 1) (de_name 2)) da_nil)))))))))
noncomputable def den__clear : DenS := seqS (asgS 4 (binD ixF (nameD 1) (nameD 2))) (seqS (asgS 5 (binD ixF (nameD 0) (nameD 2))) (seqS (asgS 6 (callD (lenF) (consA (nameD 0) (nilA)))) (forI (nameG 7) (rng2 (consA (nameD 2) (consA (nameD 6) (nilA)))) (asgG (binD fdivF (binD subF (binD mulF (binD ixF (nameD 0) (nameD 7)) (nameD 4)) (binD mulF (nameD 5) (binD ixF (nameD 1) (nameD 7)))) (nameD 3)) (subG (nameD 0) (nameD 7))))))
noncomputable def m__clear : DenF := cutF (ofBody 8 den__clear)
theorem ok__clear {x : Tx} {P : Program} (t : TxOk P x) {w : World} {base : Heap} (tb : Tb x base) : FnD P w x.fx x.mg base 1 x.a__clear x.fd__clear ["line", "first", "number", "ahead"] m__clear := by
  have sc := sc__clear
  exact FnD.cut (fn_mk (k := 0) t.F__clear sc rfl fun cdv A outer s H E dc => (dss_cons (ds_set 4 sc.nd (de_ix (de_name 1) (de_name 2))) (dss_cons (ds_set 5 sc.nd (de_ix (de_name 0) (de_name 2))) (dss_cons (ds_set 6 sc.nd (de_callB len_ok call_len t.m_len (da_cons (de_name 0) da_nil))) (dss_one (ds_forI dc (di_rng2 t.m_range (de_name 2) (de_name 6)) (dg_name 7 sc.nd) (dss_one (ds_asg (de_bin fdiv_ok opr_fdiv (de_bin sub_ok op_sub (de_bin mul_ok opr_mul (de_ix (de_name 0) (de_name 7)) (de_name 4)) (de_bin mul_ok opr_mul (de_name 5) (de_ix (de_name 1) (de_name 7)))) (de_name 3)) (dg_sub (de_name 0) (de_name 7))))))))))
noncomputable def den__whole_minor : DenS := seqS (asgS 1 (cD (.int 1))) (seqS (asgS 2 (cD (.int 1))) (seqS (asgS 3 (callD (lenF) (consA (nameD 0) (nilA)))) (seqS (forI (nameG 4) (rng1 (consA (nameD 3) (nilA))) (seqS (asgS 5 (cutE (compD (set1 7) (binD (neF) (binD ixF (binD ixF (nameD 0) (nameD 7)) (nameD 4)) (cD (.int 0))) (nameD 7) [7] (rng2 (consA (nameD 4) (consA (nameD 3) (nilA))))))) (seqS (ifS (binD (eqF) (callD (lenF) (consA (nameD 5) (nilA))) (cD (.int 0))) (retS (cD (.int 0))) (nilS)) (seqS (ifS (binD (neF) (binD ixF (nameD 5) (cD (.int 0))) (nameD 4)) (seqS (asgG (tupD (consA (binD ixF (nameD 0) (binD ixF (nameD 5) (cD (.int 0)))) (consA (binD ixF (nameD 0) (nameD 4)) (nilA)))) (tupG 2 (consG (subG (nameD 0) (nameD 4)) (consG (subG (nameD 0) (binD ixF (nameD 5) (cD (.int 0)))) (nilG))))) (asgS 1 (unD negF (nameD 1)))) (nilS)) (seqS (asgS 6 (binD ixF (nameD 0) (nameD 4))) (seqS (forI (nameG 7) (itD (slpD (nameD 0) (someO (binD addF (nameD 4) (cD (.int 1)))) (noneO) (noneO))) (dropS (fnD m__clear 4 [] (consA (nameD 7) (consA (nameD 6) (consA (nameD 4) (consA (nameD 2) (nilA)))))))) (asgS 2 (binD ixF (nameD 6) (nameD 4))))))))) (retS (binD mulF (nameD 1) (nameD 2))))))
noncomputable def m__whole_minor : DenF := cutF (ofBody 8 den__whole_minor)
theorem ok__whole_minor {x : Tx} {P : Program} (t : TxOk P x) {w : World} {base : Heap} (tb : Tb x base) : FnD P w x.fx x.mg base 2 x.a__whole_minor x.fd__whole_minor ["lines"] m__whole_minor := by
  have sc := sc__whole_minor
  exact FnD.cut (fn_mk (k := 1) t.F__whole_minor sc rfl fun cdv A outer s H E dc => (dss_cons (ds_set 1 sc.nd de_int) (dss_cons (ds_set 2 sc.nd de_int) (dss_cons (ds_set 3 sc.nd (de_callB len_ok call_len t.m_len (da_cons (de_name 0) da_nil))) (dss_cons (ds_forI dc (di_rng1 t.m_range (de_name 3)) (dg_name 4 sc.nd) (dss_cons (DSet.ds (DSet.cut (dset_comp 5 (own := [("line", 7)]) dc sc.nd (di_rng2 t.m_range (de_name 4) (de_name 3)) (blkOk_by (own := [("line", 7)]) (by rfl)) (fun _ _ _ _ _ => pg_name sc.nd (i := 7) rfl (by first | exact Or.inl rfl | exact Or.inr rfl) (by first | exact .inl rfl | exact .inr rfl)) (tg1 (vs := [7]) (by decide)) (fun _ _ _ _ _ dc => pts_if (dt_cmp ne_ok (opr_ne dc.u64) (de_ix (de_ix (de_name 0) (de_name 7)) (de_name 4)) de_int (nomark _))) (fun _ _ _ _ _ dc => (de_name 7))))) (dss_cons (ds_if (dt_cmp eq_ok (opr_eq dc.u64) (de_callB len_ok call_len t.m_len (da_cons (de_name 5) da_nil)) de_int (nomark _)) (dss_one (ds_ret de_int)) dss_nil) (dss_cons (ds_if (dt_cmp ne_ok (opr_ne dc.u64) (de_ix (de_name 5) de_int) (de_name 4) (nomark _)) (dss_cons (ds_asg (de_tup (da_cons (de_ix (de_name 0) (de_ix (de_name 5) de_int)) (da_cons (de_ix (de_name 0) (de_name 4)) da_nil))) (dg_tup dc.calm (dgs_cons (dg_sub (de_name 0) (de_name 4)) (dgs_cons (dg_sub (de_name 0) (de_ix (de_name 5) de_int)) dgs_nil)))) (dss_one (ds_set 1 sc.nd (de_un neg_ok un_neg (de_name 1))))) dss_nil) (dss_cons (ds_set 6 sc.nd (de_ix (de_name 0) (de_name 4))) (dss_cons (ds_forI dc (di_sq (de_slp (de_name 0) (do_so (de_bin add_ok opr_add (de_name 4) de_int)) do_no do_no)) (dg_name 7 sc.nd) (dss_one (ds_expr (de_call (k := 1) (ps := ["line", "first", "number", "ahead"]) (ok__clear t tb) (dc.mono (by decide)) t.g__clear t.F__clear.kp t.b__clear .nil (fun _ _ => rfl) (da_cons (de_name 7) (da_cons (de_name 6) (da_cons (de_name 4) (da_cons (de_name 2) da_nil)))))))) (dss_one (ds_set 2 sc.nd (de_ix (de_name 6) (de_name 4)))))))))) (dss_one (ds_ret (de_bin mul_ok opr_mul (de_name 1) (de_name 2)))))))))
noncomputable def den__minor_of : DenS := seqS (ownS 1 (nilA)) (seqS (asgS 2 (cD (.int 1))) (seqS (forI (nameG 3) (itD (nameD 0)) (seqS (asgS 4 (cD (.int 1))) (seqS (forI (tupG 2 (consG (nameG 5) (consG (nameG 6) (nilG)))) (itD (nameD 3)) (asgS 4 (binD mulF (nameD 4) (binD fdivF (nameD 6) (callD gcdF (consA (nameD 4) (consA (nameD 6) (nilA)))))))) (seqS (appS (nameD 1) (compD (set2 7 6) (cD (.bl true)) (binD mulF (nameD 7) (binD fdivF (nameD 4) (nameD 6))) [6, 7] (itD (nameD 3)))) (asgS 2 (binD mulF (nameD 2) (nameD 4))))))) (retS (fnD m_fraction 2 [] (consA (fnD m__whole_minor 1 [] (consA (nameD 1) (nilA))) (consA (nameD 2) (nilA)))))))
noncomputable def m__minor_of : DenF := cutF (ofBody 8 den__minor_of)
theorem ok__minor_of {x : Tx} {P : Program} (t : TxOk P x) {w : World} {base : Heap} (tb : Tb x base) : FnD P w x.fx x.mg base 3 x.a__minor_of x.fd__minor_of ["rows"] m__minor_of := by
  have sc := sc__minor_of
  exact FnD.cut (fn_mk (k := 2) t.F__minor_of sc rfl fun cdv A outer s H E dc => (dss_cons (ds_own 1 sc.nd da_nil) (dss_cons (ds_set 2 sc.nd de_int) (dss_cons (ds_forI dc (di_sq (de_name 0)) (dg_name 3 sc.nd) (dss_cons (ds_set 4 sc.nd de_int) (dss_cons (ds_forI dc (di_sq (de_name 3)) (dg_tup dc.calm (dgs_cons (dg_name 5 sc.nd) (dgs_cons (dg_name 6 sc.nd) dgs_nil))) (dss_one (ds_set 4 sc.nd (de_bin mul_ok opr_mul (de_name 4) (de_bin fdiv_ok opr_fdiv (de_name 6) (de_callG gcd_ok cr_gcd t.m_gcd (da_cons (de_name 4) (da_cons (de_name 6) da_nil)))))))) (dss_cons (ds_app (de_name 1) (de_comp (own := [("below", 6), ("above", 7)]) dc sc.nd (di_sq (de_name 3)) (blkOk_by (own := [("below", 6), ("above", 7)]) (by rfl)) (fun _ _ _ _ _ => pg_tup (by exact dc.calm) (pgs_cons (pg_name sc.nd (i := 7) rfl (by first | exact Or.inl rfl | exact Or.inr rfl) (by first | exact .inl rfl | exact .inr rfl)) (pgs_cons (pg_name sc.nd (i := 6) rfl (by first | exact Or.inl rfl | exact Or.inr rfl) (by first | exact .inl rfl | exact .inr rfl)) pgs_nil rfl) rfl) rfl rfl) (tg2 (vs := [6, 7]) (by decide) (by decide)) (fun _ _ _ _ _ _ => pts_yes) (fun _ _ _ _ _ dc => (de_bin mul_ok opr_mul (de_name 7) (de_bin fdiv_ok opr_fdiv (de_name 4) (de_name 6)))))) (dss_one (ds_set 2 sc.nd (de_bin mul_ok opr_mul (de_name 2) (de_name 4)))))))) (dss_one (ds_ret (de_call (k := 1) (ps := ["above", "below"]) (ok_fraction t tb) (dc.mono (by decide)) t.g_fraction t.F_fraction.kp t.b_fraction .nil (fun _ _ => rfl) (da_cons (de_call (k := 2) (ps := ["lines"]) (ok__whole_minor t tb) (dc.mono (by decide)) t.g__whole_minor t.F__whole_minor.kp t.b__whole_minor .nil (fun _ _ => rfl) (da_cons (de_name 1) da_nil)) (da_cons (de_name 2) da_nil)))))))))
noncomputable def den_minor : DenS := seqS (dropS (fnD m_need_rows 3 [] (consA (nameD 0) (consA (cD (.int 0)) (consA (cD (.int (7))) (nilA)))))) (retS (fnD m__minor_of 1 [] (consA (nameD 0) (nilA))))
noncomputable def m_minor : DenF := cutF (ofBody 1 den_minor)
theorem ok_minor {x : Tx} {P : Program} (t : TxOk P x) {w : World} {base : Heap} (tb : Tb x base) : FnD P w x.fx x.mg base 4 x.a_minor x.fd_minor ["rows"] m_minor := by
  have sc := sc_minor
  exact FnD.cut (fn_mk (k := 3) t.F_minor sc rfl fun cdv A outer s H E dc => (dss_cons (ds_expr (de_call (k := 3) (ps := ["thing", "least", "most"]) (ok_need_rows t tb) (dc.mono (by decide)) t.g_need_rows t.F_need_rows.kp t.b_need_rows .nil (fun _ _ => rfl) (da_cons (de_name 0) (da_cons de_int (da_cons (de_numE t.n_MOST_MINOR) da_nil))))) (dss_one (ds_ret (de_call (k := 3) (ps := ["rows"]) (ok__minor_of t tb) (dc.mono (by decide)) t.g__minor_of t.F__minor_of.kp t.b__minor_of .nil (fun _ _ => rfl) (da_cons (de_name 0) da_nil))))))
noncomputable def den__law_orders : DenS := seqS (asgS 1 (lstD (consA (tupD (consA (tupD (nilA)) (consA (cD (.int 1)) (nilA)))) (nilA)))) (seqS (forI (nameG 2) (rng1 (consA (nameD 0) (nilA))) (seqS (ownS 3 (nilA)) (seqS (forI (tupG 2 (consG (nameG 4) (consG (nameG 5) (nilG)))) (itD (nameD 1)) (forI (nameG 6) (rng1 (consA (binD addGF (nameD 2) (cD (.int 1))) (nilA))) (appS (nameD 3) (tupD (consA (binD addGF (binD addGF (slpD (nameD 4) (noneO) (someO (nameD 6)) (noneO)) (tupD (consA (nameD 2) (nilA)))) (slpD (nameD 4) (someO (nameD 6)) (noneO) (noneO))) (consA (binD mulF (nameD 5) (binD subF (cD (.int 1)) (binD mulF (binD fmodF (binD subF (nameD 2) (nameD 6)) (cD (.int 2))) (cD (.int 2))))) (nilA))))))) (asgS 1 (nameD 3))))) (retS (nameD 1)))
noncomputable def m__law_orders : DenF := cutF (ofBody 7 den__law_orders)
theorem ok__law_orders {x : Tx} {P : Program} (t : TxOk P x) {w : World} {base : Heap} (tb : Tb x base) : FnD P w x.fx x.mg base 1 x.a__law_orders x.fd__law_orders ["size"] m__law_orders := by
  have sc := sc__law_orders
  exact FnD.cut (fn_mk (k := 0) t.F__law_orders sc rfl fun cdv A outer s H E dc => (dss_cons (ds_set 1 sc.nd (de_lst (da_cons (de_tup (da_cons (de_tup da_nil) (da_cons de_int da_nil))) da_nil))) (dss_cons (ds_forI dc (di_rng1 t.m_range (de_name 0)) (dg_name 2 sc.nd) (dss_cons (ds_own 3 sc.nd da_nil) (dss_cons (ds_forI dc (di_sq (de_name 1)) (dg_tup dc.calm (dgs_cons (dg_name 4 sc.nd) (dgs_cons (dg_name 5 sc.nd) dgs_nil))) (dss_one (ds_forI dc (di_rng1 t.m_range (de_bin addG_ok opr_addG (de_name 2) de_int)) (dg_name 6 sc.nd) (dss_one (ds_app (de_name 3) (de_tup (da_cons (de_bin addG_ok opr_addG (de_bin addG_ok opr_addG (de_slp (de_name 4) do_no (do_so (de_name 6)) do_no) (de_tup (da_cons (de_name 2) da_nil))) (de_slp (de_name 4) (do_so (de_name 6)) do_no do_no)) (da_cons (de_bin mul_ok opr_mul (de_name 5) (de_bin sub_ok op_sub de_int (de_bin mul_ok opr_mul (de_bin fmod_ok op_modN (de_bin sub_ok op_sub (de_name 2) (de_name 6)) de_int) de_int))) da_nil)))))))) (dss_one (ds_set 1 sc.nd (de_name 3)))))) (dss_one (ds_ret (de_name 1))))))
noncomputable def den__law_plus : DenS := retS (fnD m__law_low 2 [] (consA (binD addF (binD mulF (binD ixF (nameD 0) (cD (.int 0))) (binD ixF (nameD 1) (cD (.int 1)))) (binD mulF (binD ixF (nameD 1) (cD (.int 0))) (binD ixF (nameD 0) (cD (.int 1))))) (consA (binD mulF (binD ixF (nameD 0) (cD (.int 1))) (binD ixF (nameD 1) (cD (.int 1)))) (nilA))))
noncomputable def m__law_plus : DenF := cutF (ofBody 2 den__law_plus)
theorem ok__law_plus {x : Tx} {P : Program} (t : TxOk P x) {w : World} {base : Heap} (tb : Tb x base) : FnD P w x.fx x.mg base 2 x.a__law_plus x.fd__law_plus ["one", "other"] m__law_plus := by
  have sc := sc__law_plus
  exact FnD.cut (fn_mk (k := 1) t.F__law_plus sc rfl fun cdv A outer s H E dc => (dss_one (ds_ret (de_call (k := 1) (ps := ["above", "below"]) (ok__law_low t tb) (dc.mono (by decide)) t.g__law_low t.F__law_low.kp t.b__law_low .nil (fun _ _ => rfl) (da_cons (de_bin add_ok opr_add (de_bin mul_ok opr_mul (de_ix (de_name 0) de_int) (de_ix (de_name 1) de_int)) (de_bin mul_ok opr_mul (de_ix (de_name 1) de_int) (de_ix (de_name 0) de_int))) (da_cons (de_bin mul_ok opr_mul (de_ix (de_name 0) de_int) (de_ix (de_name 1) de_int)) da_nil))))))
noncomputable def den__law_times : DenS := retS (fnD m__law_low 2 [] (consA (binD mulF (binD ixF (nameD 0) (cD (.int 0))) (binD ixF (nameD 1) (cD (.int 0)))) (consA (binD mulF (binD ixF (nameD 0) (cD (.int 1))) (binD ixF (nameD 1) (cD (.int 1)))) (nilA))))
noncomputable def m__law_times : DenF := cutF (ofBody 2 den__law_times)
theorem ok__law_times {x : Tx} {P : Program} (t : TxOk P x) {w : World} {base : Heap} (tb : Tb x base) : FnD P w x.fx x.mg base 2 x.a__law_times x.fd__law_times ["one", "other"] m__law_times := by
  have sc := sc__law_times
  exact FnD.cut (fn_mk (k := 1) t.F__law_times sc rfl fun cdv A outer s H E dc => (dss_one (ds_ret (de_call (k := 1) (ps := ["above", "below"]) (ok__law_low t tb) (dc.mono (by decide)) t.g__law_low t.F__law_low.kp t.b__law_low .nil (fun _ _ => rfl) (da_cons (de_bin mul_ok opr_mul (de_ix (de_name 0) de_int) (de_ix (de_name 1) de_int)) (da_cons (de_bin mul_ok opr_mul (de_ix (de_name 0) de_int) (de_ix (de_name 1) de_int)) da_nil))))))
noncomputable def den__law_minor : DenS := seqS (asgS 1 (tupD (consA (cD (.int 0)) (consA (cD (.int 1)) (nilA))))) (seqS (forI (tupG 2 (consG (nameG 2) (consG (nameG 3) (nilG)))) (itD (fnD m__law_orders 1 [] (consA (callD (lenF) (consA (nameD 0) (nilA))) (nilA)))) (seqS (asgS 4 (tupD (consA (nameD 3) (consA (cD (.int 1)) (nilA))))) (seqS (forI (tupG 2 (consG (nameG 5) (consG (nameG 6) (nilG)))) (zipD (consA (nameD 0) (consA (nameD 2) nilA))) (asgS 4 (fnD m__law_times 2 [] (consA (nameD 4) (consA (binD ixF (nameD 5) (nameD 6)) (nilA)))))) (asgS 1 (fnD m__law_plus 2 [] (consA (nameD 1) (consA (nameD 4) (nilA)))))))) (retS (nameD 1)))
noncomputable def m__law_minor : DenF := cutF (ofBody 7 den__law_minor)
theorem ok__law_minor {x : Tx} {P : Program} (t : TxOk P x) {w : World} {base : Heap} (tb : Tb x base) : FnD P w x.fx x.mg base 3 x.a__law_minor x.fd__law_minor ["grid"] m__law_minor := by
  have sc := sc__law_minor
  exact FnD.cut (fn_mk (k := 2) t.F__law_minor sc rfl fun cdv A outer s H E dc => (dss_cons (ds_set 1 sc.nd (de_tup (da_cons de_int (da_cons de_int da_nil)))) (dss_cons (ds_forI dc (di_sq (de_call (k := 1) (ps := ["size"]) (ok__law_orders t tb) (dc.mono (by decide)) t.g__law_orders t.F__law_orders.kp t.b__law_orders .nil (fun _ _ => rfl) (da_cons (de_callB len_ok call_len t.m_len (da_cons (de_name 0) da_nil)) da_nil))) (dg_tup dc.calm (dgs_cons (dg_name 2 sc.nd) (dgs_cons (dg_name 3 sc.nd) dgs_nil))) (dss_cons (ds_set 4 sc.nd (de_tup (da_cons (de_name 3) (da_cons de_int da_nil)))) (dss_cons (ds_forI dc (di_zip t.m_zip (de_name 0) (de_name 2)) (dg_tup dc.calm (dgs_cons (dg_name 5 sc.nd) (dgs_cons (dg_name 6 sc.nd) dgs_nil))) (dss_one (ds_set 4 sc.nd (de_call (k := 2) (ps := ["one", "other"]) (ok__law_times t tb) (dc.mono (by decide)) t.g__law_times t.F__law_times.kp t.b__law_times .nil (fun _ _ => rfl) (da_cons (de_name 4) (da_cons (de_ix (de_name 5) (de_name 6)) da_nil)))))) (dss_one (ds_set 1 sc.nd (de_call (k := 2) (ps := ["one", "other"]) (ok__law_plus t tb) (dc.mono (by decide)) t.g__law_plus t.F__law_plus.kp t.b__law_plus .nil (fun _ _ => rfl) (da_cons (de_name 1) (da_cons (de_name 4) da_nil)))))))) (dss_one (ds_ret (de_name 1))))))
noncomputable def den__law_great_right : DenS := seqS (asgS 2 (fnD m__law_cell 2 [] (consA (nameD 0) (consA (nameD 1) (nilA))))) (seqS (parS3 3 4 5 (binD addGF (cD (.int 6)) (binD fmodF (nameD 2) (cD (.int 2)))) (tupD (consA (cD (.int 1)) (consA (cD (.int 1)) (nilA)))) (cD (.int 1))) (seqS (ownS 6 (nilA)) (seqS (forI (tupG 2 (consG (nameG 7) (consG (nameG 8) (nilG)))) (enumD (consA (fnD m__law_entries 4 [] (consA (nameD 0) (consA (nameD 1) (consA (nameD 3) (consA (binD fmodF (binD fdivF (nameD 2) (cD (.int 2))) (cD (.int 3))) (nilA)))))) nilA)) (seqS (appS (nameD 6) (binD addGF (binD addGF (slpD (nameD 8) (noneO) (someO (nameD 7)) (noneO)) (tupD (consA (fnD m__law_low 2 [] (consA (binD addGF (cD (.int 1)) (binD fmodF (nameD 2) (cD (.int 9)))) (consA (binD addGF (cD (.int 1)) (nameD 7)) (nilA)))) (nilA)))) (binD mulTGF (tupD (consA (tupD (consA (cD (.int 0)) (consA (cD (.int 1)) (nilA)))) (nilA))) (binD subF (binD subF (nameD 3) (cD (.int 1))) (nameD 7))))) (asgS 4 (fnD m__law_times 2 [] (consA (nameD 4) (consA (binD ixF (binD ixF (nameD 6) (nameD 7)) (nameD 7)) (nilA))))))) (seqS (forI (nameG 7) (rng1 (consA (nameD 3) (nilA))) (seqS (parS 9 10 (binD fmodF (binD fdivF (nameD 2) (cD (.int 6))) (nameD 3)) (binD fmodF (fnD m__law_cell 2 [] (consA (nameD 0) (consA (nameD 1) (nilA)))) (nameD 3))) (seqS (asgS 2 (binD addGF (binD fdivF (nameD 2) (cD (.int 6))) (nameD 7))) (seqS (asgS 5 (brD (binD (eqGF) (nameD 9) (nameD 10)) (nameD 5) (binD subF (cD (.int 0)) (nameD 5)))) (seqS (parS 11 12 (binD ixF (nameD 6) (nameD 9)) (binD ixF (nameD 6) (nameD 10))) (seqS (asgG (nameD 12) (subG (nameD 6) (nameD 9))) (asgG (nameD 11) (subG (nameD 6) (nameD 10))))))))) (retS (binD (eqGF) (fnD m_minor 1 [] (consA (callD (tupcF) (consA (nameD 6) (nilA))) (nilA))) (tupD (consA (binD mulTGF (binD ixF (nameD 4) (cD (.int 0))) (nameD 5)) (consA (binD ixF (nameD 4) (cD (.int 1))) (nilA))))))))))
noncomputable def m__law_great_right : DenF := cutF (ofBody 13 den__law_great_right)
theorem ok__law_great_right {x : Tx} {P : Program} (t : TxOk P x) {w : World} {base : Heap} (tb : Tb x base) : FnD P w x.fx x.mg base 5 x.a__law_great_right x.fd__law_great_right ["cells", "spot"] m__law_great_right := by
  have sc := sc__law_great_right
  exact FnD.cut (fn_mk (k := 4) t.F__law_great_right sc rfl fun cdv A outer s H E dc => (dss_cons (ds_set 2 sc.nd (de_call (k := 1) (ps := ["cells", "spot"]) (ok__law_cell t tb) (dc.mono (by decide)) t.g__law_cell t.F__law_cell.kp t.b__law_cell .nil (fun _ _ => rfl) (da_cons (de_name 0) (da_cons (de_name 1) da_nil)))) (dss_cons (ds_par3 3 4 5 dc.calm sc.nd (de_bin addG_ok opr_addG de_int (de_bin fmod_ok op_modN (de_name 2) de_int)) (de_tup (da_cons de_int (da_cons de_int da_nil))) de_int) (dss_cons (ds_own 6 sc.nd da_nil) (dss_cons (ds_forI dc (di_enum t.m_enumerate (de_call (k := 2) (ps := ["cells", "spot", "size", "sort"]) (ok__law_entries t tb) (dc.mono (by decide)) t.g__law_entries t.F__law_entries.kp t.b__law_entries .nil (fun _ _ => rfl) (da_cons (de_name 0) (da_cons (de_name 1) (da_cons (de_name 3) (da_cons (de_bin fmod_ok op_modN (de_bin fdiv_ok opr_fdiv (de_name 2) de_int) de_int) da_nil)))))) (dg_tup dc.calm (dgs_cons (dg_name 7 sc.nd) (dgs_cons (dg_name 8 sc.nd) dgs_nil))) (dss_cons (ds_app (de_name 6) (de_bin addG_ok opr_addG (de_bin addG_ok opr_addG (de_slp (de_name 8) do_no (do_so (de_name 7)) do_no) (de_tup (da_cons (de_call (k := 1) (ps := ["above", "below"]) (ok__law_low t tb) (dc.mono (by decide)) t.g__law_low t.F__law_low.kp t.b__law_low .nil (fun _ _ => rfl) (da_cons (de_bin addG_ok opr_addG de_int (de_bin fmod_ok op_modN (de_name 2) de_int)) (da_cons (de_bin addG_ok opr_addG de_int (de_name 7)) da_nil))) da_nil))) (de_bin mulTG_ok opr_mulTG (de_tup (da_cons (de_tup (da_cons de_int (da_cons de_int da_nil))) da_nil)) (de_bin sub_ok op_sub (de_bin sub_ok op_sub (de_name 3) de_int) (de_name 7))))) (dss_one (ds_set 4 sc.nd (de_call (k := 2) (ps := ["one", "other"]) (ok__law_times t tb) (dc.mono (by decide)) t.g__law_times t.F__law_times.kp t.b__law_times .nil (fun _ _ => rfl) (da_cons (de_name 4) (da_cons (de_ix (de_ix (de_name 6) (de_name 7)) (de_name 7)) da_nil))))))) (dss_cons (ds_forI dc (di_rng1 t.m_range (de_name 3)) (dg_name 7 sc.nd) (dss_cons (ds_par 9 10 dc.calm sc.nd (de_bin fmod_ok op_modN (de_bin fdiv_ok opr_fdiv (de_name 2) de_int) (de_name 3)) (de_bin fmod_ok op_modN (de_call (k := 1) (ps := ["cells", "spot"]) (ok__law_cell t tb) (dc.mono (by decide)) t.g__law_cell t.F__law_cell.kp t.b__law_cell .nil (fun _ _ => rfl) (da_cons (de_name 0) (da_cons (de_name 1) da_nil))) (de_name 3))) (dss_cons (ds_set 2 sc.nd (de_bin addG_ok opr_addG (de_bin fdiv_ok opr_fdiv (de_name 2) de_int) (de_name 7))) (dss_cons (ds_set 5 sc.nd (de_ifExp (dt_cmp eqG_ok (opr_eqG dc.u64) (de_name 9) (de_name 10) (nomark _)) (de_name 5) (de_bin sub_ok op_sub de_int (de_name 5)))) (dss_cons (ds_par 11 12 dc.calm sc.nd (de_ix (de_name 6) (de_name 9)) (de_ix (de_name 6) (de_name 10))) (dss_cons (ds_asg (de_name 12) (dg_sub (de_name 6) (de_name 9))) (dss_one (ds_asg (de_name 11) (dg_sub (de_name 6) (de_name 10)))))))))) (dss_one (ds_ret (de_cmp eqG_ok (opr_eqG dc.u64) (de_call (k := 4) (ps := ["rows"]) (ok_minor t tb) (dc.mono (by decide)) t.g_minor t.F_minor.kp t.b_minor .nil (fun _ _ => rfl) (da_cons (de_callTy tupc_ok callr_tuple t.m_tuple (da_cons (de_name 6) da_nil)) da_nil)) (de_tup (da_cons (de_bin mulTG_ok opr_mulTG (de_ix (de_name 4) de_int) (de_name 5)) (da_cons (de_ix (de_name 4) de_int) da_nil))) (nomark _))))))))))
noncomputable def den__law_turned : DenS := seqS (ownS 1 (nilA)) (seqS (forI (nameG 2) (rng1 (consA (callD (lenF) (consA (nameD 0) (nilA))) (nilA))) (appS (nameD 1) (callD (tupcF) (consA (cutE (compD (set1 3) (cD (.bl true)) (binD ixF (nameD 3) (nameD 2)) [3] (itD (nameD 0)))) (nilA))))) (retS (callD (tupcF) (consA (nameD 1) (nilA)))))
noncomputable def m__law_turned : DenF := cutF (ofBody 4 den__law_turned)
theorem ok__law_turned {x : Tx} {P : Program} (t : TxOk P x) {w : World} {base : Heap} (tb : Tb x base) : FnD P w x.fx x.mg base 1 x.a__law_turned x.fd__law_turned ["grid"] m__law_turned := by
  have sc := sc__law_turned
  exact FnD.cut (fn_mk (k := 0) t.F__law_turned sc rfl fun cdv A outer s H E dc => (dss_cons (ds_own 1 sc.nd da_nil) (dss_cons (ds_forI dc (di_rng1 t.m_range (de_callB len_ok call_len t.m_len (da_cons (de_name 0) da_nil))) (dg_name 2 sc.nd) (dss_one (ds_app (de_name 1) (de_callTy tupc_ok callr_tuple t.m_tuple (da_cons (de_cut (de_comp (own := [("row", 3)]) dc sc.nd (di_sq (de_name 0)) (blkOk_by (own := [("row", 3)]) (by rfl)) (fun _ _ _ _ _ => pg_name sc.nd (i := 3) rfl (by first | exact Or.inl rfl | exact Or.inr rfl) (by first | exact .inl rfl | exact .inr rfl)) (tg1 (vs := [3]) (by decide)) (fun _ _ _ _ _ _ => pts_yes) (fun _ _ _ _ _ dc => (de_ix (de_name 3) (de_name 2))))) da_nil))))) (dss_one (ds_ret (de_callTy tupc_ok callr_tuple t.m_tuple (da_cons (de_name 1) da_nil)))))))
noncomputable def den__law_is_refused : DenS := seqS (asgS 1 (cD .non)) (seqS (tryS 2 catT_HollowError (dropS (fnD m_minor 1 [] (consA (nameD 0) (nilA)))) (asgS 1 (nameD 2))) (retS (andD (callD (isiB subT) (consA (nameD 1) (consA (cD (.cls "BadRows")) (nilA)))) (unD notF (callD (isiB subT) (consA (nameD 1) (consA (tupD (consA (cD (.cls "BadField")) (consA (cD (.cls "BadFraction")) (consA (cD (.cls "BadTable")) (nilA))))) (nilA))))))))
noncomputable def m__law_is_refused : DenF := cutF (ofBody 3 den__law_is_refused)
theorem ok__law_is_refused {x : Tx} {P : Program} (t : TxOk P x) {w : World} {base : Heap} (tb : Tb x base) : FnD P w x.fx x.mg base 5 x.a__law_is_refused x.fd__law_is_refused ["thing"] m__law_is_refused := by
  have sc := sc__law_is_refused
  exact FnD.cut (fn_mk (k := 4) t.F__law_is_refused sc rfl fun cdv A outer s H E dc => (dss_cons (ds_set 1 sc.nd de_non) (dss_cons (ds_try 2 catT_HollowError dc rfl rfl rfl sc.nd rfl rfl (cla_name (c := .ref x.C_HollowError) (ct := x.cv_HollowError) ⟨rfl, rfl, .inl t.g_HollowError⟩ (fun _ => of_decide_eq_true)) t.hcat_HollowError (fun W1 pn1 xe1 dc => (dss_one (ds_expr (de_call (k := 4) (ps := ["rows"]) (ok_minor t tb) (dc.mono (by decide)) t.g_minor t.F_minor.kp t.b_minor .nil (fun _ _ => rfl) (da_cons (de_name 0) da_nil))))) (fun a1 pn1 => (dss_one (ds_set 1 sc.nd (de_name 2))))) (dss_one (ds_ret (de_and (de_callB (isiB_ok t.h_sub t.sub_cls) callr_isiAll t.m_isinstance (da_cons (de_name 1) (da_cons (de_own "BadRows" (t.h_cl_BadRows) t.g_BadRows) da_nil))) (de_one (de_not (de_callB (isiB_ok t.h_sub t.sub_cls) callr_isiAll t.m_isinstance (da_cons (de_name 1) (da_cons (de_tup (da_cons (de_own "BadField" (t.h_cl_BadField) t.g_BadField) (da_cons (de_own "BadFraction" (t.h_cl_BadFraction) t.g_BadFraction) (da_cons (de_own "BadTable" (t.h_cl_BadTable) t.g_BadTable) da_nil)))) da_nil)))))))))))
noncomputable def den__law_bent : DenS := seqS (parS 2 3 (callD (lenF) (consA (nameD 0) (nilA))) (lstD (consA (cD .non) (consA (cD (.int 1)) (consA (tupD (consA (cD (.int 1)) (consA (cD (.int 0)) (nilA)))) (consA (tupD (consA (cD (.int 2)) (consA (cD (.int 4)) (nilA)))) (consA (tupD (consA (cD (.int 0)) (consA (cD (.int 2)) (nilA)))) (consA (tupD (consA (cD (.int 1)) (consA (unD negF (cD (.int 2))) (nilA)))) (consA (tupD (consA (cD (.bl true)) (consA (cD (.int 1)) (nilA)))) (consA (lstD (consA (cD (.int 1)) (consA (cD (.int 1)) (nilA)))) (consA (cD (.str "1")) (consA (tupD (consA (cD (.int 1)) (nilA))) (nilA))))))))))))) (seqS (parS3 4 5 6 (binD fmodF (nameD 1) (nameD 2)) (binD fmodF (binD fdivF (nameD 1) (cD (.int 7))) (nameD 2)) (binD ixF (nameD 3) (binD fmodF (binD fdivF (nameD 1) (cD (.int 49))) (cD (.int 10))))) (seqS (asgS 7 (binD ixF (nameD 0) (nameD 4))) (seqS (ownS 8 (consA (binD addGF (binD addGF (slpD (nameD 0) (noneO) (someO (nameD 4)) (noneO)) (tupD (consA (binD addGF (binD addGF (slpD (nameD 7) (noneO) (someO (nameD 5)) (noneO)) (tupD (consA (nameD 6) (nilA)))) (slpD (nameD 7) (someO (binD addGF (nameD 5) (cD (.int 1)))) (noneO) (noneO))) (nilA)))) (slpD (nameD 0) (someO (binD addGF (nameD 4) (cD (.int 1)))) (noneO) (noneO))) (nilA))) (seqS (appS (nameD 8) (binD addGF (binD addGF (slpD (nameD 0) (noneO) (someO (nameD 4)) (noneO)) (tupD (consA (callD (lstcF) (consA (nameD 7) (nilA))) (nilA)))) (slpD (nameD 0) (someO (binD addGF (nameD 4) (cD (.int 1)))) (noneO) (noneO)))) (seqS (ownAddS 8 (nameD 8) (lstD (consA (binD addGF (binD addGF (slpD (nameD 0) (noneO) (someO (nameD 4)) (noneO)) (tupD (consA (binD addGF (nameD 7) (slpD (nameD 7) (noneO) (someO (cD (.int 1))) (noneO))) (nilA)))) (slpD (nameD 0) (someO (binD addGF (nameD 4) (cD (.int 1)))) (noneO) (noneO))) (consA (binD addGF (binD addGF (slpD (nameD 0) (noneO) (someO (nameD 4)) (noneO)) (tupD (consA (slpD (nameD 7) (someO (cD (.int 1))) (noneO) (noneO)) (nilA)))) (slpD (nameD 0) (someO (binD addGF (nameD 4) (cD (.int 1)))) (noneO) (noneO))) (consA (callD (lstcF) (consA (nameD 0) (nilA))) (nilA)))))) (seqS (ownAddS 8 (nameD 8) (lstD (consA (binD addGF (nameD 0) (slpD (nameD 0) (noneO) (someO (cD (.int 1))) (noneO))) (consA (callD (tupcF) (consA (binD mulF (lstD (consA (tupD (consA (cD (.int 1)) (consA (cD (.int 1)) (nilA)))) (nilA))) (nameD 2)) (nilA))) (consA (cD .non) (consA (cD (.int 5)) (consA (cD (.str "")) (consA (lstD (nilA)) (consA (empD) (consA (tupD (consA (tupD (nilA)) (nilA))) (consA (binD mulTF (tupD (consA (binD mulTF (tupD (consA (tupD (consA (cD (.int 1)) (consA (cD (.int 1)) (nilA)))) (nilA))) (cD (.int 8))) (nilA))) (cD (.int 8))) (consA (tupD (consA (nameD 0) (nilA))) (nilA))))))))))))) (retS (binD ixF (nameD 8) (binD fmodF (binD fdivF (nameD 1) (cD (.int 490))) (cD (.int 15)))))))))))
noncomputable def m__law_bent : DenF := cutF (ofBody 9 den__law_bent)
theorem ok__law_bent {x : Tx} {P : Program} (t : TxOk P x) {w : World} {base : Heap} (tb : Tb x base) : FnD P w x.fx x.mg base 1 x.a__law_bent x.fd__law_bent ["grid", "n"] m__law_bent := by
  have sc := sc__law_bent
  exact FnD.cut (fn_mk (k := 0) t.F__law_bent sc rfl fun cdv A outer s H E dc => (dss_cons (ds_par 2 3 dc.calm sc.nd (de_callB len_ok call_len t.m_len (da_cons (de_name 0) da_nil)) (de_lst (da_cons de_non (da_cons de_int (da_cons (de_tup (da_cons de_int (da_cons de_int da_nil))) (da_cons (de_tup (da_cons de_int (da_cons de_int da_nil))) (da_cons (de_tup (da_cons de_int (da_cons de_int da_nil))) (da_cons (de_tup (da_cons de_int (da_cons (de_un neg_ok un_neg de_int) da_nil))) (da_cons (de_tup (da_cons de_bl (da_cons de_int da_nil))) (da_cons (de_lst (da_cons de_int (da_cons de_int da_nil))) (da_cons de_str (da_cons (de_tup (da_cons de_int da_nil)) da_nil)))))))))))) (dss_cons (ds_par3 4 5 6 dc.calm sc.nd (de_bin fmod_ok op_modN (de_name 1) (de_name 2)) (de_bin fmod_ok op_modN (de_bin fdiv_ok opr_fdiv (de_name 1) de_int) (de_name 2)) (de_ix (de_name 3) (de_bin fmod_ok op_modN (de_bin fdiv_ok opr_fdiv (de_name 1) de_int) de_int))) (dss_cons (ds_set 7 sc.nd (de_ix (de_name 0) (de_name 4))) (dss_cons (ds_own 8 sc.nd (da_cons (de_bin addG_ok opr_addG (de_bin addG_ok opr_addG (de_slp (de_name 0) do_no (do_so (de_name 4)) do_no) (de_tup (da_cons (de_bin addG_ok opr_addG (de_bin addG_ok opr_addG (de_slp (de_name 7) do_no (do_so (de_name 5)) do_no) (de_tup (da_cons (de_name 6) da_nil))) (de_slp (de_name 7) (do_so (de_bin addG_ok opr_addG (de_name 5) de_int)) do_no do_no)) da_nil))) (de_slp (de_name 0) (do_so (de_bin addG_ok opr_addG (de_name 4) de_int)) do_no do_no)) da_nil)) (dss_cons (ds_app (de_name 8) (de_bin addG_ok opr_addG (de_bin addG_ok opr_addG (de_slp (de_name 0) do_no (do_so (de_name 4)) do_no) (de_tup (da_cons (de_callTy lstc_ok callr_list t.m_list (da_cons (de_name 7) da_nil)) da_nil))) (de_slp (de_name 0) (do_so (de_bin addG_ok opr_addG (de_name 4) de_int)) do_no do_no))) (dss_cons (ds_ownAdd 8 sc.nd (de_name 8) (de_lst (da_cons (de_bin addG_ok opr_addG (de_bin addG_ok opr_addG (de_slp (de_name 0) do_no (do_so (de_name 4)) do_no) (de_tup (da_cons (de_bin addG_ok opr_addG (de_name 7) (de_slp (de_name 7) do_no (do_so de_int) do_no)) da_nil))) (de_slp (de_name 0) (do_so (de_bin addG_ok opr_addG (de_name 4) de_int)) do_no do_no)) (da_cons (de_bin addG_ok opr_addG (de_bin addG_ok opr_addG (de_slp (de_name 0) do_no (do_so (de_name 4)) do_no) (de_tup (da_cons (de_slp (de_name 7) (do_so de_int) do_no do_no) da_nil))) (de_slp (de_name 0) (do_so (de_bin addG_ok opr_addG (de_name 4) de_int)) do_no do_no)) (da_cons (de_callTy lstc_ok callr_list t.m_list (da_cons (de_name 0) da_nil)) da_nil))))) (dss_cons (ds_ownAdd 8 sc.nd (de_name 8) (de_lst (da_cons (de_bin addG_ok opr_addG (de_name 0) (de_slp (de_name 0) do_no (do_so de_int) do_no)) (da_cons (de_callTy tupc_ok callr_tuple t.m_tuple (da_cons (de_bin mul_ok opr_mul (de_lst (da_cons (de_tup (da_cons de_int (da_cons de_int da_nil))) da_nil)) (de_name 2)) da_nil)) (da_cons de_non (da_cons de_int (da_cons de_str (da_cons (de_lst da_nil) (da_cons de_emp (da_cons (de_tup (da_cons (de_tup da_nil) da_nil)) (da_cons (de_bin mulT_ok opr_mulT (de_tup (da_cons (de_bin mulT_ok opr_mulT (de_tup (da_cons (de_tup (da_cons de_int (da_cons de_int da_nil))) da_nil)) de_int) da_nil)) de_int) (da_cons (de_tup (da_cons (de_name 0) da_nil)) da_nil)))))))))))) (dss_one (ds_ret (de_ix (de_name 8) (de_bin fmod_ok op_modN (de_bin fdiv_ok opr_fdiv (de_name 1) de_int) de_int))))))))))))
noncomputable def den_law : DenS := seqS (ownS 1 (consA (cD (.int 0)) (nilA))) (seqS (forI (nameG 2) (rng1 (consA (binD addGF (cD (.int 3)) (callD (minF) (consA (cD (.int 4)) (consA (binD fdivF (callD (lenF) (consA (nameD 0) (nilA))) (cD (.int 4))) (nilA))))) (nilA))) (seqS (asgS 3 (fnD m__law_cell 2 [] (consA (nameD 0) (consA (nameD 1) (nilA))))) (seqS (asgS 4 (fnD m__law_entries 4 [] (consA (nameD 0) (consA (nameD 1) (consA (binD fmodF (nameD 3) (cD (.int 6))) (consA (binD fmodF (binD fdivF (nameD 3) (cD (.int 6))) (cD (.int 5))) (nilA))))))) (seqS (parS 5 6 (fnD m__law_minor 1 [] (consA (nameD 4) (nilA))) (callD (reprGF) (consA (nameD 4) (nilA)))) (seqS (ifS (orD (binD (neGF) (callD (reprGF) (consA (lstD (consA (fnD m_minor 1 [] (consA (nameD 4) (nilA))) (consA (fnKD m_minor 0 1 1 [0] nilA (consA (nameD 4) (nilA))) (nilA)))) (nilA))) (callD (reprGF) (consA (lstD (consA (nameD 5) (consA (nameD 5) (nilA)))) (nilA)))) (binD (neGF) (fnD m_minor 1 [] (consA (fnD m__law_turned 1 [] (consA (nameD 4) (nilA))) (nilA))) (nameD 5))) (retS (cD (.bl false))) (nilS)) (seqS (ifS (andD (binD (gtF) (callD (lenF) (consA (nameD 4) (nilA))) (cD (.int 1))) (binD (neGF) (fnD m_minor 1 [] (consA (binD addGF (slpD (nameD 4) (someO (cD (.int 1))) (noneO) (someO (unD negF (cD (.int 1))))) (slpD (nameD 4) (someO (cD (.int 2))) (noneO) (noneO))) (nilA))) (tupD (consA (binD subF (cD (.int 0)) (binD ixF (nameD 5) (cD (.int 0)))) (consA (binD ixF (nameD 5) (cD (.int 1))) (nilA)))))) (retS (cD (.bl false))) (nilS)) (ifS (orD (andD (binD (neGF) (nameD 4) (tupD (nilA))) (unD notF (tstD (fnD m__law_is_refused 1 [] (consA (fnD m__law_bent 2 [] (consA (nameD 4) (consA (binD fdivF (nameD 3) (cD (.int 30))) (nilA)))) (nilA)))))) (binD (neGF) (callD (reprGF) (consA (nameD 4) (nilA))) (nameD 6))) (retS (cD (.bl false))) (nilS)))))))) (seqS (asgS 3 (fnD m__law_cell 2 [] (consA (nameD 0) (consA (nameD 1) (nilA))))) (seqS (asgS 4 (fnD m__law_entries 4 [] (consA (nameD 0) (consA (nameD 1) (consA (binD addGF (cD (.int 6)) (callD (intcF) (consA (binD (eqGF) (binD fmodF (nameD 3) (cD (.int 8))) (cD (.int 0))) (nilA)))) (consA (binD fmodF (binD fdivF (nameD 3) (cD (.int 8))) (cD (.int 3))) (nilA))))))) (seqS (ifS (binD (neGF) (fnD m_minor 1 [] (consA (nameD 4) (nilA))) (fnD m__law_minor 1 [] (consA (nameD 4) (nilA)))) (retS (cD (.bl false))) (nilS)) (retS (andD (fnD m__law_great_right 2 [] (consA (nameD 0) (consA (nameD 1) (nilA)))) (binD (eqGF) (callD (reprGF) (consA (fnD m_minor 1 [] (consA (tupD (nilA)) (nilA))) (nilA))) (cD (.str "(1, 1)")))))))))
noncomputable def m_law : DenF := cutF (ofBody 7 den_law)
theorem ok_law {x : Tx} {P : Program} (t : TxOk P x) {w : World} {base : Heap} (tb : Tb x base) : FnD P w x.fx x.mg base 6 x.a_law x.fd_law ["script"] m_law := by
  have sc := sc_law
  exact FnD.cut (fn_mk (k := 5) t.F_law sc rfl fun cdv A outer s H E dc => (dss_cons (ds_own 1 sc.nd (da_cons de_int da_nil)) (dss_cons (ds_forI dc (di_rng1 t.m_range (de_bin addG_ok opr_addG de_int (de_callB int2_ok (call_min2 dc.calm) t.m_min (da_cons de_int (da_cons (de_bin fdiv_ok opr_fdiv (de_callB len_ok call_len t.m_len (da_cons (de_name 0) da_nil)) de_int) da_nil))))) (dg_name 2 sc.nd) (dss_cons (ds_set 3 sc.nd (de_call (k := 1) (ps := ["cells", "spot"]) (ok__law_cell t tb) (dc.mono (by decide)) t.g__law_cell t.F__law_cell.kp t.b__law_cell .nil (fun _ _ => rfl) (da_cons (de_name 0) (da_cons (de_name 1) da_nil)))) (dss_cons (ds_set 4 sc.nd (de_call (k := 2) (ps := ["cells", "spot", "size", "sort"]) (ok__law_entries t tb) (dc.mono (by decide)) t.g__law_entries t.F__law_entries.kp t.b__law_entries .nil (fun _ _ => rfl) (da_cons (de_name 0) (da_cons (de_name 1) (da_cons (de_bin fmod_ok op_modN (de_name 3) de_int) (da_cons (de_bin fmod_ok op_modN (de_bin fdiv_ok opr_fdiv (de_name 3) de_int) de_int) da_nil)))))) (dss_cons (ds_par 5 6 dc.calm sc.nd (de_call (k := 3) (ps := ["grid"]) (ok__law_minor t tb) (dc.mono (by decide)) t.g__law_minor t.F__law_minor.kp t.b__law_minor .nil (fun _ _ => rfl) (da_cons (de_name 4) da_nil)) (de_callB reprG_ok (callr_reprE dc.gd dc.u64) t.m_repr (da_cons (de_name 4) da_nil))) (dss_cons (ds_if (DW.dt (dw_or (dt_cmp neG_ok (opr_neG dc.u64) (de_callB reprG_ok (callr_reprE dc.gd dc.u64) t.m_repr (da_cons (de_lst (da_cons (de_call (k := 4) (ps := ["rows"]) (ok_minor t tb) (dc.mono (by decide)) t.g_minor t.F_minor.kp t.b_minor .nil (fun _ _ => rfl) (da_cons (de_name 4) da_nil)) (da_cons (de_callKw0 (is := [0]) (ks := ["rows"]) (k := 4) (ps := ["rows"]) (ok_minor t tb) (dc.mono (by decide)) t.g_minor t.F_minor.kp t.kb_minor_0 (dk_cons (de_name 4) dk_nil)) da_nil))) da_nil)) (de_callB reprG_ok (callr_reprE dc.gd dc.u64) t.m_repr (da_cons (de_lst (da_cons (de_name 5) (da_cons (de_name 5) da_nil))) da_nil)) (nomark _)) (dw_or1 (dt_cmp neG_ok (opr_neG dc.u64) (de_call (k := 4) (ps := ["rows"]) (ok_minor t tb) (dc.mono (by decide)) t.g_minor t.F_minor.kp t.b_minor .nil (fun _ _ => rfl) (da_cons (de_call (k := 1) (ps := ["grid"]) (ok__law_turned t tb) (dc.mono (by decide)) t.g__law_turned t.F__law_turned.kp t.b__law_turned .nil (fun _ _ => rfl) (da_cons (de_name 4) da_nil)) da_nil)) (de_name 5) (nomark _))))) (dss_one (ds_ret de_bl)) dss_nil) (dss_cons (ds_if (DW.dt (dw_and (dt_cmp gt_ok op_gt (de_callB len_ok call_len t.m_len (da_cons (de_name 4) da_nil)) de_int (nomark _)) (dw_and1 (dt_cmp neG_ok (opr_neG dc.u64) (de_call (k := 4) (ps := ["rows"]) (ok_minor t tb) (dc.mono (by decide)) t.g_minor t.F_minor.kp t.b_minor .nil (fun _ _ => rfl) (da_cons (de_bin addG_ok opr_addG (de_slp (de_name 4) (do_so de_int) do_no (do_so (de_un neg_ok un_neg de_int))) (de_slp (de_name 4) (do_so de_int) do_no do_no)) da_nil)) (de_tup (da_cons (de_bin sub_ok op_sub de_int (de_ix (de_name 5) de_int)) (da_cons (de_ix (de_name 5) de_int) da_nil))) (nomark _))))) (dss_one (ds_ret de_bl)) dss_nil) (dss_one (ds_if (DW.dt (dw_or (DW.dt (dw_and (dt_cmp neG_ok (opr_neG dc.u64) (de_name 4) (de_tup da_nil) (nomark _)) (dw_and1 (dt_not (dt_v (de_call (k := 5) (ps := ["thing"]) (ok__law_is_refused t tb) (dc.mono (by decide)) t.g__law_is_refused t.F__law_is_refused.kp t.b__law_is_refused .nil (fun _ _ => rfl) (da_cons (de_call (k := 1) (ps := ["grid", "n"]) (ok__law_bent t tb) (dc.mono (by decide)) t.g__law_bent t.F__law_bent.kp t.b__law_bent .nil (fun _ _ => rfl) (da_cons (de_name 4) (da_cons (de_bin fdiv_ok opr_fdiv (de_name 3) de_int) da_nil))) da_nil))))))) (dw_or1 (dt_cmp neG_ok (opr_neG dc.u64) (de_callB reprG_ok (callr_reprE dc.gd dc.u64) t.m_repr (da_cons (de_name 4) da_nil)) (de_name 6) (nomark _))))) (dss_one (ds_ret de_bl)) dss_nil)))))))) (dss_cons (ds_set 3 sc.nd (de_call (k := 1) (ps := ["cells", "spot"]) (ok__law_cell t tb) (dc.mono (by decide)) t.g__law_cell t.F__law_cell.kp t.b__law_cell .nil (fun _ _ => rfl) (da_cons (de_name 0) (da_cons (de_name 1) da_nil)))) (dss_cons (ds_set 4 sc.nd (de_call (k := 2) (ps := ["cells", "spot", "size", "sort"]) (ok__law_entries t tb) (dc.mono (by decide)) t.g__law_entries t.F__law_entries.kp t.b__law_entries .nil (fun _ _ => rfl) (da_cons (de_name 0) (da_cons (de_name 1) (da_cons (de_bin addG_ok opr_addG de_int (de_callTy intc_ok call_int1 t.m_int (da_cons (de_cmp eqG_ok (opr_eqG dc.u64) (de_bin fmod_ok op_modN (de_name 3) de_int) de_int (nomark _)) da_nil))) (da_cons (de_bin fmod_ok op_modN (de_bin fdiv_ok opr_fdiv (de_name 3) de_int) de_int) da_nil)))))) (dss_cons (ds_if (dt_cmp neG_ok (opr_neG dc.u64) (de_call (k := 4) (ps := ["rows"]) (ok_minor t tb) (dc.mono (by decide)) t.g_minor t.F_minor.kp t.b_minor .nil (fun _ _ => rfl) (da_cons (de_name 4) da_nil)) (de_call (k := 3) (ps := ["grid"]) (ok__law_minor t tb) (dc.mono (by decide)) t.g__law_minor t.F__law_minor.kp t.b__law_minor .nil (fun _ _ => rfl) (da_cons (de_name 4) da_nil)) (nomark _)) (dss_one (ds_ret de_bl)) dss_nil) (dss_one (ds_ret (de_and (de_call (k := 5) (ps := ["cells", "spot"]) (ok__law_great_right t tb) (dc.mono (by decide)) t.g__law_great_right t.F__law_great_right.kp t.b__law_great_right .nil (fun _ _ => rfl) (da_cons (de_name 0) (da_cons (de_name 1) da_nil))) (de_one (de_cmp eqG_ok (opr_eqG dc.u64) (de_callB reprG_ok (callr_reprE dc.gd dc.u64) t.m_repr (da_cons (de_call (k := 4) (ps := ["rows"]) (ok_minor t tb) (dc.mono (by decide)) t.g_minor t.F_minor.kp t.b_minor .nil (fun _ _ => rfl) (da_cons (de_tup da_nil) da_nil)) da_nil)) de_str (nomark _))))))))))))
end K62
namespace K62
abbrev Mx := Nat → Nat → Rat
def sumN : Nat → (Nat → Rat) → Rat
  | 0, _ => 0
  | n + 1, f => sumN n f + f n
def sgn (k : Nat) : Rat := if k % 2 = 0 then 1 else -1
def rm (i : Nat) (A : Mx) : Mx := fun r c => if r < i then A r c else A (r + 1) c
def det : Nat → Mx → Rat
  | 0, _ => 1
  | n + 1, A => sumN (n + 1) fun i => sgn (n - i) * A i n * det n (rm i A)
theorem sum_congr {n : Nat} {f g : Nat → Rat} (h : ∀ i, i < n → f i = g i) : sumN n f = sumN n g := by
  induction n with
  | zero => rfl
  | succ n ih =>
    show sumN n f + f n = sumN n g + g n
    rw [ih fun i hi => h i (by omega), h n (by omega)]
theorem sum_zero {n : Nat} {f : Nat → Rat} (h : ∀ i, i < n → f i = 0) : sumN n f = 0 := by
  induction n with
  | zero => rfl
  | succ n ih =>
    show sumN n f + f n = 0
    rw [ih fun i hi => h i (by omega), h n (by omega)]
    exact Rat.add_zero 0
theorem sum_lin {n : Nat} {f g : Nat → Rat} {a b : Rat} : sumN n (fun i => a * f i + b * g i) = a * sumN n f + b * sumN n g := by
  induction n with
  | zero => show (0 : Rat) = a * 0 + b * 0; grind
  | succ n ih =>
    show sumN n (fun i => a * f i + b * g i) + (a * f n + b * g n) = a * (sumN n f + f n) + b * (sumN n g + g n)
    rw [ih]
    grind
theorem sum_two {n i : Nat} {f : Nat → Rat} (hi : i + 1 < n) (h : ∀ j, j < n → j ≠ i → j ≠ i + 1 → f j = 0) (h2 : f i + f (i + 1) = 0) : sumN n f = 0 := by
  induction n with
  | zero => omega
  | succ n ih =>
    show sumN n f + f n = 0
    by_cases c : i + 1 = n
    · subst c
      show sumN i f + f i + f (i + 1) = 0
      rw [sum_zero fun j hj => h j (by omega) (by omega) (by omega)]
      grind
    · rw [ih (by omega) fun j hj => h j (by omega), h n (by omega) (by omega) (by omega)]
      exact Rat.add_zero 0
theorem sum_one {n i : Nat} {f : Nat → Rat} (hi : i < n) (h : ∀ j, j < n → j ≠ i → f j = 0) : sumN n f = f i := by
  induction n with
  | zero => omega
  | succ n ih =>
    show sumN n f + f n = f i
    by_cases c : i = n
    · subst c
      rw [sum_zero fun j hj => h j (by omega) (by omega)]
      grind
    · rw [ih (by omega) fun j hj => h j (by omega), h n (by omega) (by omega)]
      grind
theorem det_congr : ∀ {n : Nat} {A B : Mx}, (∀ r c, r < n → c < n → A r c = B r c) → det n A = det n B
  | 0, _, _, _ => rfl
  | n + 1, A, B, h => by
    show sumN (n + 1) _ = sumN (n + 1) _
    refine sum_congr fun i hi => ?_
    rw [h i n (by omega) (by omega), det_congr (A := rm i A) (B := rm i B) fun r c hr hc => ?_]
    unfold rm
    by_cases q : r < i
    · rw [if_pos q, if_pos q]
      exact h r c (by omega) (by omega)
    · rw [if_neg q, if_neg q]
      exact h (r + 1) c (by omega) (by omega)
/-- linear in each row -/
theorem det_row : ∀ {n p : Nat} {A B C : Mx} {a b : Rat}, p < n → (∀ c, c < n → A p c = a * B p c + b * C p c) → (∀ r c, r < n → c < n → r ≠ p → A r c = B r c ∧ A r c = C r c) → det n A = a * det n B + b * det n C
  | 0, _, _, _, _, _, _, h, _, _ => absurd h (Nat.not_lt_zero _)
  | n + 1, p, A, B, C, a, b, hp, h1, h2 => by
    show sumN (n + 1) _ = a * sumN (n + 1) _ + b * sumN (n + 1) _
    rw [← sum_lin]
    refine sum_congr fun i hi => ?_
    by_cases c : i = p
    · subst c
      have e1 : det n (rm i A) = det n (rm i B) := det_congr fun r c hr hc => by
        unfold rm
        by_cases q : r < i
        · rw [if_pos q, if_pos q]
          exact (h2 r c (by omega) (by omega) (by omega)).1
        · rw [if_neg q, if_neg q]
          exact (h2 (r + 1) c (by omega) (by omega) (by omega)).1
      have e2 : det n (rm i A) = det n (rm i C) := det_congr fun r c hr hc => by
        unfold rm
        by_cases q : r < i
        · rw [if_pos q, if_pos q]
          exact (h2 r c (by omega) (by omega) (by omega)).2
        · rw [if_neg q, if_neg q]
          exact (h2 (r + 1) c (by omega) (by omega) (by omega)).2
      rw [h1 n (by omega), ← e1, ← e2]
      grind
    · have e0 := h2 i n hi (by omega) c
      have e1 : det n (rm i A) = a * det n (rm i B) + b * det n (rm i C) := by
        refine det_row (p := if p < i then p else p - 1) (by split <;> omega) (fun x hx => ?_) fun r x hr hx hne => ?_
        · unfold rm
          by_cases q : p < i
          · rw [if_pos q, if_pos q, if_pos q, if_pos q]
            exact h1 x (by omega)
          · rw [if_neg q, if_neg (by omega), if_neg (by omega), if_neg (by omega), show p - 1 + 1 = p by omega]
            exact h1 x (by omega)
        · unfold rm
          by_cases q : r < i
          · (rw [if_pos q, if_pos q, if_pos q])
            exact h2 r x (by omega) (by omega) (by split at hne <;> omega)
          · (rw [if_neg q, if_neg q, if_neg q])
            exact h2 (r + 1) x (by omega) (by omega) (by split at hne <;> omega)
      rw [e1, ← e0.1, ← e0.2]
      grind
theorem det_zero_row {n p : Nat} {A : Mx} (hp : p < n) (h : ∀ c, c < n → A p c = 0) : det n A = 0 := by
  have := det_row (n := n) (p := p) (A := A) (B := A) (C := A) (a := 0) (b := 0) hp (fun c hc => by rw [h c hc]; grind) (fun r c _ _ _ => ⟨rfl, rfl⟩)
  grind
theorem sgn_succ {k : Nat} : sgn (k + 1) = - sgn k := by
  unfold sgn
  by_cases c : k % 2 = 0
  · rw [if_pos c, if_neg (by omega)]
  · rw [if_neg c, if_pos (by omega)]
    grind
/-- two rows alike, one upon the other -/
theorem det_adj : ∀ {n p : Nat} {A : Mx}, p + 1 < n → (∀ c, c < n → A p c = A (p + 1) c) → det n A = 0
  | 0, _, _, h, _ => absurd h (Nat.not_lt_zero _)
  | n + 1, p, A, hp, h => by
    refine sum_two hp (fun j hj n1 n2 => ?_) ?_
    · have : det n (rm j A) = 0 := by
        by_cases q : j < p
        · refine det_adj (p := p - 1) (by omega) fun c hc => ?_
          unfold rm
          rw [if_neg (by omega), if_neg (by omega), show p - 1 + 1 = p by omega]
          exact h c (by omega)
        · refine det_adj (p := p) (by omega) fun c hc => ?_
          unfold rm
          (rw [if_pos (by omega), if_pos (by omega)])
          exact h c (by omega)
      rw [this]
      grind
    · have e : det n (rm p A) = det n (rm (p + 1) A) := det_congr fun r c hr hc => by
        unfold rm
        by_cases q : r < p
        · rw [if_pos q, if_pos (by omega)]
        · rw [if_neg q]
          by_cases q2 : r < p + 1
          · rw [if_pos q2]
            obtain rfl : r = p := by omega
            exact (h c (by omega)).symm
          · rw [if_neg q2]
      show sgn (n - p) * A p n * det n (rm p A) + sgn (n - (p + 1)) * A (p + 1) n * det n (rm (p + 1) A) = 0
      rw [e, h n (by omega), show n - p = (n - (p + 1)) + 1 by omega, sgn_succ]
      grind
/-- rows p and q exchanged -/
def sw (p q : Nat) (A : Mx) : Mx := fun r c => if r = p then A q c else if r = q then A p c else A r c
def setR (A : Mx) (p : Nat) (f : Nat → Rat) : Mx := fun r c => if r = p then f c else A r c
theorem setR_at {A : Mx} {p : Nat} {f : Nat → Rat} {c : Nat} : setR A p f p c = f c := if_pos rfl
theorem setR_ne {A : Mx} {p r : Nat} {f : Nat → Rat} {c : Nat} (h : r ≠ p) : setR A p f r c = A r c := if_neg h
theorem det_swap_adj {n p : Nat} {A : Mx} (hp : p + 1 < n) : det n (sw p (p + 1) A) = - det n A := by
  -- rows f, g at p and p + 1
  let D : (Nat → Rat) → (Nat → Rat) → Rat := fun f g => det n (setR (setR A p f) (p + 1) g)
  have l1 : ∀ f f' g, D (fun c => 1 * f c + 1 * f' c) g = 1 * D f g + 1 * D f' g := fun f f' g => by
    refine det_row (p := p) (by omega) (fun c hc => ?_) fun r c hr hc hne => ?_
    · rw [setR_ne (by omega), setR_at, setR_ne (by omega), setR_at, setR_ne (by omega), setR_at]
    · by_cases q : r = p + 1
      · subst q
        rw [setR_at, setR_at, setR_at]
        exact ⟨rfl, rfl⟩
      · rw [setR_ne q, setR_ne q, setR_ne q, setR_ne hne, setR_ne hne, setR_ne hne]
        exact ⟨rfl, rfl⟩
  have l2 : ∀ f g g', D f (fun c => 1 * g c + 1 * g' c) = 1 * D f g + 1 * D f g' := fun f g g' => by
    refine det_row (p := p + 1) (by omega) (fun c hc => ?_) fun r c hr hc hne => ?_
    · rw [setR_at, setR_at, setR_at]
    · rw [setR_ne hne, setR_ne hne, setR_ne hne]
      exact ⟨rfl, rfl⟩
  have z : ∀ f, D f f = 0 := fun f => det_adj hp fun c hc => by rw [setR_ne (by omega), setR_at, setR_at]
  have e1 : det n A = D (A p) (A (p + 1)) := det_congr fun r c hr hc => by
    by_cases q : r = p + 1
    · subst q
      rw [setR_at]
    · rw [setR_ne q]
      by_cases q2 : r = p
      · subst q2
        rw [setR_at]
      · rw [setR_ne q2]
  have e2 : det n (sw p (p + 1) A) = D (A (p + 1)) (A p) := det_congr fun r c hr hc => by
    unfold sw
    by_cases q : r = p + 1
    · subst q
      rw [setR_at, if_neg (by omega), if_pos rfl]
    · rw [setR_ne q]
      by_cases q2 : r = p
      · subst q2
        rw [setR_at, if_pos rfl]
      · rw [setR_ne q2, if_neg q2, if_neg q]
  have s := z (fun c => 1 * A p c + 1 * A (p + 1) c)
  rw [l1, l2, l2, z, z] at s
  rw [e1, e2]
  grind
end K62
namespace K62
/-- two rows alike -/
theorem det_alike : ∀ (d : Nat) {n p : Nat} {A : Mx}, p + d + 1 < n → (∀ c, c < n → A p c = A (p + d + 1) c) → det n A = 0
  | 0, _, _, _, hp, h => det_adj hp h
  | d + 1, n, p, A, hp, h => by
    have s := det_swap_adj (n := n) (p := p + d + 1) (A := A) (by omega)
    have z : det n (sw (p + d + 1) (p + d + 1 + 1) A) = 0 := det_alike d (p := p) (by omega) fun c hc => by
      unfold sw
      rw [if_neg (by omega), if_neg (by omega), if_pos rfl]
      exact h c hc
    grind
theorem det_two {n p q : Nat} {A : Mx} (hp : p < n) (hq : q < n) (hne : p ≠ q) (h : ∀ c, c < n → A p c = A q c) : det n A = 0 := by
  by_cases c : p < q
  · obtain ⟨d, rfl⟩ : ∃ d, q = p + d + 1 := ⟨q - p - 1, by omega⟩
    exact det_alike d hq h
  · obtain ⟨d, rfl⟩ : ∃ d, p = q + d + 1 := ⟨p - q - 1, by omega⟩
    exact det_alike d hp fun c hc => (h c hc).symm
/-- a row and so many times another one -/
theorem det_add {n p q : Nat} {A B : Mx} {k : Rat} (hp : p < n) (hq : q < n) (hne : p ≠ q) (h1 : ∀ c, c < n → B p c = A p c + k * A q c) (h2 : ∀ r c, r < n → c < n → r ≠ p → B r c = A r c) : det n B = det n A := by
  have e := det_row (n := n) (p := p) (A := B) (B := A) (C := setR A p (A q)) (a := 1) (b := k) hp (fun c hc => by
    rw [setR_at, h1 c hc]
    grind) fun r c hr hc hne => by
    rw [setR_ne hne]
    exact ⟨h2 r c hr hc hne, h2 r c hr hc hne⟩
  have z : det n (setR A p (A q)) = 0 := det_two hp hq hne fun c hc => by rw [setR_at, setR_ne (fun z => hne z.symm)]
  rw [e, z]
  grind
theorem det_swap {n p q : Nat} {A : Mx} (hp : p < n) (hq : q < n) (hne : p ≠ q) : det n (sw p q A) = - det n A := by
  -- p gets p + q, q gets -p, p gets q
  let B : Mx := setR A p fun c => A p c + 1 * A q c
  let C : Mx := setR B q fun c => B q c + (-1) * B p c
  let D : Mx := setR C p fun c => C p c + 1 * C q c
  have e1 : det n B = det n A := det_add (p := p) (q := q) (k := 1) hp hq hne (fun c hc => setR_at) fun r c _ _ h => setR_ne h
  have e2 : det n C = det n B := det_add (p := q) (q := p) (k := -1) hq hp (fun z => hne z.symm) (fun c hc => setR_at) fun r c _ _ h => setR_ne h
  have e3 : det n D = det n C := det_add (p := p) (q := q) (k := 1) hp hq hne (fun c hc => setR_at) fun r c _ _ h => setR_ne h
  have bp : ∀ c, B p c = A p c + A q c := fun c => by
    show setR A p _ p c = _
    rw [setR_at]
    grind
  have bq : ∀ c, B q c = A q c := fun c => setR_ne fun z => hne z.symm
  have cq : ∀ c, C q c = - A p c := fun c => by
    show setR B q _ q c = _
    rw [setR_at, bq, bp]
    grind
  have cp : ∀ c, C p c = A p c + A q c := fun c => (setR_ne hne).trans (bp c)
  have dp : ∀ c, D p c = A q c := fun c => by
    show setR C p _ p c = _
    rw [setR_at, cp, cq]
    grind
  have dq : ∀ c, D q c = - A p c := fun c => (setR_ne fun z => hne z.symm).trans (cq c)
  have e4 := det_row (n := n) (p := q) (A := D) (B := sw p q A) (C := sw p q A) (a := -1) (b := 0) hq (fun c hc => by
    rw [dq]
    unfold sw
    rw [if_neg (fun z => hne z.symm), if_pos rfl]
    grind) fun r c hr hc h => by
    have : D r c = sw p q A r c := by
      unfold sw
      by_cases z : r = p
      · subst z
        rw [if_pos rfl, dp]
      · rw [if_neg z, if_neg h]
        show setR C p _ r c = _
        rw [setR_ne z]
        show setR B q _ r c = _
        rw [setR_ne h]
        exact setR_ne z
    exact ⟨this, this⟩
  grind
/-- nothing above the diagonal -/
def prodN : Nat → (Nat → Rat) → Rat
  | 0, _ => 1
  | n + 1, f => prodN n f * f n
theorem det_lower : ∀ {n : Nat} {A : Mx}, (∀ r c, r < n → c < n → r < c → A r c = 0) → det n A = prodN n fun i => A i i
  | 0, _, _ => rfl
  | n + 1, A, h => by
    show sumN (n + 1) _ = _
    rw [sum_one (i := n) (by omega) fun j hj hne => by
      rw [h j n (by omega) (by omega) (by omega)]
      grind]
    have e : det n (rm n A) = prodN n fun i => A i i := by
      rw [det_congr (A := rm n A) (B := A) fun r c hr hc => by
        unfold rm
        rw [if_pos hr]]
      exact det_lower fun r c hr hc => h r c (by omega) (by omega)
    rw [e, Nat.sub_self]
    show sgn 0 * A n n * _ = _ * A n n
    have : sgn 0 = 1 := rfl
    rw [this]
    grind
theorem det_upper : ∀ {n : Nat} {A : Mx}, (∀ r c, r < n → c < n → c < r → A r c = 0) → det n A = prodN n fun i => A i i
  | 0, _, _ => rfl
  | n + 1, A, h => by
    show sumN (n + 1) _ = _
    rw [sum_one (i := n) (by omega) fun j hj hne => by
      have z : det n (rm j A) = 0 := det_zero_row (p := n - 1) (by omega) fun c hc => by
        unfold rm
        rw [if_neg (by omega), show n - 1 + 1 = n by omega]
        exact h n c (by omega) (by omega) (by omega)
      rw [z]
      grind]
    have e : det n (rm n A) = prodN n fun i => A i i := by
      rw [det_congr (A := rm n A) (B := A) fun r c hr hc => by
        unfold rm
        rw [if_pos hr]]
      exact det_upper fun r c hr hc => h r c (by omega) (by omega)
    rw [e, Nat.sub_self]
    show sgn 0 * A n n * _ = _ * A n n
    have : sgn 0 = 1 := rfl
    rw [this]
    grind
/-- more rows than columns that hold anything -/
theorem det_block : ∀ {n k : Nat} {A : Mx}, k < n → (∀ r c, k ≤ r → r < n → c ≤ k → A r c = 0) → det n A = 0
  | 0, _, _, h, _ => absurd h (Nat.not_lt_zero _)
  | n + 1, k, A, hk, h => by
    by_cases c : k = n
    · subst c
      exact det_zero_row (p := k) (by omega) fun c hc => h k c (Nat.le_refl _) (by omega) (by omega)
    · refine sum_zero fun i hi => ?_
      have z : det n (rm i A) = 0 := by
        by_cases q : i < k
        · refine det_block (k := k - 1) (by omega) fun r c hr hr2 hc => ?_
          unfold rm
          rw [if_neg (by omega)]
          exact h (r + 1) c (by omega) (by omega) (by omega)
        · refine det_block (k := k) (by omega) fun r c hr hr2 hc => ?_
          unfold rm
          by_cases q2 : r < i
          · rw [if_pos q2]
            exact h r c hr (by omega) hc
          · rw [if_neg q2]
            exact h (r + 1) c (by omega) (by omega) hc
      rw [z]
      grind
/-- rows and sums of rows ahead of them -/
theorem det_comb {n q : Nat} {A B : Mx} : ∀ (m : Nat) {l : Nat → Rat}, q < n → m ≤ q → (∀ c, c < n → B q c = A q c + sumN m fun i => l i * A i c) → (∀ r c, r < n → c < n → r ≠ q → B r c = A r c) → det n B = det n A
  | 0, l, hq, hm, h1, h2 => det_congr fun r c hr hc => by
    by_cases z : r = q
    · subst z
      rw [h1 c hc]
      exact Rat.add_zero _
    · exact h2 r c hr hc z
  | m + 1, l, hq, hm, h1, h2 => by
    rw [det_add (n := n) (p := q) (q := m) (A := setR A q fun c => A q c + sumN m fun i => l i * A i c) (B := B) (k := l m) hq (by omega) (by omega) (fun c hc => by
      rw [h1 c hc, setR_at, setR_ne (by omega)]
      show A q c + (sumN m (fun i => l i * A i c) + l m * A m c) = _
      grind) fun r c hr hc hne => by
      rw [setR_ne hne]
      exact h2 r c hr hc hne]
    exact det_comb m (l := l) hq (by omega) (fun c hc => setR_at) fun r c _ _ hne => setR_ne hne
theorem det_tri {n : Nat} {A B : Mx} {l : Nat → Nat → Rat} {m : Nat → Nat} (hm : ∀ r, r < n → m r ≤ r) (h : ∀ r c, r < n → c < n → B r c = A r c + sumN (m r) fun i => l r i * A i c) : det n B = det n A := by
  -- rows from t on are B's, those ahead A's
  have key : ∀ t, t ≤ n → det n (fun r c => if r < t then A r c else B r c) = det n B := fun t => by
    induction t with
    | zero => exact fun _ => det_congr fun r c _ _ => if_neg (Nat.not_lt_zero _)
    | succ t ih =>
      intro ht
      rw [← ih (by omega)]
      refine (det_comb (q := t) (m t) (l := l t) (by omega) (hm t (by omega)) (fun c hc => ?_) fun r c hr hc hne => ?_).symm
      · show (if t < t then A t c else B t c) = (if t < t + 1 then A t c else B t c) + sumN (m t) fun i => l t i * (if i < t + 1 then A i c else B i c)
        rw [if_neg (Nat.lt_irrefl _), if_pos (Nat.lt_succ_self _), h t c (by omega) hc]
        congr 1
        refine sum_congr fun i hi => ?_
        rw [if_pos (by have := hm t (by omega); omega)]
      · show (if r < t then A r c else B r c) = if r < t + 1 then A r c else B r c
        by_cases z : r < t
        · rw [if_pos z, if_pos (by omega)]
        · rw [if_neg z, if_neg (by omega)]
  rw [← key n (Nat.le_refl _)]
  exact det_congr fun r c hr _ => if_pos hr
end K62
namespace K62
theorem sum_add {n : Nat} {f g : Nat → Rat} : sumN n (fun i => f i + g i) = sumN n f + sumN n g := by
  have := sum_lin (n := n) (f := f) (g := g) (a := 1) (b := 1)
  rw [show (fun i => f i + g i) = fun i => 1 * f i + 1 * g i from funext fun i => by grind, this]
  grind
theorem sum_mul {n : Nat} {f : Nat → Rat} {a : Rat} : sumN n (fun i => a * f i) = a * sumN n f := by
  have := sum_lin (n := n) (f := f) (g := f) (a := a) (b := 0)
  rw [show (fun i => a * f i) = fun i => a * f i + 0 * f i from funext fun i => by grind, this]
  grind
/-- a sum over all pairs of two unlike ones -/
theorem sum_pairs {g : Nat → Nat → Rat} : ∀ n, sumN (n + 1) (fun i => sumN n fun j => g i j) = sumN (n + 1) fun i => sumN i fun j => g i j + g j (i - 1)
  | 0 => by
    show (0 : Rat) + 0 = 0 + 0
    rfl
  | n + 1 => by
    have ih := sum_pairs (g := g) n
    show sumN (n + 1) (fun i => sumN (n + 1) fun j => g i j) + sumN (n + 1) (fun j => g (n + 1) j) = sumN (n + 1) (fun i => sumN i fun j => g i j + g j (i - 1)) + sumN (n + 1) (fun j => g (n + 1) j + g j (n + 1 - 1))
    rw [← ih, sum_add (n := n + 1) (f := fun j => g (n + 1) j) (g := fun j => g j (n + 1 - 1))]
    have e : sumN (n + 1) (fun i => sumN (n + 1) fun j => g i j) = sumN (n + 1) (fun i => sumN n fun j => g i j) + sumN (n + 1) fun i => g i n := by
      rw [← sum_add]
      rfl
    rw [e, Nat.add_sub_cancel]
    grind
/-- columns p and p + 1 exchanged -/
def cw (p : Nat) (A : Mx) : Mx := fun r c => if c = p then A r (p + 1) else if c = p + 1 then A r p else A r c
theorem rm_rm {A : Mx} {i j : Nat} (h : j < i) (r c : Nat) : rm j (rm i A) r c = rm (i - 1) (rm j A) r c := by
  unfold rm
  by_cases q : r < j
  · rw [if_pos q, if_pos (by omega), if_pos (by omega), if_pos q]
  · rw [if_neg q]
    by_cases q2 : r + 1 < i
    · rw [if_pos q2, if_pos (by omega), if_neg q]
    · rw [if_neg q2, if_neg (by omega), if_neg (by omega)]
theorem det_cols {n : Nat} {A : Mx} : det (n + 2) A = sumN (n + 2) fun i => sumN i fun j => sgn (n + 1 - i) * sgn (n - j) * (A i (n + 1) * A j n - A j (n + 1) * A i n) * det n (rm j (rm i A)) := by
  have e : det (n + 2) A = sumN (n + 1 + 1) fun i => sumN (n + 1) fun j => sgn (n + 1 - i) * A i (n + 1) * (sgn (n - j) * rm i A j n * det n (rm j (rm i A))) := by
    show sumN (n + 2) _ = _
    refine sum_congr fun i hi => ?_
    show _ * sumN (n + 1) _ = _
    rw [← sum_mul]
  rw [e, sum_pairs]
  refine sum_congr fun i hi => sum_congr fun j hj => ?_
  have d : det n (rm (i - 1) (rm j A)) = det n (rm j (rm i A)) := det_congr fun r c _ _ => (rm_rm hj r c).symm
  have e1 : rm i A j n = A j n := if_pos hj
  have e2 : rm j A (i - 1) n = A i n := by
    unfold rm
    rw [if_neg (by omega), show i - 1 + 1 = i by omega]
  show sgn (n + 1 - i) * A i (n + 1) * (sgn (n - j) * rm i A j n * det n (rm j (rm i A))) + sgn (n + 1 - j) * A j (n + 1) * (sgn (n - (i - 1)) * rm j A (i - 1) n * det n (rm (i - 1) (rm j A))) = _
  rw [d, e1, e2, show n - (i - 1) = n + 1 - i by omega, show n + 1 - j = n - j + 1 by omega, sgn_succ]
  grind
theorem det_col : ∀ {n p : Nat} {A : Mx}, p + 1 < n → det n (cw p A) = - det n A
  | 0, _, _, hz => absurd hz (Nat.not_lt_zero _)
  | 1, _, _, h => by omega
  | n + 2, p, A, hp => by
    by_cases c : p = n
    · subst c
      rw [det_cols, det_cols, show (-(sumN (p + 2) fun i => sumN i fun j => sgn (p + 1 - i) * sgn (p - j) * (A i (p + 1) * A j p - A j (p + 1) * A i p) * det p (rm j (rm i A)))) = (-1) * (sumN (p + 2) fun i => sumN i fun j => sgn (p + 1 - i) * sgn (p - j) * (A i (p + 1) * A j p - A j (p + 1) * A i p) * det p (rm j (rm i A))) by grind, ← sum_mul]
      refine sum_congr fun i hi => ?_
      rw [← sum_mul]
      refine sum_congr fun j hj => ?_
      have d : det p (rm j (rm i (cw p A))) = det p (rm j (rm i A)) := det_congr fun r c hr hc => by
        have : ∀ r, cw p A r c = A r c := fun r => by
          unfold cw
          (rw [if_neg (by omega), if_neg (by omega)])
        unfold rm
        split <;> split <;> exact this _
      have a1 : ∀ r, cw p A r (p + 1) = A r p := fun r => by
        unfold cw
        rw [if_neg (by omega), if_pos rfl]
      have a2 : ∀ r, cw p A r p = A r (p + 1) := fun r => if_pos rfl
      rw [d, a1, a1, a2, a2]
      grind
    · show sumN (n + 2) _ = - sumN (n + 2) _
      rw [show ∀ x : Rat, -x = (-1) * x from fun x => by grind, ← sum_mul]
      refine sum_congr fun i hi => ?_
      have e : det (n + 1) (rm i (cw p A)) = - det (n + 1) (rm i A) := by
        rw [← det_col (A := rm i A) (p := p) (by omega)]
        refine det_congr fun r c _ _ => ?_
        by_cases q : r < i
        · have e1 : ∀ c, rm i A r c = A r c := fun c => if_pos q
          show (if r < i then cw p A r c else cw p A (r + 1) c) = _
          rw [if_pos q]
          unfold cw
          rw [e1, e1, e1]
        · have e1 : ∀ c, rm i A r c = A (r + 1) c := fun c => if_neg q
          show (if r < i then cw p A r c else cw p A (r + 1) c) = _
          rw [if_neg q]
          unfold cw
          rw [e1, e1, e1]
      have a : cw p A i (n + 1) = A i (n + 1) := by
        unfold cw
        (rw [if_neg (by omega), if_neg (by omega)])
      rw [e, a]
      grind
/-- column i left out -/
def rc (i : Nat) (A : Mx) : Mx := fun r c => if c < i then A r c else A r (c + 1)
/-- column i put last -/
def lc (i n : Nat) (A : Mx) : Mx := fun r c => if c < i then A r c else if c < n then A r (c + 1) else A r i
theorem det_lc {n : Nat} {A : Mx} : ∀ (d : Nat) {i : Nat}, i + d = n → det (n + 1) (lc i n A) = sgn d * det (n + 1) A
  | 0, i, h => by
    have : sgn 0 = 1 := rfl
    rw [this, Rat.one_mul]
    refine det_congr fun r c hr hc => ?_
    unfold lc
    by_cases q : c < i
    · rw [if_pos q]
    · rw [if_neg q, if_neg (by omega), show i = c by omega]
  | d + 1, i, h => by
    have e := det_lc (n := n) (A := cw i A) d (i := i + 1) (by omega)
    rw [det_col (p := i) (by omega)] at e
    have e2 : det (n + 1) (lc (i + 1) n (cw i A)) = det (n + 1) (lc i n A) := det_congr fun r c hr hc => by
      unfold lc cw
      by_cases q : c < i
      · rw [if_pos (by omega), if_neg (by omega), if_neg (by omega), if_pos q]
      · rw [if_neg q]
        by_cases q2 : c = i
        · subst q2
          rw [if_pos (by omega), if_pos rfl, if_pos (by omega)]
        · rw [if_neg (by omega)]
          by_cases q3 : c < n
          · rw [if_pos q3, if_neg (by omega), if_neg (by omega), if_pos q3]
          · rw [if_neg q3, if_neg (by omega), if_pos rfl, if_neg q3]
    rw [← e2, e, sgn_succ]
    grind
/-- the last row but one number is 0 -/
theorem det_last {n : Nat} {A : Mx} (h : ∀ c, c < n → A n c = 0) : det (n + 1) A = A n n * det n A := by
  show sumN (n + 1) _ = _
  rw [sum_one (i := n) (by omega) fun j hj hne => by
    have z : det n (rm j A) = 0 := det_zero_row (p := n - 1) (by omega) fun c hc => by
      unfold rm
      rw [if_neg (by omega), show n - 1 + 1 = n by omega]
      exact h c hc
    rw [z]
    grind]
  have e : det n (rm n A) = det n A := det_congr fun r c hr hc => if_pos hr
  have : sgn 0 = 1 := rfl
  rw [e, Nat.sub_self, this]
  grind
/-- the sum by the last row -/
theorem det_row_last {n : Nat} {A : Mx} : det (n + 1) A = sumN (n + 1) fun i => sgn (n - i) * A n i * det n (rc i A) := by
  -- the last row as a sum, one number after another
  have key : ∀ m, m ≤ n + 1 → det (n + 1) (setR A n fun c => if c < m then A n c else 0) = sumN m fun i => sgn (n - i) * A n i * det n (rc i A) := fun m => by
    induction m with
    | zero => exact fun _ => det_zero_row (p := n) (by omega) fun c hc => by rw [setR_at, if_neg (Nat.not_lt_zero _)]
    | succ m ih =>
      intro hm
      show _ = sumN m _ + _
      rw [← ih (by omega)]
      let E : Mx := setR A n fun c => if c = m then 1 else 0
      have e := det_row (n := n + 1) (p := n) (A := setR A n fun c => if c < m + 1 then A n c else 0) (B := setR A n fun c => if c < m then A n c else 0) (C := E) (a := 1) (b := A n m) (by omega) (fun c hc => by
        show setR A n _ n c = 1 * setR A n _ n c + A n m * setR A n _ n c
        rw [setR_at, setR_at, setR_at]
        by_cases q : c < m
        · rw [if_pos (by omega), if_pos q, if_neg (by omega)]
          grind
        · by_cases q2 : c = m
          · subst q2
            rw [if_pos (by omega), if_neg q, if_pos rfl]
            grind
          · rw [if_neg (by omega), if_neg q, if_neg q2]
            grind) fun r c hr hc hne => by
        show setR A n _ r c = setR A n _ r c ∧ setR A n _ r c = setR A n _ r c
        rw [setR_ne hne, setR_ne hne, setR_ne hne]
        exact ⟨rfl, rfl⟩
      have s := det_lc (n := n) (A := E) (n - m) (i := m) (by omega)
      have l : det (n + 1) (lc m n E) = lc m n E n n * det n (lc m n E) := det_last fun c hc => by
        unfold lc
        by_cases q : c < m
        · rw [if_pos q]
          show setR A n _ n c = 0
          rw [setR_at, if_neg (by omega)]
        · rw [if_neg q, if_pos hc]
          show setR A n _ n (c + 1) = 0
          rw [setR_at, if_neg (by omega)]
      have l1 : lc m n E n n = 1 := by
        unfold lc
        by_cases q : n < m
        · omega
        · rw [if_neg q, if_neg (by omega)]
          show setR A n _ n m = 1
          rw [setR_at, if_pos rfl]
      have l2 : det n (lc m n E) = det n (rc m A) := det_congr fun r c hr hc => by
        have ne : ∀ c, E r c = A r c := fun c => setR_ne (by omega)
        unfold lc rc
        by_cases q : c < m
        · rw [if_pos q, if_pos q, ne]
        · rw [if_neg q, if_neg q, if_pos hc, ne]
      have sq : sgn (n - m) * sgn (n - m) = 1 := by
        unfold sgn
        split <;> grind
      rw [l, l1, l2] at s
      have : det (n + 1) E = sgn (n - m) * det n (rc m A) := by grind
      rw [e, this]
      grind
  rw [← key (n + 1) (Nat.le_refl _)]
  refine det_congr fun r c hr hc => ?_
  by_cases q : r = n
  · subst q
    rw [setR_at, if_pos hc]
  · rw [setR_ne q]
/-- rows for columns -/
theorem det_turn : ∀ {n : Nat} {A : Mx}, det n (fun r c => A c r) = det n A
  | 0, _ => rfl
  | n + 1, A => by
    rw [det_row_last (A := A)]
    show sumN (n + 1) _ = _
    refine sum_congr fun i hi => ?_
    have e : det n (rm i fun r c => A c r) = det n (rc i A) := by
      rw [← det_turn (A := rc i A)]
      refine det_congr fun r c _ _ => ?_
      unfold rm rc
      split <;> rfl
    rw [e]
end K62
namespace K62
def ins (k nth : Nat) (o : List Nat) : List Nat := o.take nth ++ k :: o.drop nth
def sg1 (k nth : Nat) : Int := 1 - ((k : Int) - (nth : Int)) % 2 * 2
def ords : Nat → List (List Nat × Int)
  | 0 => [([], 1)]
  | k + 1 => (ords k).flatMap fun os => (List.range (k + 1)).map fun nth => (ins k nth os.1, os.2 * sg1 k nth)
def sumL : List Rat → Rat
  | [] => 0
  | a :: l => a + sumL l
theorem sumL_app : ∀ (l m : List Rat), sumL (l ++ m) = sumL l + sumL m
  | [], m => by
    show sumL m = 0 + sumL m
    grind
  | a :: l, m => by
    show a + sumL (l ++ m) = a + sumL l + sumL m
    rw [sumL_app l m]
    grind
theorem sumL_range {f : Nat → Rat} : ∀ n, sumL ((List.range n).map f) = sumN n f
  | 0 => rfl
  | n + 1 => by
    rw [List.range_succ, List.map_append, sumL_app, sumL_range n]
    show _ + (f n + 0) = sumN n f + f n
    grind
theorem sumL_mul {α : Type} {f : α → Rat} {a : Rat} : ∀ l : List α, sumL (l.map fun x => a * f x) = a * sumL (l.map f)
  | [] => by
    show (0 : Rat) = a * 0
    grind
  | x :: l => by
    show a * f x + sumL (l.map fun x => a * f x) = a * (f x + sumL (l.map f))
    rw [sumL_mul l]
    grind
/-- sums over both, one way or the other -/
theorem sumL_flat {α : Type} {g : α → Nat → Rat} {n : Nat} : ∀ l : List α, sumL ((l.flatMap fun x => (List.range n).map fun i => g x i)) = sumN n fun i => sumL (l.map fun x => g x i)
  | [] => (sum_zero fun _ _ => rfl).symm
  | x :: l => by
    rw [List.flatMap_cons, sumL_app, sumL_flat l, sumL_range, ← sum_add]
    rfl
/-- the product that an order takes -/
def prodO : Mx → List Nat → Rat
  | _, [] => 1
  | A, c :: o => A 0 c * prodO (fun r => A (r + 1)) o
theorem prodO_congr : ∀ (o : List Nat) {A B : Mx}, (∀ r c, A r c = B r c) → prodO A o = prodO B o
  | [], _, _, _ => rfl
  | c :: o, A, B, h => by
    show A 0 c * prodO (fun r => A (r + 1)) o = B 0 c * prodO (fun r => B (r + 1)) o
    rw [h 0 c, prodO_congr o fun r c => h (r + 1) c]
theorem prodO_ins {k : Nat} : ∀ (nth : Nat) {o : List Nat} {A : Mx}, nth ≤ o.length → prodO A (ins k nth o) = A nth k * prodO (rm nth A) o
  | 0, o, A, _ => by
    show A 0 k * prodO (fun r => A (r + 1)) o = A 0 k * prodO (rm 0 A) o
    rw [prodO_congr o fun r c => (if_neg (Nat.not_lt_zero r) : (if r < 0 then A r c else A (r + 1) c) = A (r + 1) c).symm]
    rfl
  | nth + 1, [], A, h => absurd h (by simp)
  | nth + 1, c :: o, A, h => by
    have ih := prodO_ins (k := k) nth (o := o) (A := fun r => A (r + 1)) (by simpa using h)
    show A 0 c * prodO (fun r => A (r + 1)) (ins k nth o) = A (nth + 1) k * (rm (nth + 1) A 0 c * prodO (fun r => rm (nth + 1) A (r + 1)) o)
    have e : prodO (rm nth fun r => A (r + 1)) o = prodO (fun r => rm (nth + 1) A (r + 1)) o := prodO_congr o fun r c => by
      unfold rm
      by_cases q : r < nth
      · rw [if_pos q, if_pos (by omega)]
      · rw [if_neg q, if_neg (by omega)]
    have e2 : rm (nth + 1) A 0 c = A 0 c := if_pos (by omega)
    rw [ih, e, e2]
    grind
theorem ins_len {k nth : Nat} {o : List Nat} (h : nth ≤ o.length) : (ins k nth o).length = o.length + 1 := by
  unfold ins
  rw [List.length_append, List.length_take, List.length_cons, List.length_drop]
  omega
theorem ords_ok : ∀ {n : Nat} {os : List Nat × Int}, os ∈ ords n → os.1.length = n ∧ (os.2 = 1 ∨ os.2 = -1) ∧ ∀ c ∈ os.1, c < n
  | 0, os, h => by
    obtain rfl := List.mem_singleton.mp h
    exact ⟨rfl, .inl rfl, fun c hc => nomatch hc⟩
  | n + 1, os, h => by
    obtain ⟨p, hp, h⟩ := List.mem_flatMap.mp h
    (obtain ⟨i, hi, rfl⟩ := List.mem_map.mp h)
    have hi := List.mem_range.mp hi
    obtain ⟨h1, h2, h3⟩ := ords_ok hp
    refine ⟨by rw [ins_len (by omega), h1], ?_, fun c hc => ?_⟩
    · show p.2 * sg1 n i = 1 ∨ p.2 * sg1 n i = -1
      have : sg1 n i = 1 ∨ sg1 n i = -1 := by unfold sg1; omega
      rcases h2 with q | q <;> rcases this with q2 | q2 <;> rw [q, q2] <;> simp
    · have hc : c ∈ p.1.take i ++ n :: p.1.drop i := hc
      (rcases List.mem_append.mp hc with hc | hc)
      · have := h3 c (List.mem_of_mem_take hc)
        omega
      · (rcases List.mem_cons.mp hc with rfl | hc)
        · omega
        · have := h3 c (List.mem_of_mem_drop hc)
          omega
theorem sg1_sgn {n i : Nat} (h : i ≤ n) : ((sg1 n i : Int) : Rat) = sgn (n - i) := by
  unfold sgn
  by_cases c : (n - i) % 2 = 0
  · rw [if_pos c, show sg1 n i = 1 by unfold sg1; omega]
    rfl
  · rw [if_neg c, show sg1 n i = -1 by unfold sg1; omega]
    rfl
theorem ords_sum : ∀ (n : Nat) {A : Mx}, sumL ((ords n).map fun os => (os.2 : Rat) * prodO A os.1) = det n A
  | 0, A => by
    show ((1 : Int) : Rat) * 1 + 0 = 1
    have : ((1 : Int) : Rat) = 1 := rfl
    rw [this]
    grind
  | n + 1, A => by
    show sumL (((ords n).flatMap fun os => (List.range (n + 1)).map fun nth => (ins n nth os.1, os.2 * sg1 n nth)).map fun os => (os.2 : Rat) * prodO A os.1) = sumN (n + 1) fun i => sgn (n - i) * A i n * det n (rm i A)
    rw [List.map_flatMap]
    simp only [List.map_map]
    have e := sumL_flat (n := n + 1) (g := fun (os : List Nat × Int) i => ((os.2 * sg1 n i : Int) : Rat) * prodO A (ins n i os.1)) (ords n)
    refine Eq.trans e ?_
    refine sum_congr fun i hi => ?_
    rw [← ords_sum n (A := rm i A), ← sumL_mul]
    congr 1
    refine List.map_congr_left fun os hos => ?_
    have hl := (ords_ok hos).1
    rw [prodO_ins i (by omega), Rat.intCast_mul, sg1_sgn (by omega)]
    grind
end K62
namespace K62
abbrev MI := Nat → Nat → Int
abbrev cst (A : MI) : Mx := fun r c => (A r c : Rat)
theorem sum_int {n : Nat} {f : Nat → Rat} (h : ∀ i, i < n → ∃ z : Int, f i = z) : ∃ z : Int, sumN n f = z := by
  induction n with
  | zero => exact ⟨0, rfl⟩
  | succ n ih =>
    obtain ⟨a, ha⟩ := ih fun i hi => h i (by omega)
    obtain ⟨b, hb⟩ := h n (by omega)
    refine ⟨a + b, ?_⟩
    show sumN n f + f n = _
    rw [ha, hb, Rat.intCast_add]
theorem det_int : ∀ {n : Nat} {A : Mx}, (∀ r c, ∃ z : Int, A r c = z) → ∃ z : Int, det n A = z
  | 0, _, _ => ⟨1, rfl⟩
  | n + 1, A, h => by
    refine sum_int fun i hi => ?_
    obtain ⟨a, ha⟩ := h i n
    obtain ⟨b, hb⟩ := det_int (n := n) (A := rm i A) fun r c => by
      unfold rm
      split
      · exact h r c
      · exact h (r + 1) c
    obtain ⟨s, hs⟩ : ∃ s : Int, sgn (n - i) = s := by
      unfold sgn
      split
      · exact ⟨1, rfl⟩
      · exact ⟨-1, rfl⟩
    exact ⟨s * a * b, by rw [ha, hb, hs, Rat.intCast_mul, Rat.intCast_mul]⟩
theorem cast_ne {a : Int} (h : a ≠ 0) : (a : Rat) ≠ 0 := fun z => h (by exact_mod_cast z)
theorem cast_inj {a b : Int} (h : (a : Rat) = b) : a = b := by exact_mod_cast h
/-- what stands behind k columns -/
structure Bar (n : Nat) (M : MI) (k : Nat) (s p : Int) (B : MI) : Prop where
  ex : ∃ (M' : MI) (U : Mx) (l : Nat → Nat → Rat), (s = 1 ∨ s = -1) ∧ det n (cst M') = s * det n (cst M) ∧
    (∀ r c, r < n → c < n → U r c = M' r c + sumN (min r k) fun i => l r i * M' i c) ∧
    (∀ r c, r < n → c < k → c < r → U r c = 0) ∧ (∀ i, i < k → U i i ≠ 0) ∧ (p : Rat) = prodN k (fun i => U i i) ∧
    ∀ r c, k ≤ r → r < n → k ≤ c → c < n → (B r c : Rat) = p * U r c
theorem prod_ne {f : Nat → Rat} : ∀ k, (∀ i, i < k → f i ≠ 0) → prodN k f ≠ 0
  | 0, _ => by
    show (1 : Rat) ≠ 0
    decide
  | k + 1, h => by
    have h1 := prod_ne (f := f) k fun i hi => h i (by omega)
    have h2 := h k (by omega)
    show prodN k f * f k ≠ 0
    intro z
    rcases Rat.mul_eq_zero.mp z with q | q
    · exact h1 q
    · exact h2 q
theorem bar_zero {n : Nat} {M : MI} : Bar n M 0 1 1 M := ⟨⟨M, cst M, fun _ _ => 0, .inl rfl, by
    have : ((1 : Int) : Rat) = 1 := rfl
    rw [this, Rat.one_mul], fun r c _ _ => by
    rw [Nat.min_zero]
    show (M r c : Rat) = M r c + 0
    grind, fun _ _ _ h => absurd h (Nat.not_lt_zero _), fun _ h => absurd h (Nat.not_lt_zero _), rfl, fun r c _ _ _ _ => by
    have : ((1 : Int) : Rat) = 1 := rfl
    rw [this, Rat.one_mul]⟩⟩
section
variable {n k : Nat} {M B : MI} {s p : Int}
theorem Bar.pne (b : Bar n M k s p B) : p ≠ 0 := fun z => by
  obtain ⟨M', U, l, hs, hd, hU, hz, hn, hp, hB⟩ := b.ex
  rw [z] at hp
  exact prod_ne k hn hp.symm
/-- no number left in the column -/
theorem Bar.none (b : Bar n M k s p B) (hk : k < n) (h : ∀ r, k ≤ r → r < n → B r k = 0) : det n (cst M) = 0 := by
  have pn := b.pne
  obtain ⟨M', U, l, hs, hd, hU, hz, hn, hp, hB⟩ := b.ex
  have t := det_tri (n := n) (A := cst M') (B := U) (l := l) (m := fun r => min r k) (fun r _ => Nat.min_le_left ..) hU
  have z : det n U = 0 := det_block (k := k) hk fun r c hr hr2 hc => by
    by_cases q : c = k
    · subst q
      have e := hB r c hr hr2 (Nat.le_refl _) hk
      rw [h r hr hr2] at e
      have e : (p : Rat) * U r c = 0 := e.symm
      rcases Rat.mul_eq_zero.mp e with q | q
      · exact absurd q (cast_ne pn)
      · exact q
    · exact hz r c hr2 (by omega) (by omega)
  rw [t, hd] at z
  rcases Rat.mul_eq_zero.mp z with q | q
  · rcases hs with rfl | rfl
    · exact absurd q (by decide)
    · exact absurd q (by decide)
  · exact q
/-- the end -/
theorem Bar.fin (b : Bar n M n s p B) : ((s * p : Int) : Rat) = det n (cst M) := by
  obtain ⟨M', U, l, hs, hd, hU, hz, hn, hp, hB⟩ := b.ex
  have t := det_tri (n := n) (A := cst M') (B := U) (l := l) (m := fun r => min r n) (fun r _ => Nat.min_le_left ..) hU
  rw [det_upper fun r c hr hc h => hz r c hr hc h, ← hp, hd] at t
  rw [Rat.intCast_mul, t]
  rcases hs with rfl | rfl
  · have : ((1 : Int) : Rat) = 1 := rfl
    rw [this]
    grind
  · have : ((-1 : Int) : Rat) = -1 := rfl
    rw [this]
    grind
def swI (p q : Nat) (A : MI) : MI := fun r c => if r = p then A q c else if r = q then A p c else A r c
theorem Bar.swap {f : Nat} (b : Bar n M k s p B) (hf : k < f) (hfn : f < n) : Bar n M k (-s) p (swI k f B) := by
  obtain ⟨M', U, l, hs, hd, hU, hz, hn, hp, hB⟩ := b.ex
  refine ⟨⟨swI k f M', sw k f U, fun r => if r = k then l f else if r = f then l k else l r, by omega, ?_, fun r c hr hc => ?_, fun r c hr hc hcr => ?_, fun i hi => ?_, ?_, fun r c hr hr2 hc hc2 => ?_⟩⟩
  · have e : det n (cst (swI k f M')) = det n (sw k f (cst M')) := det_congr fun r c _ _ => by
      show ((if r = k then M' f c else if r = f then M' k c else M' r c : Int) : Rat) = if r = k then (M' f c : Rat) else if r = f then (M' k c : Rat) else (M' r c : Rat)
      split
      · rfl
      · split <;> rfl
    rw [e, det_swap (by omega) hfn (by omega), hd, Rat.intCast_neg]
    grind
  · have low : ∀ i, i < k → swI k f M' i c = M' i c := fun i hi => by
      unfold swI
      (rw [if_neg (by omega), if_neg (by omega)])
    show (if r = k then U f c else if r = f then U k c else U r c) = ((if r = k then M' f c else if r = f then M' k c else M' r c : Int) : Rat) + sumN (min r k) fun i => (if r = k then l f else if r = f then l k else l r) i * (swI k f M' i c : Rat)
    by_cases q : r = k
    · subst q
      rw [if_pos rfl, if_pos rfl, if_pos rfl, hU f c hfn hc, show min f r = min r r by omega]
      congr 1
      refine sum_congr fun i hi => ?_
      rw [low i (by omega)]
    · (rw [if_neg q, if_neg q, if_neg q])
      by_cases q2 : r = f
      · subst q2
        rw [if_pos rfl, if_pos rfl, if_pos rfl, hU k c (by omega) hc, show min r k = min k k by omega]
        congr 1
        refine sum_congr fun i hi => ?_
        rw [low i (by omega)]
      · rw [if_neg q2, if_neg q2, if_neg q2, hU r c hr hc]
        congr 1
        refine sum_congr fun i hi => ?_
        rw [low i (by omega)]
  · show (if r = k then U f c else if r = f then U k c else U r c) = 0
    by_cases q : r = k
    · rw [if_pos q]
      exact hz f c hfn hc (by omega)
    · rw [if_neg q]
      by_cases q2 : r = f
      · rw [if_pos q2]
        exact hz k c (by omega) hc (by omega)
      · rw [if_neg q2]
        exact hz r c hr hc hcr
  · show (if i = k then U f i else if i = f then U k i else U i i) ≠ 0
    (rw [if_neg (by omega), if_neg (by omega)])
    exact hn i hi
  · rw [hp]
    have : ∀ m, m ≤ k → prodN m (fun i => U i i) = prodN m fun i => sw k f U i i := fun m => by
      induction m with
      | zero => exact fun _ => rfl
      | succ m ih =>
        intro hm
        show prodN m _ * U m m = prodN m _ * sw k f U m m
        rw [ih (by omega)]
        congr 1
        show U m m = if m = k then U f m else if m = f then U k m else U m m
        (rw [if_neg (by omega), if_neg (by omega)])
    exact this k (Nat.le_refl _)
  · show ((if r = k then B f c else if r = f then B k c else B r c : Int) : Rat) = p * (if r = k then U f c else if r = f then U k c else U r c)
    by_cases q : r = k
    · rw [if_pos q, if_pos q]
      exact hB f c (by omega) hfn hc hc2
    · rw [if_neg q, if_neg q]
      by_cases q2 : r = f
      · rw [if_pos q2, if_pos q2]
        exact hB k c (Nat.le_refl _) (by omega) hc hc2
      · rw [if_neg q2, if_neg q2]
        exact hB r c hr hr2 hc hc2
/-- a column is cleared; each division comes out -/
theorem Bar.clear (b : Bar n M k s p B) (hk : k < n) (h0 : B k k ≠ 0) : ∃ B' : MI, (∀ r c, k < r → r < n → k ≤ c → c < n → B r c * B k k - B r k * B k c = p * B' r c) ∧ (∀ r c, r ≤ k → B' r c = B r c) ∧ Bar n M (k + 1) s (B k k) B' := by
  have pn := b.pne
  obtain ⟨M', U, l, hs, hd, hU, hz, hn, hp, hB⟩ := b.ex
  have pr := cast_ne pn
  have ekk := hB k k (Nat.le_refl _) hk (Nat.le_refl _) hk
  have u0 : U k k ≠ 0 := fun z => by
    rw [z, Rat.mul_zero] at ekk
    exact cast_ne h0 ekk
  let q : Nat → Rat := fun r => U r k / U k k
  let V : Mx := fun r c => if k < r then U r c - q r * U k c else U r c
  let m : Nat → Nat → Rat := fun r i => if k < r then (if i = k then - q r else l r i - q r * l k i) else l r i
  have hV : ∀ r c, r < n → c < n → V r c = M' r c + sumN (min r (k + 1)) fun i => m r i * M' i c := fun r c hr hc => by
    by_cases z : k < r
    · have e1 : V r c = U r c - q r * U k c := if_pos z
      rw [e1, hU r c hr hc, hU k c hk hc, show min r k = k by omega, show min r (k + 1) = k + 1 by omega, Nat.min_self]
      show _ = (M' r c : Rat) + (sumN k (fun i => m r i * M' i c) + m r k * M' k c)
      have e2 : m r k = - q r := by
        show (if k < r then (if k = k then - q r else l r k - q r * l k k) else l r k) = _
        rw [if_pos z, if_pos rfl]
      have e3 : sumN k (fun i => m r i * M' i c) = 1 * sumN k (fun i => l r i * M' i c) + (- q r) * sumN k fun i => l k i * M' i c := by
        rw [← sum_lin]
        refine sum_congr fun i hi => ?_
        show (if k < r then (if i = k then - q r else l r i - q r * l k i) else l r i) * (M' i c : Rat) = _
        rw [if_pos z, if_neg (by omega)]
        grind
      rw [e2, e3]
      grind
    · have e1 : V r c = U r c := if_neg z
      rw [e1, hU r c hr hc, show min r k = r by omega, show min r (k + 1) = r by omega]
      congr 1
      refine sum_congr fun i hi => ?_
      show _ = (if k < r then (if i = k then - q r else l r i - q r * l k i) else l r i) * (M' i c : Rat)
      rw [if_neg z]
  have zV : ∀ r c, r < n → c < k + 1 → c < r → V r c = 0 := fun r c hr hc hcr => by
    by_cases z : k < r
    · have e1 : V r c = U r c - q r * U k c := if_pos z
      rw [e1]
      by_cases z2 : c = k
      · subst z2
        show U r c - U r c / U c c * U c c = 0
        rw [Rat.div_mul_cancel u0]
        grind
      · rw [hz r c hr (by omega) hcr, hz k c hk (by omega) (by omega)]
        grind
    · have e1 : V r c = U r c := if_neg z
      rw [e1]
      exact hz r c hr (by omega) hcr
  have dV : ∀ i, i ≤ k → V i i = U i i := fun i hi => if_neg (by omega)
  have pV : ((B k k : Int) : Rat) = prodN (k + 1) fun i => V i i := by
    show _ = prodN k (fun i => V i i) * V k k
    have : ∀ m, m ≤ k → prodN m (fun i => V i i) = prodN m fun i => U i i := fun m => by
      induction m with
      | zero => exact fun _ => rfl
      | succ m ih =>
        intro hm
        show prodN m _ * V m m = prodN m _ * U m m
        rw [ih (by omega), dV m (by omega)]
    rw [this k (Nat.le_refl _), ← hp, dV k (Nat.le_refl _), ekk]
  -- each is a minor, so a whole number
  have whole : ∀ r c, k < r → r < n → k ≤ c → c < n → ∃ z : Int, (B k k : Rat) * V r c = z := fun r c hr hr2 hc hc2 => by
    by_cases ck : c = k
    · subst ck
      refine ⟨0, ?_⟩
      rw [zV r c hr2 (by omega) hr]
      exact Rat.mul_zero _
    let f : Nat → Nat := fun t => if t ≤ k then t else r
    let g : Nat → Nat := fun t => if t ≤ k then t else c
    have fn : ∀ t, f t < n := fun t => by
      show (if t ≤ k then t else r) < n
      split <;> omega
    have gn : ∀ t, g t < n := fun t => by
      show (if t ≤ k then t else c) < n
      split <;> omega
    obtain ⟨z, hz'⟩ := det_int (n := k + 2) (A := fun t u => (M' (f t) (g u) : Rat)) fun t u => ⟨_, rfl⟩
    refine ⟨z, ?_⟩
    have t := det_tri (n := k + 2) (A := fun t u => (M' (f t) (g u) : Rat)) (B := fun t u => V (f t) (g u)) (l := fun t => m (f t)) (m := fun t => min (f t) (k + 1)) (fun t ht => by
      show min (if t ≤ k then t else r) (k + 1) ≤ t
      split <;> omega) fun t u ht hu => by
      show V (f t) (g u) = M' (f t) (g u) + sumN (min (f t) (k + 1)) fun i => m (f t) i * M' (f i) (g u)
      rw [hV _ _ (fn t) (gn u)]
      congr 1
      refine sum_congr fun i hi => ?_
      rw [show f i = i from if_pos (by omega)]
    have up : det (k + 2) (fun t u => V (f t) (g u)) = prodN (k + 2) fun i => V (f i) (g i) := det_upper fun t u ht hu hut => by
      refine zV (f t) (g u) (fn t) ?_ ?_
      · show (if u ≤ k then u else c) < k + 1
        rw [if_pos (by omega)]
        omega
      · show (if u ≤ k then u else c) < if t ≤ k then t else r
        rw [if_pos (by omega)]
        split <;> omega
    have pd : prodN (k + 2) (fun i => V (f i) (g i)) = (B k k : Rat) * V r c := by
      show prodN (k + 1) (fun i => V (f i) (g i)) * V (f (k + 1)) (g (k + 1)) = _
      have e1 : f (k + 1) = r := if_neg (by omega)
      have e2 : g (k + 1) = c := if_neg (by omega)
      have : ∀ m, m ≤ k + 1 → prodN m (fun i => V (f i) (g i)) = prodN m fun i => V i i := fun m => by
        induction m with
        | zero => exact fun _ => rfl
        | succ m ih =>
          intro hm
          show prodN m _ * V (f m) (g m) = prodN m _ * V m m
          rw [ih (by omega), show f m = m from if_pos (by omega), show g m = m from if_pos (by omega)]
      rw [e1, e2, this (k + 1) (Nat.le_refl _), ← pV]
    rw [← pd, ← up, t, hz']
  have ch : ∀ r c, ∃ z : Int, (k < r → r < n → k ≤ c → c < n → (B k k : Rat) * V r c = z) ∧ (r ≤ k → z = B r c) := fun r c => by
    by_cases a : k < r ∧ r < n ∧ k ≤ c ∧ c < n
    · obtain ⟨z, hz⟩ := whole r c a.1 a.2.1 a.2.2.1 a.2.2.2
      exact ⟨z, fun _ _ _ _ => hz, fun h => by omega⟩
    · exact ⟨B r c, fun h1 h2 h3 h4 => absurd ⟨h1, h2, h3, h4⟩ a, fun _ => rfl⟩
  refine ⟨fun r c => (ch r c).choose, fun r c hr hr2 hc hc2 => ?_, fun r c hr => (ch r c).choose_spec.2 hr, ⟨⟨M', V, m, hs, hd, hV, zV, fun i hi => ?_, pV, fun r c hr hr2 hc hc2 => ?_⟩⟩⟩
  · have e := (ch r c).choose_spec.1 hr hr2 hc hc2
    apply cast_inj
    rw [Rat.intCast_sub, Rat.intCast_mul, Rat.intCast_mul, Rat.intCast_mul, ← e, hB r c (by omega) hr2 hc hc2, hB r k (by omega) hr2 (Nat.le_refl _) hk, hB k c (Nat.le_refl _) hk hc hc2, ekk]
    have e1 : V r c = U r c - q r * U k c := if_pos hr
    have e2 : q r * U k k = U r k := Rat.div_mul_cancel u0
    rw [e1, ← e2]
    grind
  · rw [dV i (by omega)]
    by_cases z : i = k
    · rw [z]
      exact u0
    · exact hn i (by omega)
  · exact ((ch r c).choose_spec.1 (by omega) hr2 (by omega) hc2).symm
end
end K62
namespace K62
open PySem L2 DL
abbrev gridD (n : Nat) (A : Nat → Nat → Rat) : D := rowD n fun i => rowD n fun j => qD (A i j)
section
variable {n : Nat} {g : Nat → D} {M : Store}
theorem tupof_row {i : Int} : m_is_tuple_of [rowD n g, .int i] M = ok (.bl (decide ((n : Int) = i))) M := fv_rt0 rfl (by simp [seqS, ifS, retS, raiseF, raiseS, consA, nilA, binD, callD, nameD, cD, bindE_v, thenS_v, bindE_x, thenS_x, unD, parS, asgS, tupD, int2F, eq_int, ne_int, intF0, negF, notF, nilS, brD, fnD, addE, subE, ix0, ix1, dropS, asgG, tupG, consG, nameG, nilG, lstD, andD, orD, tstD, ownS, appS, len_tup, len_lst, tup_tup, wipeE, set1, set2, typ_int, typ_tup, typ_non, typ_lst, isF, chainD, asT, truD, len_row, typ_row, den_is_tuple_of]) rfl
theorem gcd_ev {a b : Int} {M : Store} : gcdF [.int a, .int b] M = ok (.int ((Nat.gcd a.natAbs b.natAbs : Nat) : Int)) M := rfl
theorem isrow_ok {a : Nat → Rat} : m__is_row [rowD n fun j => qD (a j), .int (n : Int)] M = ok (.bl true) M := by
  obtain ⟨ni, hni⟩ : ∃ i : Int, i = (n : Int) := ⟨_, rfl⟩
  have t1 : ∀ M, m_is_tuple_of [rowD n fun j => qD (a j), .int ni] M = ok (.bl true) M := fun M => by
    rw [hni, tupof_row, decide_eq_true rfl]
  have it : ∀ (e : DL.Env) M, e[0]? = some (some (rowD n fun j => qD (a j))) → itD (nameD 0) e M = ok ((List.range n).map fun j => qD (a j), fun _ => True) M := fun e M he => it_row (by
    unfold nameD
    rw [he])
  rw [← hni]
  obtain ⟨R, hR⟩ : ∃ R, R = rowD n fun j => qD (a j) := ⟨_, rfl⟩
  rw [← hR] at t1 it ⊢
  refine fv_wp (e0 := [some R, some (.int ni), none, none, none]) rfl ?_ rfl
  unfold den__is_row
  refine wp_nx (e' := [some R, some (.int ni), none, none, none]) (M' := M) (by simp [seqS, ifS, retS, raiseF, raiseS, consA, nilA, binD, callD, nameD, cD, bindE_v, thenS_v, bindE_x, thenS_x, unD, parS, asgS, tupD, int2F, eq_int, ne_int, intF0, negF, notF, nilS, brD, fnD, addE, subE, ix0, ix1, dropS, asgG, tupG, consG, nameG, nilG, lstD, andD, orD, tstD, ownS, appS, len_tup, len_lst, tup_tup, wipeE, set1, set2, typ_int, typ_tup, typ_non, typ_lst, isF, chainD, asT, truD, len_row, typ_row, t1]) ?_
  refine wp_for_nx ((List.range n).map fun j => qD (a j)) (fun _ e M' => M' = M ∧ ∃ b c d, e = [some R, some (.int ni), b, c, d]) (it _ _ rfl) (fun j d e M' hd hi => ?_) (fun _ _ _ => trivial) ⟨rfl, _, _, _, rfl⟩ (fun e' M' hi => ?_)
  · obtain ⟨rfl, b, c, d', rfl⟩ := hi
    obtain ⟨hj, rfl⟩ := map_getR hd
    have rd := (a j).reduced
    have dp := (a j).den_pos
    have gc : ∀ M, gcdF [.int (a j).num, .int ((a j).den : Int)] M = ok (.int 1) M := fun M => by
      rw [gcd_ev]
      have : Nat.gcd (a j).num.natAbs ((a j).den : Int).natAbs = 1 := rd
      rw [this]
      rfl
    show True ∧ ∃ e1 M1, nameG 2 (.tup [.int (a j).num, .int ((a j).den : Int)]) _ _ = _ ∧ _
    obtain ⟨l, hl⟩ : ∃ l : Int, l = ((a j).den : Int) := ⟨_, rfl⟩
    have l1 : ¬ l < 1 := by omega
    rw [← hl] at gc ⊢
    generalize (a j).num = u at *
    refine ⟨trivial, [some R, some (.int ni), some (.tup [.int u, .int l]), c, d'], M', rfl, ?_⟩
    refine wp_nx (e' := [some R, some (.int ni), some (.tup [.int u, .int l]), c, d']) (M' := M') (by simp [seqS, ifS, retS, raiseF, raiseS, consA, nilA, binD, callD, nameD, cD, bindE_v, thenS_v, bindE_x, thenS_x, unD, parS, asgS, tupD, int2F, eq_int, ne_int, intF0, negF, notF, nilS, brD, fnD, addE, subE, ix0, ix1, dropS, asgG, tupG, consG, nameG, nilG, lstD, andD, orD, tstD, ownS, appS, len_tup, len_lst, tup_tup, wipeE, set1, set2, typ_int, typ_tup, typ_non, typ_lst, isF, chainD, asT, truD, len_row, typ_row]) ?_
    refine wp_nx (e' := [some R, some (.int ni), some (.tup [.int u, .int l]), some (.int u), some (.int l)]) (M' := M') (by simp [seqS, ifS, retS, raiseF, raiseS, consA, nilA, binD, callD, nameD, cD, bindE_v, thenS_v, bindE_x, thenS_x, unD, parS, asgS, tupD, int2F, eq_int, ne_int, intF0, negF, notF, nilS, brD, fnD, addE, subE, ix0, ix1, dropS, asgG, tupG, consG, nameG, nilG, lstD, andD, orD, tstD, ownS, appS, len_tup, len_lst, tup_tup, wipeE, set1, set2, typ_int, typ_tup, typ_non, typ_lst, isF, chainD, asT, truD, len_row, typ_row]) ?_
    refine wp_nx (e' := [some R, some (.int ni), some (.tup [.int u, .int l]), some (.int u), some (.int l)]) (M' := M') (by simp [seqS, ifS, retS, raiseF, raiseS, consA, nilA, binD, callD, nameD, cD, bindE_v, thenS_v, bindE_x, thenS_x, unD, parS, asgS, tupD, int2F, eq_int, ne_int, intF0, negF, notF, nilS, brD, fnD, addE, subE, ix0, ix1, dropS, asgG, tupG, consG, nameG, nilG, lstD, andD, orD, tstD, ownS, appS, len_tup, len_lst, tup_tup, wipeE, set1, set2, typ_int, typ_tup, typ_non, typ_lst, isF, chainD, asT, truD, len_row, typ_row]) ?_
    refine wp_of (M' := M') (.nx [some R, some (.int ni), some (.tup [.int u, .int l]), some (.int u), some (.int l)]) ?_ ⟨_, .inl rfl, rfl, _, _, _, rfl⟩
    by_cases hc : l = 1
    · simp [seqS, ifS, retS, raiseF, raiseS, consA, nilA, binD, callD, nameD, cD, bindE_v, thenS_v, bindE_x, thenS_x, unD, parS, asgS, tupD, int2F, eq_int, ne_int, intF0, negF, notF, nilS, brD, fnD, addE, subE, ix0, ix1, dropS, asgG, tupG, consG, nameG, nilG, lstD, andD, orD, tstD, ownS, appS, len_tup, len_lst, tup_tup, wipeE, set1, set2, typ_int, typ_tup, typ_non, typ_lst, isF, chainD, asT, truD, len_row, typ_row, hc]
    · simp [seqS, ifS, retS, raiseF, raiseS, consA, nilA, binD, callD, nameD, cD, bindE_v, thenS_v, bindE_x, thenS_x, unD, parS, asgS, tupD, int2F, eq_int, ne_int, intF0, negF, notF, nilS, brD, fnD, addE, subE, ix0, ix1, dropS, asgG, tupG, consG, nameG, nilG, lstD, andD, orD, tstD, ownS, appS, len_tup, len_lst, tup_tup, wipeE, set1, set2, typ_int, typ_tup, typ_non, typ_lst, isF, chainD, asT, truD, len_row, typ_row, hc, lt_int, l1, gc]
  · obtain ⟨rfl, b, c, d', rfl⟩ := hi
    exact wp_of (.rt (.bl true)) (M' := M') (by simp [seqS, ifS, retS, raiseF, raiseS, consA, nilA, binD, callD, nameD, cD, bindE_v, thenS_v, bindE_x, thenS_x, unD, parS, asgS, tupD, int2F, eq_int, ne_int, intF0, negF, notF, nilS, brD, fnD, addE, subE, ix0, ix1, dropS, asgG, tupG, consG, nameG, nilG, lstD, andD, orD, tstD, ownS, appS, len_tup, len_lst, tup_tup, wipeE, set1, set2, typ_int, typ_tup, typ_non, typ_lst, isF, chainD, asT, truD, len_row, typ_row]) ⟨rfl, [], by simp⟩
theorem needrows_ok {A : Nat → Nat → Rat} {l m : Int} (h1 : l ≤ (n : Int)) (h2 : (n : Int) ≤ m) : m_need_rows [gridD n A, .int l, .int m] M = ok .non M := by
  obtain ⟨ni, hni⟩ : ∃ i : Int, i = (n : Int) := ⟨_, rfl⟩
  have r1 : ∀ i M, m__is_row [rowD n fun j => qD (A i j), .int ni] M = ok (.bl true) M := fun i M => by rw [hni]; exact isrow_ok
  have ln : ∀ M, lenF [gridD n A] M = ok (.int ni) M := fun M => by rw [hni]; exact len_row
  have it : ∀ (e : DL.Env) M, e[0]? = some (some (gridD n A)) → itD (nameD 0) e M = ok ((List.range n).map fun i => rowD n fun j => qD (A i j), fun _ => True) M := fun e M he => it_row (by
    unfold nameD
    rw [he])
  have ty : ∀ M, typF [gridD n A] M = ok (.ty "tuple") M := fun M => rfl
  obtain ⟨Q, hQ⟩ : ∃ Q : Nat → D, Q = fun i => rowD n fun j => qD (A i j) := ⟨_, rfl⟩
  have hQ' : ∀ i, (rowD n fun j => qD (A i j)) = Q i := fun i => by rw [hQ]
  rw [← hni] at h1 h2
  obtain ⟨R, hR⟩ : ∃ R, R = gridD n A := ⟨_, rfl⟩
  rw [← hR] at it ty ln ⊢
  simp only [hQ'] at it r1
  refine fv_wpn (e0 := [some R, some (.int l), some (.int m), none]) rfl ?_
  unfold den_need_rows
  have ch := chain_le (da := nameD 1) (db := callD lenF (consA (nameD 0) nilA)) (dc := nameD 2) (e := [some R, some (.int l), some (.int m), none]) (M := M) (i := l) (j := ni) (k := m) (by simp [seqS, ifS, retS, raiseF, raiseS, consA, nilA, binD, callD, nameD, cD, bindE_v, thenS_v, bindE_x, thenS_x, unD, parS, asgS, tupD, int2F, eq_int, ne_int, intF0, negF, notF, nilS, brD, fnD, addE, subE, ix0, ix1, dropS, asgG, tupG, consG, nameG, nilG, lstD, andD, orD, tstD, ownS, appS, len_tup, len_lst, tup_tup, wipeE, set1, set2, typ_int, typ_tup, typ_non, typ_lst, isF, chainD, asT, truD, len_row, typ_row]) (by simp [seqS, ifS, retS, raiseF, raiseS, consA, nilA, binD, callD, nameD, cD, bindE_v, thenS_v, bindE_x, thenS_x, unD, parS, asgS, tupD, int2F, eq_int, ne_int, intF0, negF, notF, nilS, brD, fnD, addE, subE, ix0, ix1, dropS, asgG, tupG, consG, nameG, nilG, lstD, andD, orD, tstD, ownS, appS, len_tup, len_lst, tup_tup, wipeE, set1, set2, typ_int, typ_tup, typ_non, typ_lst, isF, chainD, asT, truD, len_row, typ_row, ln]) (by simp [seqS, ifS, retS, raiseF, raiseS, consA, nilA, binD, callD, nameD, cD, bindE_v, thenS_v, bindE_x, thenS_x, unD, parS, asgS, tupD, int2F, eq_int, ne_int, intF0, negF, notF, nilS, brD, fnD, addE, subE, ix0, ix1, dropS, asgG, tupG, consG, nameG, nilG, lstD, andD, orD, tstD, ownS, appS, len_tup, len_lst, tup_tup, wipeE, set1, set2, typ_int, typ_tup, typ_non, typ_lst, isF, chainD, asT, truD, len_row, typ_row])
  rw [decide_eq_true h1, decide_eq_true h2] at ch
  refine wp_nx (e' := [some R, some (.int l), some (.int m), none]) (M' := M) ((if_f (or_v (a := false) (b := false) (by simp [seqS, ifS, retS, raiseF, raiseS, consA, nilA, binD, callD, nameD, cD, bindE_v, thenS_v, bindE_x, thenS_x, unD, parS, asgS, tupD, int2F, eq_int, ne_int, intF0, negF, notF, nilS, brD, fnD, addE, subE, ix0, ix1, dropS, asgG, tupG, consG, nameG, nilG, lstD, andD, orD, tstD, ownS, appS, len_tup, len_lst, tup_tup, wipeE, set1, set2, typ_int, typ_tup, typ_non, typ_lst, isF, chainD, asT, truD, len_row, typ_row, ty]) fun _ => not_v ch)).trans rfl) ?_
  refine wp_for ((List.range n).map fun i => Q i) (fun _ e M' => M' = M ∧ ∃ b, e = [some R, some (.int l), some (.int m), b]) (it _ _ rfl) (fun j d e M' hd hi => ?_) (fun _ _ _ => trivial) ⟨rfl, _, rfl⟩ (fun e' M' hi => ?_)
  · obtain ⟨rfl, b, rfl⟩ := hi
    obtain ⟨hj, rfl⟩ := map_getR hd
    have q := r1 j
    generalize Q j = q0 at *
    exact ⟨trivial, [some R, some (.int l), some (.int m), some q0], M', rfl, wp_of (M' := M') (.nx [some R, some (.int l), some (.int m), some q0]) (by simp [seqS, ifS, retS, raiseF, raiseS, consA, nilA, binD, callD, nameD, cD, bindE_v, thenS_v, bindE_x, thenS_x, unD, parS, asgS, tupD, int2F, eq_int, ne_int, intF0, negF, notF, nilS, brD, fnD, addE, subE, ix0, ix1, dropS, asgG, tupG, consG, nameG, nilG, lstD, andD, orD, tstD, ownS, appS, len_tup, len_lst, tup_tup, wipeE, set1, set2, typ_int, typ_tup, typ_non, typ_lst, isF, chainD, asT, truD, len_row, typ_row, ln, q]) ⟨_, .inl rfl, rfl, _, rfl⟩⟩
  · obtain ⟨rfl, b, rfl⟩ := hi
    exact ⟨⟨_, rfl⟩, [], by simp⟩
theorem divInt_pos {a b : Int} (hb : 0 < b) : (Rat.divInt a b).num = a / ((Nat.gcd a.natAbs b.natAbs : Nat) : Int) ∧ ((Rat.divInt a b).den : Int) = b / ((Nat.gcd a.natAbs b.natAbs : Nat) : Int) := by
  have e : ((Nat.gcd a.natAbs b.natAbs : Nat) : Int) = ((Int.gcd b a : Nat) : Int) := by rw [Int.gcd_comm]; rfl
  constructor
  · rw [Rat.num_divInt, Int.sign_eq_one_of_pos hb, Int.one_mul, e]
  · rw [Rat.den_divInt, if_neg (by omega), e]
    rw [Int.natCast_ediv, Int.natAbs_of_nonneg (Int.le_of_lt hb)]
theorem fraction_ok {a b : Int} {k : Nat} (hb : 0 < b) (h : Bd k b) (hk : k < 9000) : m_fraction [.int a, .int b] M = ok (qD (Rat.divInt a b)) M := by
  obtain ⟨e1, e2⟩ := divInt_pos (a := a) hb
  have g0 : 0 < Nat.gcd a.natAbs b.natAbs := Nat.gcd_pos_of_pos_right _ (by omega)
  have gl : Nat.gcd a.natAbs b.natAbs ≤ b.natAbs := Nat.gcd_le_right _ (by omega)
  have da : ((Nat.gcd a.natAbs b.natAbs : Nat) : Int) ∣ a := Int.natAbs_dvd_natAbs.mp (by simpa using Nat.gcd_dvd_left _ _)
  have db : ((Nat.gcd a.natAbs b.natAbs : Nat) : Int) ∣ b := Int.natAbs_dvd_natAbs.mp (by simpa using Nat.gcd_dvd_right _ _)
  have gb : Bd k ((Nat.gcd a.natAbs b.natAbs : Nat) : Int) := Nat.lt_of_le_of_lt gl h
  have ge : ∀ M, gcdF [.int a, .int b] M = ok (.int ((Nat.gcd a.natAbs b.natAbs : Nat) : Int)) M := fun M => gcd_ev
  show m_fraction [.int a, .int b] M = ok (.tup [.int (Rat.divInt a b).num, .int ((Rat.divInt a b).den : Int)]) M
  rw [e1, e2]
  generalize ((Nat.gcd a.natAbs b.natAbs : Nat) : Int) = G at *
  have G0 : G ≠ 0 := by rintro rfl; simp at db; omega
  have fa : ∀ M, fdivF (.int a) (.int G) M = ok (.int (a / G)) M := fun M => fdivE gb G0 da hk
  have fb : ∀ M, fdivF (.int b) (.int G) M = ok (.int (b / G)) M := fun M => fdivE gb G0 db hk
  have b0 : ¬ b = 0 := by omega
  have b1 : ¬ b < 0 := by omega
  exact fv_rt0 (e0 := [some (.int a), some (.int b), none]) rfl (by simp [seqS, ifS, retS, raiseF, raiseS, consA, nilA, binD, callD, nameD, cD, bindE_v, thenS_v, bindE_x, thenS_x, unD, parS, asgS, tupD, int2F, eq_int, ne_int, intF0, negF, notF, nilS, brD, fnD, addE, subE, ix0, ix1, dropS, asgG, tupG, consG, nameG, nilG, lstD, andD, orD, tstD, ownS, appS, len_tup, len_lst, tup_tup, wipeE, set1, set2, typ_int, typ_tup, typ_non, typ_lst, isF, chainD, asT, truD, len_row, typ_row, den_fraction, b0, b1, lt_int, ge, fa, fb]) rfl
end
end K62
namespace K62
open PySem L2 DL
section
variable {M : Store} {e : DL.Env}
abbrev intsD (n : Nat) (X : Nat → Int) : List D := (List.range n).map fun c => D.int (X c)
theorem ints_get {n c : Nat} {X : Nat → Int} (h : c < n) : (intsD n X)[c]? = some (.int (X c)) := by
  rw [List.getElem?_map, List.getElem?_range h]
  rfl
theorem clear_ok {ri fi n k : Nat} {X Y Z : Nat → Int} {p : Int} (hr : M[ri]? = some (.lst (intsD n X))) (hf : M[fi]? = some (.lst (intsD n Y))) (hne : ri ≠ fi) (hk : k < n) (hn : n ≤ 7) (hp : p ≠ 0) (bp : Bd 8000 p) (bX : ∀ c, c < n → Bd 20000 (X c)) (bY : ∀ c, c < n → Bd 20000 (Y c)) (hz : ∀ c, k ≤ c → c < n → X c * Y k - X k * Y c = p * Z c) :
    m__clear [.loc ri, .loc fi, .int (k : Int), .int p] M = ok .non (M.set ri (.lst (intsD n fun c => if c < k then X c else Z c))) := by
  have ltr : ri < M.length := (List.getElem?_eq_some_iff.mp hr).1
  let R : Nat → Nat → Int := fun j c => if c < k then X c else if c < k + j then Z c else X c
  let MM : Nat → Store := fun j => M.set ri (.lst (intsD n (R j)))
  have M0 : MM 0 = M := by
    have e1 : intsD n (R 0) = intsD n X := List.map_congr_left fun c _ => by
      show D.int (if c < k then X c else if c < k + 0 then Z c else X c) = _
      by_cases c1 : c < k
      · rw [if_pos c1]
      · rw [if_neg c1, if_neg (by omega)]
    show M.set ri (.lst (intsD n (R 0))) = M
    rw [e1]
    exact set_self hr
  have gr : ∀ j, (MM j)[ri]? = some (.lst (intsD n (R j))) := fun j => List.getElem?_set_self ltr
  have gf : ∀ j, (MM j)[fi]? = some (.lst (intsD n Y)) := fun j => by
    show (M.set ri _)[fi]? = _
    rw [List.getElem?_set_ne hne]
    exact hf
  obtain ⟨K, hK⟩ : ∃ K : Int, K = (k : Int) := ⟨_, rfl⟩
  obtain ⟨T, hT⟩ : ∃ T : Int, T = Y k := ⟨_, rfl⟩
  obtain ⟨O, hO⟩ : ∃ T : Int, T = X k := ⟨_, rfl⟩
  obtain ⟨N, hN⟩ : ∃ T : Int, T = (n : Int) := ⟨_, rfl⟩
  have i1 : ixF (.loc fi) (.int K) M = ok (.int T) M := by rw [hK, hT]; exact ix_loc hf (at_nat (ints_get hk))
  have i2 : ixF (.loc ri) (.int K) M = ok (.int O) M := by rw [hK, hO]; exact ix_loc hr (at_nat (ints_get hk))
  have ln : lenF [.loc ri] M = ok (.int N) M := by rw [len_loc hr, hN]; simp
  let E : Option D → DL.Env := fun a => [some (.loc ri), some (.loc fi), some (.int K), some (.int p), some (.int T), some (.int O), some (.int N), a]
  have key : Wp (den__clear [some (.loc ri), some (.loc fi), some (.int K), some (.int p), none, none, none, none] M) (fun f M' => (∃ e', f = .nx e') ∧ M' = MM (n - k)) := by
    unfold den__clear
    refine wp_nx (e' := [some (.loc ri), some (.loc fi), some (.int K), some (.int p), some (.int T), none, none, none]) (M' := M) (by simp [seqS, ifS, retS, raiseF, raiseS, consA, nilA, binD, callD, nameD, cD, bindE_v, thenS_v, bindE_x, thenS_x, unD, parS, asgS, tupD, int2F, eq_int, ne_int, intF0, negF, notF, nilS, brD, fnD, addE, subE, ix0, ix1, dropS, asgG, tupG, consG, nameG, nilG, lstD, andD, orD, tstD, ownS, appS, len_tup, len_lst, tup_tup, wipeE, set1, set2, typ_int, typ_tup, typ_non, typ_lst, isF, chainD, asT, truD, len_row, typ_row, i1]) ?_
    refine wp_nx (e' := [some (.loc ri), some (.loc fi), some (.int K), some (.int p), some (.int T), some (.int O), none, none]) (M' := M) (by simp [seqS, ifS, retS, raiseF, raiseS, consA, nilA, binD, callD, nameD, cD, bindE_v, thenS_v, bindE_x, thenS_x, unD, parS, asgS, tupD, int2F, eq_int, ne_int, intF0, negF, notF, nilS, brD, fnD, addE, subE, ix0, ix1, dropS, asgG, tupG, consG, nameG, nilG, lstD, andD, orD, tstD, ownS, appS, len_tup, len_lst, tup_tup, wipeE, set1, set2, typ_int, typ_tup, typ_non, typ_lst, isF, chainD, asT, truD, len_row, typ_row, i2]) ?_
    refine wp_nx (e' := E none) (M' := M) (by simp [seqS, ifS, retS, raiseF, raiseS, consA, nilA, binD, callD, nameD, cD, bindE_v, thenS_v, bindE_x, thenS_x, unD, parS, asgS, tupD, int2F, eq_int, ne_int, intF0, negF, notF, nilS, brD, fnD, addE, subE, ix0, ix1, dropS, asgG, tupG, consG, nameG, nilG, lstD, andD, orD, tstD, ownS, appS, len_tup, len_lst, tup_tup, wipeE, set1, set2, typ_int, typ_tup, typ_non, typ_lst, isF, chainD, asT, truD, len_row, typ_row, ln, E]) ?_
    refine wp_for ((List.range (n - k)).map fun (j : Nat) => D.int ((k + j : Nat) : Int)) (fun j e M' => M' = MM j ∧ ∃ a, e = E a) (it_r2 (by show ok (D.int K) M = _; rw [hK]) (by show ok (D.int N) M = _; rw [hN]) (by omega) (by omega)) (fun j d e M' hd hi => ?_) (fun _ _ _ => trivial) ⟨M0.symm, none, rfl⟩ (fun e' M' hi => ?_)
    · obtain ⟨rfl, a, rfl⟩ := hi
      obtain ⟨hj, rfl⟩ := map_getR hd
      have hkj : k + j < n := by omega
      obtain ⟨C, hC⟩ : ∃ C : Int, C = ((k + j : Nat) : Int) := ⟨_, rfl⟩
      have q1 : ixF (.loc ri) (.int C) (MM j) = ok (.int (X (k + j))) (MM j) := by
        rw [hC]
        refine ix_loc (gr j) ((at_nat (ints_get hkj)).trans ?_)
        show some (D.int (if k + j < k then X (k + j) else if k + j < k + j then Z (k + j) else X (k + j))) = _
        (rw [if_neg (by omega), if_neg (by omega)])
      have q2 : ixF (.loc fi) (.int C) (MM j) = ok (.int (Y (k + j))) (MM j) := by
        rw [hC]
        exact ix_loc (gf j) (at_nat (ints_get hkj))
      have z := hz (k + j) (by omega) hkj
      have b1 := bX (k + j) hkj
      have b2 := bY (k + j) hkj
      have b3 : Bd 20000 T := by rw [hT]; exact bY k hk
      have b4 : Bd 20000 O := by rw [hO]; exact bX k hk
      rw [← hT, ← hO] at z
      generalize X (k + j) = x at *
      generalize Y (k + j) = y at *
      have m1 : ∀ M, mulF (.int x) (.int T) M = ok (.int (x * T)) M := fun M => mulB b1 b3 (by decide)
      have m2 : ∀ M, mulF (.int O) (.int y) M = ok (.int (O * y)) M := fun M => mulB b4 b2 (by decide)
      have dv : ∀ M, fdivF (.int (x * T - O * y)) (.int p) M = ok (.int (Z (k + j))) M := fun M => by
        rw [fdivE bp hp (by rw [z]; exact Int.dvd_mul_right _ _) (by decide), z, Int.mul_ediv_cancel_left _ hp]
      rw [← hC]
      refine ⟨trivial, E (some (.int C)), MM j, by simp [seqS, ifS, retS, raiseF, raiseS, consA, nilA, binD, callD, nameD, cD, bindE_v, thenS_v, bindE_x, thenS_x, unD, parS, asgS, tupD, int2F, eq_int, ne_int, intF0, negF, notF, nilS, brD, fnD, addE, subE, ix0, ix1, dropS, asgG, tupG, consG, nameG, nilG, lstD, andD, orD, tstD, ownS, appS, len_tup, len_lst, tup_tup, wipeE, set1, set2, typ_int, typ_tup, typ_non, typ_lst, isF, chainD, asT, truD, len_row, typ_row, E], ?_⟩
      refine wp_of (M' := MM (j + 1)) (.nx (E (some (.int C)))) ?_ ⟨_, .inl rfl, rfl, _, rfl⟩
      generalize x * T = xt at *
      generalize O * y = oy at *
      obtain ⟨zz, hzz⟩ : ∃ z, z = Z (k + j) := ⟨_, rfl⟩
      rw [← hzz] at dv
      have ev : binD fdivF (binD subF (binD mulF (binD ixF (nameD 0) (nameD 7)) (nameD 4)) (binD mulF (nameD 5) (binD ixF (nameD 1) (nameD 7)))) (nameD 3) (E (some (.int C))) (MM j) = ok (.int zz) (MM j) := by
        generalize MM j = M1 at *
        simp [seqS, ifS, retS, raiseF, raiseS, consA, nilA, binD, callD, nameD, cD, bindE_v, thenS_v, bindE_x, thenS_x, unD, parS, asgS, tupD, int2F, eq_int, ne_int, intF0, negF, notF, nilS, brD, fnD, addE, subE, ix0, ix1, dropS, asgG, tupG, consG, nameG, nilG, lstD, andD, orD, tstD, ownS, appS, len_tup, len_lst, tup_tup, wipeE, set1, set2, typ_int, typ_tup, typ_non, typ_lst, isF, chainD, asT, truD, len_row, typ_row, E, q1, q2, m1, m2, dv]
      unfold asgG
      rw [ev, thenS_v]
      rw [subG_at (j := k + j) rfl rfl hC (gr j) (by simp; omega)]
      have e1 : (MM j).set ri (.lst ((intsD n (R j)).set (k + j) (.int zz))) = MM (j + 1) := by
        show (M.set ri _).set ri _ = M.set ri _
        rw [List.set_set, map_set hkj]
        refine congrArg (fun l => M.set ri (Ob.lst l)) (List.map_congr_left fun c _ => ?_)
        show (if c = k + j then D.int zz else .int (if c < k then X c else if c < k + j then Z c else X c)) = .int (if c < k then X c else if c < k + (j + 1) then Z c else X c)
        by_cases c1 : c = k + j
        · rw [if_pos c1, if_neg (by omega), if_pos (by omega), c1, hzz]
        · rw [if_neg c1]
          by_cases c2 : c < k
          · rw [if_pos c2, if_pos c2]
          · rw [if_neg c2, if_neg c2]
            by_cases c3 : c < k + j
            · rw [if_pos c3, if_pos (by omega)]
            · rw [if_neg c3, if_neg (by omega)]
      rw [e1]
    · obtain ⟨rfl, a, rfl⟩ := hi
      refine ⟨⟨_, rfl⟩, ?_⟩
      simp
  obtain ⟨f, M1, h1, ⟨e', rfl⟩, rfl⟩ := key
  have e1 : MM (n - k) = M.set ri (.lst (intsD n fun c => if c < k then X c else Z c)) := by
    refine congrArg (fun l => M.set ri (Ob.lst l)) (List.map_congr_left fun c hc => ?_)
    have := List.mem_range.mp hc
    show D.int (if c < k then X c else if c < k + (n - k) then Z c else X c) = .int (if c < k then X c else Z c)
    rw [if_pos (show c < k + (n - k) by omega)]
  rw [e1] at h1
  rw [← hK]
  refine fv_nx2 (e0 := [some (.loc ri), some (.loc fi), some (.int K), some (.int p), none, none, none, none]) [] rfl (by rw [h1, List.append_nil]) (by rw [List.length_set]) (set_ok (nls_map fun _ _ => rfl))
end
end K62
namespace K62
open PySem L2 DL
/-- rows as own lists; nothing of it lies below m -/
structure Mat (M : Store) (m w n : Nat) (l : Nat → Nat) (B : MI) : Prop where
  cw : M[w]? = some (.lst ((List.range n).map fun i => D.loc (l i)))
  r : ∀ i, i < n → M[l i]? = some (.lst (intsD n (B i)))
  inj : ∀ i j, i < n → j < n → l i = l j → i = j
  nw : ∀ i, i < n → l i ≠ w
  lo : ∀ i, i < n → m ≤ l i
  lw : m ≤ w
theorem Bar.congr {n k : Nat} {M B B' : MI} {s p : Int} (b : Bar n M k s p B) (h : ∀ r c, k ≤ r → r < n → k ≤ c → c < n → B' r c = B r c) : Bar n M k s p B' := by
  obtain ⟨M', U, l, h1, h2, h3, h4, h5, h6, h7⟩ := b.ex
  exact ⟨M', U, l, h1, h2, h3, h4, h5, h6, fun r c a1 a2 a3 a4 => by rw [h r c a1 a2 a3 a4]; exact h7 r c a1 a2 a3 a4⟩
/-- sizes behind k columns -/
def bt (k : Nat) : Nat := 2 ^ k * 111 - 1
theorem bt_succ (k : Nat) : bt (k + 1) = 2 * bt k + 1 := by
  unfold bt
  have := Nat.two_pow_pos k
  rw [Nat.pow_succ]
  omega
theorem bt_le : ∀ k, k < 7 → bt k < 8000 := by decide
theorem bt_le7 : ∀ k, k < 8 → bt k < 20000 := by decide
theorem bt_mono {j k : Nat} (h : j ≤ k) : bt j ≤ bt k := by
  unfold bt
  have := Nat.pow_le_pow_right (show 0 < 2 by decide) h
  omega
theorem bd_sub {k : Nat} {a b : Int} (ha : Bd k a) (hb : Bd k b) : Bd (k + 1) (a - b) := by
  unfold Bd at *
  rw [Nat.pow_succ]
  omega
theorem bd_fac {k : Nat} {p z : Int} (hp : p ≠ 0) (h : Bd k (p * z)) : Bd k z := by
  unfold Bd at *
  refine Nat.lt_of_le_of_lt ?_ h
  rw [Int.natAbs_mul]
  exact Nat.le_mul_of_pos_left _ (by omega)
/-- what lies below m stays; what is changed holds nothing of what comes later -/
structure Kp (m : Nat) (M M' : Store) : Prop where
  len : M'.length = M.length
  take : M'.take m = M.take m
  nl : ∀ (j : Nat) (ob : Ob), M'[j]? = some ob → M[j]? = some ob ∨ nlOb M.length ob = true
theorem Kp.refl {m : Nat} {M : Store} : Kp m M M := ⟨rfl, rfl, fun _ _ h => .inl h⟩
theorem Kp.trans {m : Nat} {M M1 M2 : Store} (a : Kp m M M1) (b : Kp m M1 M2) : Kp m M M2 := ⟨b.len.trans a.len, b.take.trans a.take, fun j ob h => by
  rcases b.nl j ob h with h | h
  · exact a.nl j ob h
  · rw [a.len] at h
    exact .inr h⟩
theorem Kp.set {m i : Nat} {M : Store} {ob : Ob} (hi : m ≤ i) (h : nlOb M.length ob = true) : Kp m M (M.set i ob) := ⟨List.length_set, List.take_set_of_le hi, fun j o q => by
  by_cases hj : i = j
  · subst hj
    by_cases lt : i < M.length
    · rw [List.getElem?_set_self lt] at q
      cases q
      exact .inr h
    · rw [List.getElem?_eq_none (by rw [List.length_set]; omega)] at q
      cases q
  · rw [List.getElem?_set_ne hj] at q
    exact .inl q⟩
section
variable {M0 : Store} {m w n : Nat}
/-- the rows below are cleared -/
theorem clear_all {k : Nat} {M : Store} {l : Nat → Nat} {B B' : MI} {p : Int} {e : DL.Env} (mt : Mat M m w n l B) (hk : k < n) (hn : n ≤ 7) (hp : p ≠ 0) (bp : Bd 8000 p) (bB : ∀ r c, r < n → c < n → Bd 20000 (B r c))
    (hz : ∀ r c, k < r → r < n → k ≤ c → c < n → B r c * B k k - B r k * B k c = p * B' r c) {di : DenI} (hdi : di e M = ok (((List.range (n - (k + 1))).map fun j => D.loc (l (k + 1 + j))), fun _ => True) M)
    (h4 : e[4]? = some (some (.int (k : Int)))) (h6 : e[6]? = some (some (.loc (l k)))) (h2 : e[2]? = some (some (.int p))) (h7 : 7 < e.length) {P : Flw → Store → Prop} {b : DenS}
    (kk : ∀ M' a, Mat M' m w n l (fun r c => if k < r ∧ k ≤ c then B' r c else B r c) → Kp m M M' → Wp (b (e.set 7 a) M') P) (h7' : ∃ a, e.set 7 a = e) :
    Wp (seqS (forI (nameG 7) di (dropS (fnD m__clear 4 [] (consA (nameD 7) (consA (nameD 6) (consA (nameD 4) (consA (nameD 2) (nilA)))))))) b e M) P := by
  refine wp_for_nx ((List.range (n - (k + 1))).map fun j => D.loc (l (k + 1 + j))) (fun j e' M' => (∃ a, e' = e.set 7 a) ∧ Mat M' m w n l (fun r c => if k < r ∧ r < k + 1 + j ∧ k ≤ c then B' r c else B r c) ∧ Kp m M M') hdi (fun j d e' M' hd hi => ?_) (fun _ _ _ => trivial) ⟨by obtain ⟨a, ha⟩ := h7'; exact ⟨a, ha.symm⟩, ?_, Kp.refl⟩ (fun e' M' hi => ?_)
  · obtain ⟨⟨a, rfl⟩, mt', kp⟩ := hi
    obtain ⟨hj, rfl⟩ := map_getR hd
    have hr : k + 1 + j < n := by omega
    have c1 := clear_ok (M := M') (ri := l (k + 1 + j)) (fi := l k) (n := n) (k := k) (p := p) (Z := B' (k + 1 + j)) (mt'.r _ hr) (mt'.r _ hk) (fun z => by have := mt'.inj _ _ hr hk z; omega) hk hn hp bp
      (fun c hc => by
        show Bd 20000 (if k < k + 1 + j ∧ k + 1 + j < k + 1 + j ∧ k ≤ c then B' (k + 1 + j) c else B (k + 1 + j) c)
        rw [if_neg (by omega)]
        exact bB _ _ hr hc)
      (fun c hc => by
        show Bd 20000 (if k < k ∧ k < k + 1 + j ∧ k ≤ c then B' k c else B k c)
        rw [if_neg (by omega)]
        exact bB _ _ hk hc)
      (fun c hc1 hc2 => by
        show (if k < k + 1 + j ∧ k + 1 + j < k + 1 + j ∧ k ≤ c then B' (k + 1 + j) c else B (k + 1 + j) c) * (if k < k ∧ k < k + 1 + j ∧ k ≤ k then B' k k else B k k) - (if k < k + 1 + j ∧ k + 1 + j < k + 1 + j ∧ k ≤ k then B' (k + 1 + j) k else B (k + 1 + j) k) * (if k < k ∧ k < k + 1 + j ∧ k ≤ c then B' k c else B k c) = _
        rw [if_neg (by omega), if_neg (by omega), if_neg (by omega), if_neg (by omega)]
        exact hz _ _ (by omega) hr hc1 hc2)
    have lr := mt'.lo _ hr
    refine ⟨trivial, e.set 7 (some (.loc (l (k + 1 + j)))), M', ?_, ?_⟩
    · show some (Flw.nx ((e.set 7 a).set 7 (some (.loc (l (k + 1 + j))))), M') = _
      rw [List.set_set]
    · refine wp_of (M' := M'.set (l (k + 1 + j)) (.lst (intsD n fun c => if c < k then (if k < k + 1 + j ∧ k + 1 + j < k + 1 + j ∧ k ≤ c then B' (k + 1 + j) c else B (k + 1 + j) c) else B' (k + 1 + j) c))) (.nx (e.set 7 (some (.loc (l (k + 1 + j)))))) ?_ ⟨_, .inl rfl, ⟨_, rfl⟩, ?_, ?_⟩
      · have g7 : ∀ M, nameD 7 (e.set 7 (some (.loc (l (k + 1 + j))))) M = ok (.loc (l (k + 1 + j))) M := fun M => by
          unfold nameD
          rw [List.getElem?_set_self h7]
        have g6 : ∀ M, nameD 6 (e.set 7 (some (.loc (l (k + 1 + j))))) M = ok (.loc (l k)) M := fun M => by
          unfold nameD
          rw [List.getElem?_set_ne (by decide), h6]
        have g4 : ∀ M, nameD 4 (e.set 7 (some (.loc (l (k + 1 + j))))) M = ok (.int (k : Int)) M := fun M => by
          unfold nameD
          rw [List.getElem?_set_ne (by decide), h4]
        have g2 : ∀ M, nameD 2 (e.set 7 (some (.loc (l (k + 1 + j))))) M = ok (.int p) M := fun M => by
          unfold nameD
          rw [List.getElem?_set_ne (by decide), h2]
        unfold dropS fnD consA nilA
        simp only [g7, g6, g4, g2, bindE_v, thenS_v, consA, nilA]
        simp only [List.append_nil, List.length_cons, List.length_nil, c1, thenS_v]
        simp [c1, thenS_v]
      · refine ⟨?_, fun i hi => ?_, mt'.inj, mt'.nw, mt'.lo, mt'.lw⟩
        · rw [List.getElem?_set_ne (mt'.nw _ hr)]
          exact mt'.cw
        · by_cases hi2 : i = k + 1 + j
          · subst hi2
            rw [List.getElem?_set_self (get_lt (mt'.r _ hr))]
            refine congrArg (fun l => some (Ob.lst l)) (List.map_congr_left fun c hc => ?_)
            dsimp only
            by_cases c1 : c < k
            · rw [if_pos c1, if_neg (by omega), if_neg (by omega)]
            · rw [if_neg c1, if_pos (by omega)]
          · rw [List.getElem?_set_ne (fun z => hi2 (mt'.inj _ _ hr hi z).symm), mt'.r _ hi]
            refine congrArg (fun l => some (Ob.lst l)) (List.map_congr_left fun c hc => ?_)
            dsimp only
            by_cases c1 : k < i ∧ i < k + 1 + j ∧ k ≤ c
            · rw [if_pos c1, if_pos (by omega)]
            · rw [if_neg c1, if_neg (by omega)]
      · exact kp.trans (Kp.set lr (nls_map fun _ _ => rfl))
  · refine ⟨mt.cw, fun i hi => ?_, mt.inj, mt.nw, mt.lo, mt.lw⟩
    rw [mt.r _ hi]
    refine congrArg (fun l => some (Ob.lst l)) (List.map_congr_left fun c hc => ?_)
    dsimp only
    rw [if_neg (by omega)]
  · obtain ⟨⟨a, rfl⟩, mt', kp⟩ := hi
    refine kk M' a ⟨mt'.cw, fun i hi => ?_, mt'.inj, mt'.nw, mt'.lo, mt'.lw⟩ kp
    rw [mt'.r _ hi]
    refine congrArg (fun l => some (Ob.lst l)) (List.map_congr_left fun c hc => ?_)
    dsimp only
    (rw [List.length_map, List.length_range])
    by_cases c1 : k < i ∧ k ≤ c
    · rw [if_pos c1, if_pos (by omega)]
    · rw [if_neg c1, if_neg (by omega)]
end
end K62
namespace K62
open PySem L2 DL
theorem Bar.sg {n k : Nat} {M B : MI} {s p : Int} (b : Bar n M k s p B) : s = 1 ∨ s = -1 := by
  obtain ⟨M', U, l, h1, _⟩ := b.ex
  exact h1
def swN (p q : Nat) (l : Nat → Nat) : Nat → Nat := fun i => if i = p then l q else if i = q then l p else l i
theorem Mat.swap {M : Store} {m w n k f : Nat} {l : Nat → Nat} {B : MI} (mt : Mat M m w n l B) (hk : k < n) (hf : f < n) (hkf : k < f) :
    Mat (M.set w (.lst ((List.range n).map fun i => D.loc (swN k f l i)))) m w n (swN k f l) (swI k f B) := by
  have key : ∀ i, i < n → ∃ j, j < n ∧ swN k f l i = l j ∧ swI k f B i = B j ∧ j = if i = k then f else if i = f then k else i := fun i hi => by
    by_cases h1 : i = k
    · exact ⟨f, hf, by unfold swN; rw [if_pos h1], by unfold swI; funext c; rw [if_pos h1], by rw [if_pos h1]⟩
    · by_cases h2 : i = f
      · exact ⟨k, hk, by unfold swN; rw [if_neg h1, if_pos h2], by unfold swI; funext c; rw [if_neg h1, if_pos h2], by rw [if_neg h1, if_pos h2]⟩
      · exact ⟨i, hi, by unfold swN; rw [if_neg h1, if_neg h2], by unfold swI; funext c; rw [if_neg h1, if_neg h2], by rw [if_neg h1, if_neg h2]⟩
  refine ⟨List.getElem?_set_self (get_lt mt.cw), fun i hi => ?_, fun i j hi hj h => ?_, fun i hi => ?_, fun i hi => ?_, mt.lw⟩
  · obtain ⟨j, hj, e1, e2, _⟩ := key i hi
    rw [e1, List.getElem?_set_ne (mt.nw j hj).symm, mt.r j hj, e2]
  · obtain ⟨i', hi', e1, _, q1⟩ := key i hi
    obtain ⟨j', hj', e2, _, q2⟩ := key j hj
    rw [e1, e2] at h
    have := mt.inj _ _ hi' hj' h
    rw [q1, q2] at this
    split at this <;> split at this <;> (try split at this) <;> (try split at this) <;> omega
  · obtain ⟨j, hj, e1, _⟩ := key i hi
    rw [e1]
    exact mt.nw j hj
  · obtain ⟨j, hj, e1, _⟩ := key i hi
    rw [e1]
    exact mt.lo j hj
theorem app_get {M X : Store} {i : Nat} {o : Ob} (h : M[i]? = some o) : (M ++ X)[i]? = some o := by
  rw [List.getElem?_append_left (get_lt h)]
  exact h
section
variable {M : Store} {m w n : Nat} {l : Nat → Nat} {B : MI}
theorem ix_row_of (mt : Mat M m w n l B) {i : Nat} {I : Int} (hI : I = (i : Int)) (hi : i < n) (X : Store) : ixF (.loc w) (.int I) (M ++ X) = ok (.loc (l i)) (M ++ X) := by
  rw [hI]
  exact ix_loc (app_get mt.cw) (at_nat (get_mapR hi))
theorem ix_cell (mt : Mat M m w n l B) {i c : Nat} {C : Int} (hC : C = (c : Int)) (hi : i < n) (hc : c < n) (X : Store) : ixF (.loc (l i)) (.int C) (M ++ X) = ok (.int (B i c)) (M ++ X) := by
  rw [hC]
  exact ix_loc (app_get (mt.r i hi)) (at_nat (ints_get hc))
abbrev fndD (B : MI) (n k : Nat) : List D := ((List.range (n - k)).filter fun j => decide (B (k + j) k ≠ 0)).map fun (j : Nat) => D.int ((k + j : Nat) : Int)
/-- rows that don't begin with nought -/
theorem found_ok (mt : Mat M m w n l B) {k : Nat} {K N : Int} {e : DL.Env} (hK : K = (k : Int)) (hN : N = (n : Int)) (hk : k < n) (hn : n ≤ 7) (h0 : ∀ x, (e.set 7 x)[0]? = some (some (.loc w))) (h4 : ∀ x, (e.set 7 x)[4]? = some (some (.int K))) (h3 : e[3]? = some (some (.int N))) (h4' : e[4]? = some (some (.int K))) (h7 : 7 < e.length) :
    cutE (compD (set1 7) (binD (neF) (binD ixF (binD ixF (nameD 0) (nameD 7)) (nameD 4)) (cD (.int 0))) (nameD 7) [7] (rng2 (consA (nameD 4) (consA (nameD 3) (nilA))))) e M = ok (.lst (fndD B n k)) M := by
  refine compC_at (set := set1 7) (vs := [7]) (g := fun (j : Nat) => D.int ((k + j : Nat) : Int)) (List.range (n - k)) (it_r2 (by
    unfold nameD
    rw [h4', hK]) (by
    unfold nameD
    rw [h3, hN]) (by omega) (by omega)) (fun _ => trivial) (by simp; omega) (fun j hj => ⟨e.set 7 (some (.int ((k + j : Nat) : Int))), by
      show some ((e.set 7 none).set 7 _) = _
      rw [List.set_set], fun acc => ?_, fun _ acc => ?_⟩) (fun _ _ => rfl)
  · have hj' := List.mem_range.mp hj
    obtain ⟨J, hJ⟩ : ∃ J : Int, J = ((k + j : Nat) : Int) := ⟨_, rfl⟩
    have g0 := h0 (some (.int J))
    have g4 := h4 (some (.int J))
    have g7 : (e.set 7 (some (.int J)))[7]? = some (some (.int J)) := List.getElem?_set_self h7
    have q1 := ix_row_of mt (i := k + j) hJ (by omega) [.lst acc]
    have q2 := ix_cell mt (i := k + j) (c := k) hK (by omega) hk [.lst acc]
    rw [← hJ]
    generalize (e.set 7 (some (.int J))) = e1 at *
    generalize M ++ [Ob.lst acc] = M1 at *
    generalize B (k + j) k = b at *
    simp [seqS, ifS, retS, raiseF, raiseS, consA, nilA, binD, callD, nameD, cD, bindE_v, thenS_v, bindE_x, thenS_x, unD, parS, asgS, tupD, int2F, eq_int, ne_int, intF0, negF, notF, nilS, brD, fnD, addE, subE, ix0, ix1, dropS, asgG, tupG, consG, nameG, nilG, lstD, andD, orD, tstD, ownS, appS, len_tup, len_lst, tup_tup, wipeE, set1, set2, typ_int, typ_tup, typ_non, typ_lst, isF, chainD, asT, truD, len_row, typ_row, g0, g4, g7, q1, q2]
  · have g7 : (e.set 7 (some (.int ((k + j : Nat) : Int))))[7]? = some (some (.int ((k + j : Nat) : Int))) := List.getElem?_set_self h7
    unfold nameD
    rw [g7]
end
theorem whole_ok {M : Store} {m w n : Nat} {l : Nat → Nat} {A : MI} (mt : Mat M m w n l A) (hn : n ≤ 7) (bA : ∀ r c, r < n → c < n → Bd 110 (A r c)) :
    ∃ (z : Int) (M' : Store), m__whole_minor [.loc w] M = ok (.int z) M' ∧ (z : Rat) = det n (cst A) ∧ Kp m M M' := by
  obtain ⟨N, hN⟩ : ∃ N : Int, N = (n : Int) := ⟨_, rfl⟩
  have ln : lenF [.loc w] M = ok (.int N) M := by rw [len_loc mt.cw, hN]; simp
  have key : Wp (den__whole_minor [some (.loc w), none, none, none, none, none, none, none] M) (fun f M' => ∃ z : Int, f = .rt (.int z) ∧ (z : Rat) = det n (cst A) ∧ Kp m M M') := by
    unfold den__whole_minor
    refine wp_nx (e' := [some (.loc w), some (.int 1), none, none, none, none, none, none]) (M' := M) (by simp [seqS, ifS, retS, raiseF, raiseS, consA, nilA, binD, callD, nameD, cD, bindE_v, thenS_v, bindE_x, thenS_x, unD, parS, asgS, tupD, int2F, eq_int, ne_int, intF0, negF, notF, nilS, brD, fnD, addE, subE, ix0, ix1, dropS, asgG, tupG, consG, nameG, nilG, lstD, andD, orD, tstD, ownS, appS, len_tup, len_lst, tup_tup, wipeE, set1, set2, typ_int, typ_tup, typ_non, typ_lst, isF, chainD, asT, truD, len_row, typ_row]) ?_
    refine wp_nx (e' := [some (.loc w), some (.int 1), some (.int 1), none, none, none, none, none]) (M' := M) (by simp [seqS, ifS, retS, raiseF, raiseS, consA, nilA, binD, callD, nameD, cD, bindE_v, thenS_v, bindE_x, thenS_x, unD, parS, asgS, tupD, int2F, eq_int, ne_int, intF0, negF, notF, nilS, brD, fnD, addE, subE, ix0, ix1, dropS, asgG, tupG, consG, nameG, nilG, lstD, andD, orD, tstD, ownS, appS, len_tup, len_lst, tup_tup, wipeE, set1, set2, typ_int, typ_tup, typ_non, typ_lst, isF, chainD, asT, truD, len_row, typ_row]) ?_
    refine wp_nx (e' := [some (.loc w), some (.int 1), some (.int 1), some (.int N), none, none, none, none]) (M' := M) (by simp [seqS, ifS, retS, raiseF, raiseS, consA, nilA, binD, callD, nameD, cD, bindE_v, thenS_v, bindE_x, thenS_x, unD, parS, asgS, tupD, int2F, eq_int, ne_int, intF0, negF, notF, nilS, brD, fnD, addE, subE, ix0, ix1, dropS, asgG, tupG, consG, nameG, nilG, lstD, andD, orD, tstD, ownS, appS, len_tup, len_lst, tup_tup, wipeE, set1, set2, typ_int, typ_tup, typ_non, typ_lst, isF, chainD, asT, truD, len_row, typ_row, ln]) ?_
    refine wp_forR_nx ((List.range n).map fun (k : Nat) => D.int (k : Int)) (fun k e M' => ∃ (l : Nat → Nat) (B : MI) (s p : Int) (a4 a5 a6 a7 : Option D), e = [some (.loc w), some (.int s), some (.int p), some (.int N), a4, a5, a6, a7] ∧ Mat M' m w n l B ∧ Bar n A k s p B ∧ Kp m M M' ∧ (∀ r c, r < n → c < n → Bd (bt k) (B r c)) ∧ Bd (bt k) p) (it_r1 (by show ok (D.int N) M = _; rw [hN]) (by omega)) (fun k d e M' hd hi => ?_) (fun _ _ _ => trivial) ⟨l, A, 1, 1, _, _, _, _, rfl, mt, bar_zero, Kp.refl, bA, by unfold Bd; decide⟩ (fun e' M' hi => ?_)
    · obtain ⟨l, B, s, p, a4, a5, a6, a7, rfl, mt, br, kp, bB, bp⟩ := hi
      obtain ⟨hk, rfl⟩ := map_getR hd
      obtain ⟨K, hK⟩ : ∃ N : Int, N = (k : Int) := ⟨_, rfl⟩
      rw [← hK]
      refine ⟨trivial, [some (.loc w), some (.int s), some (.int p), some (.int N), some (.int K), a5, a6, a7], M', by simp [seqS, ifS, retS, raiseF, raiseS, consA, nilA, binD, callD, nameD, cD, bindE_v, thenS_v, bindE_x, thenS_x, unD, parS, asgS, tupD, int2F, eq_int, ne_int, intF0, negF, notF, nilS, brD, fnD, addE, subE, ix0, ix1, dropS, asgG, tupG, consG, nameG, nilG, lstD, andD, orD, tstD, ownS, appS, len_tup, len_lst, tup_tup, wipeE, set1, set2, typ_int, typ_tup, typ_non, typ_lst, isF, chainD, asT, truD, len_row, typ_row], ?_⟩
      have fo := found_ok mt (e := [some (.loc w), some (.int s), some (.int p), some (.int N), some (.int K), a5, a6, a7]) hK hN hk hn (fun _ => rfl) (fun _ => rfl) rfl rfl (by simp)
      have fm : ∀ d ∈ fndD B n k, ∃ f, d = .int ((f : Nat) : Int) ∧ k ≤ f ∧ f < n ∧ B f k ≠ 0 := fun d hd => by
        obtain ⟨j, hj, rfl⟩ := List.mem_map.mp hd
        obtain ⟨h1, h2⟩ := List.mem_filter.mp hj
        have := List.mem_range.mp h1
        exact ⟨k + j, rfl, by omega, by omega, of_decide_eq_true h2⟩
      have f0 : fndD B n k = [] → ∀ r, k ≤ r → r < n → B r k = 0 := fun z r h1 h2 => by
        by_cases q : B r k = 0
        · exact q
        · have : D.int ((k + (r - k) : Nat) : Int) ∈ fndD B n k := List.mem_map.mpr ⟨r - k, List.mem_filter.mpr ⟨List.mem_range.mpr (by omega), decide_eq_true (by rwa [show k + (r - k) = r by omega])⟩, rfl⟩
          rw [z] at this
          cases this
      generalize fndD B n k = FL at *
      refine wp_nx (e' := [some (.loc w), some (.int s), some (.int p), some (.int N), some (.int K), some (.lst FL), a6, a7]) (M' := M') (by
        unfold asgS
        rw [fo]
        simp [seqS, ifS, retS, raiseF, raiseS, consA, nilA, binD, callD, nameD, cD, bindE_v, thenS_v, bindE_x, thenS_x, unD, parS, asgS, tupD, int2F, eq_int, ne_int, intF0, negF, notF, nilS, brD, fnD, addE, subE, ix0, ix1, dropS, asgG, tupG, consG, nameG, nilG, lstD, andD, orD, tstD, ownS, appS, len_tup, len_lst, tup_tup, wipeE, set1, set2, typ_int, typ_tup, typ_non, typ_lst, isF, chainD, asT, truD, len_row, typ_row]) ?_
      cases FL with
      | nil =>
        refine wp_seq (wp_of (.rt (.int 0)) (M' := M') (by simp [seqS, ifS, retS, raiseF, raiseS, consA, nilA, binD, callD, nameD, cD, bindE_v, thenS_v, bindE_x, thenS_x, unD, parS, asgS, tupD, int2F, eq_int, ne_int, intF0, negF, notF, nilS, brD, fnD, addE, subE, ix0, ix1, dropS, asgG, tupG, consG, nameG, nilG, lstD, andD, orD, tstD, ownS, appS, len_tup, len_lst, tup_tup, wipeE, set1, set2, typ_int, typ_tup, typ_non, typ_lst, isF, chainD, asT, truD, len_row, typ_row]) (.inr ⟨(fun _ z => nomatch z), .inr ⟨_, rfl, 0, rfl, ?_, kp⟩⟩))
        rw [br.none hk (f0 rfl)]
        rfl
      | cons d0 FL =>
        obtain ⟨f, rfl, hf1, hf2, hf3⟩ := fm d0 List.mem_cons_self
        clear fm f0 fo
        obtain ⟨Q, hQ⟩ : ∃ Q : Int, Q = (f : Int) := ⟨_, rfl⟩
        rw [← hQ]
        have qlen : ¬ ((FL.length : Int) + 1 = 0) := by omega
        refine wp_nx (e' := [some (.loc w), some (.int s), some (.int p), some (.int N), some (.int K), some (.lst (.int Q :: FL)), a6, a7]) (M' := M') (by simp [seqS, ifS, retS, raiseF, raiseS, consA, nilA, binD, callD, nameD, cD, bindE_v, thenS_v, bindE_x, thenS_x, unD, parS, asgS, tupD, int2F, eq_int, ne_int, intF0, negF, notF, nilS, brD, fnD, addE, subE, ix0, ix1, dropS, asgG, tupG, consG, nameG, nilG, lstD, andD, orD, tstD, ownS, appS, len_tup, len_lst, tup_tup, wipeE, set1, set2, typ_int, typ_tup, typ_non, typ_lst, isF, chainD, asT, truD, len_row, typ_row, qlen]) ?_
        have i0 : ∀ M, ixF (.lst (.int Q :: FL)) (.int 0) M = ok (.int Q) M := fun M => ix_lst (at_nat (n := 0) rfl)
        have go : ∀ (l1 : Nat → Nat) (B1 : MI) (s1 : Int) (M1 : Store), Mat M1 m w n l1 B1 → Bar n A k s1 p B1 → Kp m M M1 → (∀ r c, r < n → c < n → Bd (bt k) (B1 r c)) → B1 k k ≠ 0 →
            Wp ((seqS (asgS 6 (binD ixF (nameD 0) (nameD 4))) (seqS (forI (nameG 7) (itD (slpD (nameD 0) (someO (binD addF (nameD 4) (cD (.int 1)))) (noneO) (noneO))) (dropS (fnD m__clear 4 [] (consA (nameD 7) (consA (nameD 6) (consA (nameD 4) (consA (nameD 2) (nilA)))))))) (asgS 2 (binD ixF (nameD 6) (nameD 4))))) [some (.loc w), some (.int s1), some (.int p), some (.int N), some (.int K), some (.lst (.int Q :: FL)), a6, a7] M1) (fun f M2 => (∃ e2, (f = .nx e2 ∨ f = .ct e2) ∧ (∃ (l : Nat → Nat) (B : MI) (s p : Int) (a4 a5 a6 a7 : Option D), e2 = [some (.loc w), some (.int s), some (.int p), some (.int N), a4, a5, a6, a7] ∧ Mat M2 m w n l B ∧ Bar n A (k + 1) s p B ∧ Kp m M M2 ∧ (∀ r c, r < n → c < n → Bd (bt (k + 1)) (B r c)) ∧ Bd (bt (k + 1)) p)) ∨ ∃ v, f = .rt v ∧ ∃ z : Int, f = .rt (.int z) ∧ (z : Rat) = det n (cst A) ∧ Kp m M M2) := by
          intro l1 B1 s1 M1 mt1 br1 kp1 bB1 nz
          obtain ⟨B', c1, c2, br2⟩ := br1.clear hk nz
          have iw := ix_row_of mt1 (i := k) hK hk []
          rw [List.append_nil] at iw
          refine wp_nx (e' := [some (.loc w), some (.int s1), some (.int p), some (.int N), some (.int K), some (.lst (.int Q :: FL)), some (.loc (l1 k)), a7]) (M' := M1) (by simp [seqS, ifS, retS, raiseF, raiseS, consA, nilA, binD, callD, nameD, cD, bindE_v, thenS_v, bindE_x, thenS_x, unD, parS, asgS, tupD, int2F, eq_int, ne_int, intF0, negF, notF, nilS, brD, fnD, addE, subE, ix0, ix1, dropS, asgG, tupG, consG, nameG, nilG, lstD, andD, orD, tstD, ownS, appS, len_tup, len_lst, tup_tup, wipeE, set1, set2, typ_int, typ_tup, typ_non, typ_lst, isF, chainD, asT, truD, len_row, typ_row, iw]) ?_
          have sl : slpD (nameD 0) (someO (binD addF (nameD 4) (cD (.int 1)))) (noneO) (noneO) [some (.loc w), some (.int s1), some (.int p), some (.int N), some (.int K), some (.lst (.int Q :: FL)), some (.loc (l1 k)), a7] M1 = ok (.lst ((List.range (n - (k + 1))).map fun j => D.loc (l1 (k + 1 + j)))) M1 := by
            have e1 : ((List.range n).map fun i => D.loc (l1 i)).drop (k + 1) = (List.range (n - (k + 1))).map fun j => D.loc (l1 (k + 1 + j)) := by
              apply List.ext_getElem?
              intro i
              rw [List.getElem?_drop]
              by_cases hi : k + 1 + i < n
              · rw [get_mapR hi, get_mapR (by omega)]
              · rw [List.getElem?_eq_none (by simp; omega), List.getElem?_eq_none (by simp; omega)]
            have e2 := slc_drop (d := .loc w) (k := k + 1) (M := M1) (ds := (List.range n).map fun i => D.loc (l1 i)) (by
              unfold getL
              dsimp only
              rw [mt1.cw]) (fun _ => nofun)
            rw [e1] at e2
            have e3 : K + 1 = ((k + 1 : Nat) : Int) := by omega
            rw [← e3] at e2
            generalize ((List.range (n - (k + 1))).map fun j => D.loc (l1 (k + 1 + j))) = LL at *
            unfold slpD
            show slpF (.loc w) (some (K + 1)) none none M1 = _
            exact e2
          refine clear_all (n := n) (k := k) (p := p) (B' := B') mt1 hk hn br1.pne (bp.mono (Nat.le_of_lt (bt_le k (by omega)))) (fun r c hr hc => (bB1 r c hr hc).mono (Nat.le_of_lt (bt_le7 k (by omega)))) c1 (it_lst sl) (by rw [← hK]; rfl) rfl rfl (by simp) (fun M2 a mt2 kp2 => ?_) ⟨a7, rfl⟩
          have ik := ix_cell mt2 (i := k) hK hk hk []
          rw [List.append_nil, if_neg (by omega)] at ik
          refine wp_of (M' := M2) (.nx [some (.loc w), some (.int s1), some (.int (B1 k k)), some (.int N), some (.int K), some (.lst (.int Q :: FL)), some (.loc (l1 k)), a]) (by
            generalize B1 k k = bb at *
            simp [seqS, ifS, retS, raiseF, raiseS, consA, nilA, binD, callD, nameD, cD, bindE_v, thenS_v, bindE_x, thenS_x, unD, parS, asgS, tupD, int2F, eq_int, ne_int, intF0, negF, notF, nilS, brD, fnD, addE, subE, ix0, ix1, dropS, asgG, tupG, consG, nameG, nilG, lstD, andD, orD, tstD, ownS, appS, len_tup, len_lst, tup_tup, wipeE, set1, set2, typ_int, typ_tup, typ_non, typ_lst, isF, chainD, asT, truD, len_row, typ_row, ik]) (.inl ⟨_, .inl rfl, l1, _, s1, B1 k k, _, _, _, _, rfl, mt2, ?_, kp1.trans kp2, ?_, ?_⟩)
          · refine br2.congr fun r c h1 h2 h3 h4 => ?_
            show (if k < r ∧ k ≤ c then B' r c else B1 r c) = _
            rw [if_pos ⟨by omega, by omega⟩]
          · intro r c hr hc
            show Bd (bt (k + 1)) (if k < r ∧ k ≤ c then B' r c else B1 r c)
            by_cases q : k < r ∧ k ≤ c
            · rw [if_pos q, bt_succ]
              refine bd_fac br1.pne ?_
              rw [← c1 r c q.1 hr q.2 hc, Nat.two_mul]
              exact bd_sub (bd_mul (bB1 _ _ hr hc) (bB1 _ _ hk hk)) (bd_mul (bB1 _ _ hr hk) (bB1 _ _ hk hc))
            · rw [if_neg q]
              exact (bB1 _ _ hr hc).mono (bt_mono (Nat.le_succ k))
          · exact (bB1 _ _ hk hk).mono (bt_mono (Nat.le_succ k))
        by_cases hfk : f = k
        · subst hfk
          obtain rfl : K = Q := by omega
          refine wp_nx (e' := [some (.loc w), some (.int s), some (.int p), some (.int N), some (.int K), some (.lst (.int K :: FL)), a6, a7]) (M' := M') ((if_f (by simp [seqS, ifS, retS, raiseF, raiseS, consA, nilA, binD, callD, nameD, cD, bindE_v, thenS_v, bindE_x, thenS_x, unD, parS, asgS, tupD, int2F, eq_int, ne_int, intF0, negF, notF, nilS, brD, fnD, addE, subE, ix0, ix1, dropS, asgG, tupG, consG, nameG, nilG, lstD, andD, orD, tstD, ownS, appS, len_tup, len_lst, tup_tup, wipeE, set1, set2, typ_int, typ_tup, typ_non, typ_lst, isF, chainD, asT, truD, len_row, typ_row, i0])).trans rfl) ?_
          exact go l B s M' mt br kp bB hf3
        · have qq : ¬ Q = K := by omega
          have hkf : k < f := by omega
          have r1 := ix_row_of mt (i := f) hQ hf2 []
          have r2 := ix_row_of mt (i := k) hK hk []
          rw [List.append_nil] at r1 r2
          have s1 : asgG (tupD (consA (binD ixF (nameD 0) (binD ixF (nameD 5) (cD (.int 0)))) (consA (binD ixF (nameD 0) (nameD 4)) (nilA)))) (tupG 2 (consG (subG (nameD 0) (nameD 4)) (consG (subG (nameD 0) (binD ixF (nameD 5) (cD (.int 0)))) (nilG)))) [some (.loc w), some (.int s), some (.int p), some (.int N), some (.int K), some (.lst (.int Q :: FL)), a6, a7] M' = some (.nx [some (.loc w), some (.int s), some (.int p), some (.int N), some (.int K), some (.lst (.int Q :: FL)), a6, a7], M'.set w (.lst ((List.range n).map fun i => D.loc (swN k f l i)))) := by
            have ev : tupD (consA (binD ixF (nameD 0) (binD ixF (nameD 5) (cD (.int 0)))) (consA (binD ixF (nameD 0) (nameD 4)) (nilA))) [some (.loc w), some (.int s), some (.int p), some (.int N), some (.int K), some (.lst (.int Q :: FL)), a6, a7] M' = ok (.tup [.loc (l f), .loc (l k)]) M' := by simp [seqS, ifS, retS, raiseF, raiseS, consA, nilA, binD, callD, nameD, cD, bindE_v, thenS_v, bindE_x, thenS_x, unD, parS, asgS, tupD, int2F, eq_int, ne_int, intF0, negF, notF, nilS, brD, fnD, addE, subE, ix0, ix1, dropS, asgG, tupG, consG, nameG, nilG, lstD, andD, orD, tstD, ownS, appS, len_tup, len_lst, tup_tup, wipeE, set1, set2, typ_int, typ_tup, typ_non, typ_lst, isF, chainD, asT, truD, len_row, typ_row, i0, r1, r2]
            have g1 := subG_at (e := [some (.loc w), some (.int s), some (.int p), some (.int N), some (.int K), some (.lst (.int Q :: FL)), a6, a7]) (M := M') (dob := nameD 0) (di := nameD 4) (d := .loc (l f)) rfl rfl hK mt.cw (by simp; omega)
            have g2 := subG_at (e := [some (.loc w), some (.int s), some (.int p), some (.int N), some (.int K), some (.lst (.int Q :: FL)), a6, a7]) (M := M'.set w (.lst (((List.range n).map fun i => D.loc (l i)).set k (.loc (l f))))) (dob := nameD 0) (di := binD ixF (nameD 5) (cD (.int 0))) (d := .loc (l k)) rfl (by simp [seqS, ifS, retS, raiseF, raiseS, consA, nilA, binD, callD, nameD, cD, bindE_v, thenS_v, bindE_x, thenS_x, unD, parS, asgS, tupD, int2F, eq_int, ne_int, intF0, negF, notF, nilS, brD, fnD, addE, subE, ix0, ix1, dropS, asgG, tupG, consG, nameG, nilG, lstD, andD, orD, tstD, ownS, appS, len_tup, len_lst, tup_tup, wipeE, set1, set2, typ_int, typ_tup, typ_non, typ_lst, isF, chainD, asT, truD, len_row, typ_row, i0]) hQ (List.getElem?_set_self (get_lt mt.cw)) (by simp; omega)
            have e1 : (M'.set w (.lst (((List.range n).map fun i => D.loc (l i)).set k (.loc (l f))))).set w (.lst ((((List.range n).map fun i => D.loc (l i)).set k (.loc (l f))).set f (.loc (l k)))) = M'.set w (.lst ((List.range n).map fun i => D.loc (swN k f l i))) := by
              rw [List.set_set, map_set hk, map_set hf2]
              refine congrArg (fun l => M'.set w (Ob.lst l)) (List.map_congr_left fun c hc => ?_)
              unfold swN
              by_cases c1 : c = k
              · rw [if_neg (by omega), if_pos c1, if_pos c1]
              · rw [if_neg c1]
                by_cases c2 : c = f
                · rw [if_pos c2, if_neg c1, if_pos c2]
                · rw [if_neg c2, if_neg c1, if_neg c2]
            rw [e1] at g2
            unfold asgG
            rw [ev, thenS_v]
            generalize (M'.set w (.lst (((List.range n).map fun i => D.loc (l i)).set k (.loc (l f))))) = Ma at *
            generalize (M'.set w (.lst ((List.range n).map fun i => D.loc (swN k f l i)))) = Mb at *
            simp only [tupG, consG, nilG, List.length_cons, List.length_nil, g1, g2, if_true]
          have lt2 : ∀ i, i < n → l i < M'.length := fun i hi => get_lt (mt.r i hi)
          refine wp_nx (e' := [some (.loc w), some (.int (-s)), some (.int p), some (.int N), some (.int K), some (.lst (.int Q :: FL)), a6, a7]) (M' := M'.set w (.lst ((List.range n).map fun i => D.loc (swN k f l i)))) ((if_t (by simp [seqS, ifS, retS, raiseF, raiseS, consA, nilA, binD, callD, nameD, cD, bindE_v, thenS_v, bindE_x, thenS_x, unD, parS, asgS, tupD, int2F, eq_int, ne_int, intF0, negF, notF, nilS, brD, fnD, addE, subE, ix0, ix1, dropS, asgG, tupG, consG, nameG, nilG, lstD, andD, orD, tstD, ownS, appS, len_tup, len_lst, tup_tup, wipeE, set1, set2, typ_int, typ_tup, typ_non, typ_lst, isF, chainD, asT, truD, len_row, typ_row, i0, qq])).trans ?_) ?_
          · rw [seq_nx s1]
            generalize (M'.set w (.lst ((List.range n).map fun i => D.loc (swN k f l i)))) = Mb at *
            simp [seqS, ifS, retS, raiseF, raiseS, consA, nilA, binD, callD, nameD, cD, bindE_v, thenS_v, bindE_x, thenS_x, unD, parS, asgS, tupD, int2F, eq_int, ne_int, intF0, negF, notF, nilS, brD, fnD, addE, subE, ix0, ix1, dropS, asgG, tupG, consG, nameG, nilG, lstD, andD, orD, tstD, ownS, appS, len_tup, len_lst, tup_tup, wipeE, set1, set2, typ_int, typ_tup, typ_non, typ_lst, isF, chainD, asT, truD, len_row, typ_row]
          · refine go _ _ (-s) _ (mt.swap hk hf2 hkf) (br.swap hkf hf2) (kp.trans (Kp.set mt.lw (nls_map fun i hi => decide_eq_true ?_))) (fun r c hr hc => ?_) ?_
            · have hi := List.mem_range.mp hi
              unfold swN
              split
              · exact lt2 _ hf2
              · split
                · exact lt2 _ hk
                · exact lt2 _ hi
            · unfold swI
              split
              · exact bB _ _ hf2 hc
              · split
                · exact bB _ _ hk hc
                · exact bB _ _ hr hc
            · unfold swI
              rw [if_pos rfl]
              exact hf3
    · obtain ⟨l, B, s, p, a4, a5, a6, a7, rfl, mt, br, kp, bB, bp⟩ := hi
      rw [List.length_map, List.length_range] at br bB bp
      have mm : ∀ M, mulF (.int s) (.int p) M = ok (.int (s * p)) M := fun M => mulB (k := 1) (by
        unfold Bd
        rcases br.sg with z | z <;> rw [z] <;> decide) (bp.mono (Nat.le_of_lt (bt_le7 n (by omega)))) (by decide)
      have fin := br.fin
      generalize s * p = sp at *
      exact wp_of (M' := M') (.rt (.int sp)) (by simp [seqS, ifS, retS, raiseF, raiseS, consA, nilA, binD, callD, nameD, cD, bindE_v, thenS_v, bindE_x, thenS_x, unD, parS, asgS, tupD, int2F, eq_int, ne_int, intF0, negF, notF, nilS, brD, fnD, addE, subE, ix0, ix1, dropS, asgG, tupG, consG, nameG, nilG, lstD, andD, orD, tstD, ownS, appS, len_tup, len_lst, tup_tup, wipeE, set1, set2, typ_int, typ_tup, typ_non, typ_lst, isF, chainD, asT, truD, len_row, typ_row, mm]) ⟨sp, rfl, fin, kp⟩
  obtain ⟨f, M', h1, z, rfl, hz, kp⟩ := key
  exact ⟨z, M', fv_rt2 (e0 := [some (.loc w), none, none, none, none, none, none, none]) [] rfl (by rw [h1, List.append_nil]) kp.len (fun j ob _ h => kp.nl j ob h) rfl, hz, kp⟩
end K62
namespace K62
open PySem L2 DL
/-- entries that are looked at -/
structure VG (n : Nat) (A : Mx) : Prop where
  d : ∀ r c, r < n → c < n → (A r c).den ∣ 420
  b : ∀ r c, r < n → c < n → Bd 100 (A r c).num
/-- the common denominator of a row -/
def shN (a : Nat → Rat) : Nat → Nat
  | 0 => 1
  | j + 1 => shN a j * ((a j).den / Nat.gcd (shN a j) (a j).den)
theorem sh_lcm (a : Nat → Rat) (j : Nat) : shN a (j + 1) = Nat.lcm (shN a j) (a j).den := by
  show shN a j * ((a j).den / Nat.gcd (shN a j) (a j).den) = _
  unfold Nat.lcm
  rw [Nat.mul_div_assoc _ (Nat.gcd_dvd_right _ _)]
theorem sh_dvd {a : Nat → Rat} : ∀ n, (∀ c, c < n → (a c).den ∣ 420) → shN a n ∣ 420
  | 0, _ => Nat.one_dvd _
  | n + 1, h => by
    rw [sh_lcm]
    exact Nat.lcm_dvd (sh_dvd n fun c hc => h c (by omega)) (h n (by omega))
theorem den_sh {a : Nat → Rat} {c : Nat} : ∀ n, c < n → (a c).den ∣ shN a n
  | n + 1, h => by
    rw [sh_lcm]
    by_cases q : c = n
    · subst q
      exact Nat.dvd_lcm_right _ _
    · exact Nat.dvd_trans (den_sh n (by omega)) (Nat.dvd_lcm_left _ _)
def wI (n : Nat) (a : Nat → Rat) (c : Nat) : Int := (a c).num * ((shN a n : Int) / ((a c).den : Int))
theorem wI_rat {n c : Nat} {a : Nat → Rat} (hc : c < n) : ((wI n a c : Int) : Rat) = (shN a n : Rat) * a c := by
  obtain ⟨k, hk⟩ := den_sh (a := a) n hc
  unfold wI
  rw [hk]
  have d0 := den0 (a c)
  have e : (((a c).den * k : Nat) : Int) / ((a c).den : Int) = (k : Int) := by
    rw [Int.natCast_mul, Int.mul_ediv_cancel_left _ d0]
  rw [e]
  have e2 : a c = ((a c).num : Rat) / ((a c).den : Rat) := by
    have := Rat.num_divInt_den (a c)
    rw [Rat.divInt_eq_div] at this
    exact this.symm
  have d1 : ((a c).den : Rat) ≠ 0 := fun z => d0 (by exact_mod_cast z)
  conv => rhs; rw [e2]
  rw [Rat.intCast_mul, Rat.natCast_mul, Rat.div_def]
  have : ((a c).den : Rat) * ((a c).den : Rat)⁻¹ = 1 := Rat.mul_inv_cancel _ d1
  have h3 : ((k : Int) : Rat) = (k : Rat) := rfl
  rw [h3]
  grind
theorem det_scale {n : Nat} {A : Mx} {s : Nat → Rat} : ∀ k, k ≤ n → det n (fun r c => if r < k then s r * A r c else A r c) = prodN k s * det n A
  | 0, _ => by
    have : (prodN 0 s) = 1 := rfl
    rw [this, Rat.one_mul]
    exact det_congr fun r c _ _ => if_neg (by omega)
  | k + 1, h => by
    have := det_row (n := n) (p := k) (A := fun r c => if r < k + 1 then s r * A r c else A r c) (B := fun r c => if r < k then s r * A r c else A r c) (C := fun r c => if r < k then s r * A r c else A r c) (a := s k) (b := 0) h (fun c _ => by
      show (if k < k + 1 then s k * A k c else A k c) = s k * (if k < k then s k * A k c else A k c) + 0 * (if k < k then s k * A k c else A k c)
      rw [if_pos (by omega), if_neg (by omega)]
      grind) (fun r c _ _ hne => by
      have : (if r < k + 1 then s r * A r c else A r c) = if r < k then s r * A r c else A r c := by
        by_cases q : r < k
        · rw [if_pos q, if_pos (by omega)]
        · rw [if_neg q, if_neg (by omega)]
      exact ⟨this, this⟩)
    rw [this, det_scale k (by omega)]
    show _ = prodN k s * s k * det n A
    grind
theorem comp_set {n : Nat} {a : Nat → Rat} {M : Store} {e : DL.Env} {S : Int} (hS : S = (shN a n : Int)) (hn : n ≤ 7) (h3 : e[3]? = some (some (rowD n fun j => qD (a j)))) (h4 : ∀ x y, ((e.set 7 x).set 6 y)[4]? = some (some (.int S))) (hl : 7 < e.length) (hb : ∀ c, c < n → Bd 100 (a c).num) (h420 : ∀ c, c < n → (a c).den ∣ 420) :
    compD (set2 7 6) (cD (.bl true)) (binD mulF (nameD 7) (binD fdivF (nameD 4) (nameD 6))) [6, 7] (itD (nameD 3)) e M = ok (.loc M.length) (M ++ [.lst (intsD n (wI n a))]) := by
  have sd := sh_dvd n h420
  have sl : shN a n ≤ 420 := Nat.le_of_dvd (by decide) sd
  have q := comp_at (set := set2 7 6) (vs := [6, 7]) (dt := cD (.bl true)) (de := binD mulF (nameD 7) (binD fdivF (nameD 4) (nameD 6))) (di := itD (nameD 3)) (e := e) (M := M) (g := fun j => qD (a j)) (f := fun c => D.int (wI n a c)) (p := fun _ => true) (chk := fun _ => True) (List.range n) (it_row (by
    unfold nameD
    rw [h3])) (fun _ => trivial) (by simp; omega) (fun c hc => ⟨(e.set 7 (some (.int (a c).num))).set 6 (some (.int ((a c).den : Int))), by
      show some ((((e.set 7 none).set 6 none).set 7 _).set 6 _) = _
      rw [List.set_comm none (some (D.int (a c).num)) (show (6 : Nat) ≠ 7 by decide), List.set_set, List.set_set], fun _ => rfl, fun _ acc => ?_⟩)
  · rw [List.filter_eq_self.mpr (fun _ _ => rfl)] at q
    exact q
  · have hc := List.mem_range.mp hc
    have g4 := h4 (some (.int (a c).num)) (some (.int ((a c).den : Int)))
    have g6 : ((e.set 7 (some (.int (a c).num))).set 6 (some (.int ((a c).den : Int))))[6]? = some (some (.int ((a c).den : Int))) := List.getElem?_set_self (by rw [List.length_set]; omega)
    have g7 : ((e.set 7 (some (.int (a c).num))).set 6 (some (.int ((a c).den : Int))))[7]? = some (some (.int (a c).num)) := by
      rw [List.getElem?_set_ne (by decide)]
      exact List.getElem?_set_self hl
    have d0 := den0 (a c)
    have dl : (a c).den ≤ 420 := Nat.le_of_dvd (by decide) (h420 c hc)
    obtain ⟨Q, hQ⟩ : ∃ Q : Int, Q = S / ((a c).den : Int) := ⟨_, rfl⟩
    have fd : ∀ M, fdivF (.int S) (.int ((a c).den : Int)) M = ok (.int Q) M := fun M => by
      rw [hQ]
      exact fdv (by omega) (by unfold Bd; omega)
    have Qb : Bd 9 Q := by
      rw [hQ]
      exact bd_div (by rw [hS]; unfold Bd; omega)
    have mm : ∀ M, mulF (.int (a c).num) (.int Q) M = ok (.int (wI n a c)) M := fun M => by
      rw [mulB (hb c hc) Qb (by decide), hQ, hS]
      rfl
    generalize ((e.set 7 (some (.int (a c).num))).set 6 (some (.int ((a c).den : Int)))) = e1 at *
    generalize M ++ [Ob.lst acc] = M1 at *
    generalize wI n a c = ww at *
    generalize (a c).num = nn at *
    generalize ((a c).den : Int) = dd at *
    simp [seqS, ifS, retS, raiseF, raiseS, consA, nilA, binD, callD, nameD, cD, bindE_v, thenS_v, bindE_x, thenS_x, unD, parS, asgS, tupD, int2F, eq_int, ne_int, intF0, negF, notF, nilS, brD, fnD, addE, subE, ix0, ix1, dropS, asgG, tupG, consG, nameG, nilG, lstD, andD, orD, tstD, ownS, appS, len_tup, len_lst, tup_tup, wipeE, set1, set2, typ_int, typ_tup, typ_non, typ_lst, isF, chainD, asT, truD, len_row, typ_row, g4, g6, g7, fd, mm]
end K62
namespace K62
open PySem L2 DL
/-- all rows' common denominators together -/
def dvN (n : Nat) (A : Mx) : Nat → Nat
  | 0 => 1
  | i + 1 => dvN n A i * shN (A i) n
theorem sh_pos {n : Nat} {a : Nat → Rat} (h : ∀ c, c < n → (a c).den ∣ 420) : 0 < shN a n := Nat.pos_of_dvd_of_pos (sh_dvd n h) (by decide)
theorem dv_lt {n : Nat} {A : Mx} (v : VG n A) : ∀ i, i ≤ n → 0 < dvN n A i ∧ dvN n A i < 2 ^ (9 * i + 1)
  | 0, _ => by unfold dvN; decide
  | i + 1, h => by
    obtain ⟨h1, h2⟩ := dv_lt v i (by omega)
    have s0 := sh_pos (n := n) (a := A i) fun c hc => v.d i c (by omega) hc
    have s1 : shN (A i) n ≤ 420 := Nat.le_of_dvd (by decide) (sh_dvd n fun c hc => v.d i c (by omega) hc)
    refine ⟨Nat.mul_pos h1 s0, ?_⟩
    show dvN n A i * shN (A i) n < _
    rw [show 9 * (i + 1) + 1 = (9 * i + 1) + 9 by omega, Nat.pow_add]
    exact Nat.lt_of_lt_of_le (Nat.mul_lt_mul_of_lt_of_le h2 s1 (by decide)) (Nat.mul_le_mul_left _ (by decide))
theorem dv_prod {n : Nat} {A : Mx} : ∀ i, ((dvN n A i : Nat) : Rat) = prodN i fun r => (shN (A r) n : Rat)
  | 0 => rfl
  | i + 1 => by
    show ((dvN n A i * shN (A i) n : Nat) : Rat) = prodN i (fun r => (shN (A r) n : Rat)) * (shN (A i) n : Rat)
    rw [Rat.natCast_mul, dv_prod i]
theorem det_w {n : Nat} {A : Mx} : det n (cst fun r c => wI n (A r) c) = (dvN n A n : Rat) * det n A := by
  rw [dv_prod, ← det_scale n (Nat.le_refl _)]
  refine det_congr fun r c hr hc => ?_
  show ((wI n (A r) c : Int) : Rat) = if r < n then (shN (A r) n : Rat) * A r c else A r c
  rw [if_pos hr, wI_rat hc]
theorem w_bd {n r c : Nat} {A : Mx} (v : VG n A) (hr : r < n) (hc : c < n) : Bd 110 (wI n (A r) c) := by
  have s1 : shN (A r) n ≤ 420 := Nat.le_of_dvd (by decide) (sh_dvd n fun c hc => v.d r c hr hc)
  exact (bd_mul (v.b r c hr hc) (bd_div (show Bd 9 (shN (A r) n : Int) by unfold Bd; omega))).mono (by decide)
/-- what stands behind i rows -/
abbrev stR (M : Store) (n : Nat) (A : Mx) (i : Nat) : Store := M ++ .lst ((List.range i).map fun r => D.loc (M.length + 1 + r)) :: ((List.range i).map fun r => Ob.lst (intsD n (wI n (A r))))
theorem st_len {M : Store} {n : Nat} {A : Mx} {i : Nat} : (stR M n A i).length = M.length + 1 + i := by
  simp
  omega
theorem mat_of {M : Store} {n : Nat} {A : Mx} : Mat (stR M n A n) M.length M.length n (fun r => M.length + 1 + r) (fun r c => wI n (A r) c) := by
  refine ⟨get_mid, fun i hi => ?_, fun i j _ _ h => by omega, fun i _ => by omega, fun i _ => by omega, Nat.le_refl _⟩
  rw [List.getElem?_append_right (by omega), show M.length + 1 + i - M.length = i + 1 by omega, List.getElem?_cons_succ, get_mapR hi]
theorem minorof_ok {n : Nat} {A : Mx} {M : Store} (v : VG n A) (hn : n ≤ 7) : m__minor_of [gridD n A] M = ok (qD (det n A)) M := by
  obtain ⟨Q, hQ⟩ : ∃ Q : Nat → D, Q = fun i => rowD n fun j => qD (A i j) := ⟨_, rfl⟩
  have hQ' : ∀ i, (rowD n fun j => qD (A i j)) = Q i := fun i => by rw [hQ]
  have it : ∀ (e : DL.Env) M, e[0]? = some (some (gridD n A)) → itD (nameD 0) e M = ok ((List.range n).map fun i => Q i, fun _ => True) M := fun e M he => by
    rw [← funext hQ']
    exact it_row (by
      unfold nameD
      rw [he])
  have it3 : ∀ i (e : DL.Env) M, e[3]? = some (some (Q i)) → itD (nameD 3) e M = ok ((List.range n).map fun j => qD (A i j), fun _ => True) M := fun i e M he => it_row (by
    unfold nameD
    rw [he, ← hQ'])
  obtain ⟨R, hR⟩ : ∃ R, R = gridD n A := ⟨_, rfl⟩
  rw [← hR] at it ⊢
  have key : Wp (den__minor_of [some R, none, none, none, none, none, none, none] M) (fun f M' => f = .rt (qD (det n A)) ∧ ∃ X, M' = M ++ X) := by
    unfold den__minor_of
    refine wp_nx (e' := [some R, some (.loc M.length), none, none, none, none, none, none]) (M' := M ++ [.lst []]) (by simp [seqS, ifS, retS, raiseF, raiseS, consA, nilA, binD, callD, nameD, cD, bindE_v, thenS_v, bindE_x, thenS_x, unD, parS, asgS, tupD, int2F, eq_int, ne_int, intF0, negF, notF, nilS, brD, fnD, addE, subE, ix0, ix1, dropS, asgG, tupG, consG, nameG, nilG, lstD, andD, orD, tstD, ownS, appS, len_tup, len_lst, tup_tup, wipeE, set1, set2, typ_int, typ_tup, typ_non, typ_lst, isF, chainD, asT, truD, len_row, typ_row]) ?_
    refine wp_nx (e' := [some R, some (.loc M.length), some (.int 1), none, none, none, none, none]) (M' := M ++ [.lst []]) (by simp [seqS, ifS, retS, raiseF, raiseS, consA, nilA, binD, callD, nameD, cD, bindE_v, thenS_v, bindE_x, thenS_x, unD, parS, asgS, tupD, int2F, eq_int, ne_int, intF0, negF, notF, nilS, brD, fnD, addE, subE, ix0, ix1, dropS, asgG, tupG, consG, nameG, nilG, lstD, andD, orD, tstD, ownS, appS, len_tup, len_lst, tup_tup, wipeE, set1, set2, typ_int, typ_tup, typ_non, typ_lst, isF, chainD, asT, truD, len_row, typ_row]) ?_
    refine wp_for_nx ((List.range n).map fun i => Q i) (fun i e M' => M' = stR M n A i ∧ ∃ a3 a4 a5 a6 a7, e = [some R, some (.loc M.length), some (.int (dvN n A i : Nat)), a3, a4, a5, a6, a7]) (it _ _ rfl) (fun i d e M' hd hi => ?_) (fun _ _ _ => trivial) ⟨rfl, _, _, _, _, _, rfl⟩ (fun e' M' hi => ?_)
    · obtain ⟨rfl, a3, a4, a5, a6, a7, rfl⟩ := hi
      obtain ⟨hi, rfl⟩ := map_getR hd
      have dl := dv_lt v i (by omega)
      have h420 : ∀ c, c < n → (A i c).den ∣ 420 := fun c hc => v.d i c hi hc
      obtain ⟨Dv, hDv⟩ : ∃ z : Int, z = ((dvN n A i : Nat) : Int) := ⟨_, rfl⟩
      have bDv : Bd 64 Dv := by
        have : dvN n A i < 2 ^ 64 := Nat.lt_of_lt_of_le dl.2 (Nat.pow_le_pow_right (by decide) (by omega))
        unfold Bd
        omega
      rw [← hDv]
      obtain ⟨M1, hM1⟩ : ∃ M1, M1 = stR M n A i := ⟨_, rfl⟩
      rw [← hM1]
      refine ⟨trivial, [some R, some (.loc M.length), some (.int Dv), some (Q i), a4, a5, a6, a7], M1, by simp [seqS, ifS, retS, raiseF, raiseS, consA, nilA, binD, callD, nameD, cD, bindE_v, thenS_v, bindE_x, thenS_x, unD, parS, asgS, tupD, int2F, eq_int, ne_int, intF0, negF, notF, nilS, brD, fnD, addE, subE, ix0, ix1, dropS, asgG, tupG, consG, nameG, nilG, lstD, andD, orD, tstD, ownS, appS, len_tup, len_lst, tup_tup, wipeE, set1, set2, typ_int, typ_tup, typ_non, typ_lst, isF, chainD, asT, truD, len_row, typ_row], ?_⟩
      refine wp_nx (e' := [some R, some (.loc M.length), some (.int Dv), some (Q i), some (.int 1), a5, a6, a7]) (M' := M1) (by simp [seqS, ifS, retS, raiseF, raiseS, consA, nilA, binD, callD, nameD, cD, bindE_v, thenS_v, bindE_x, thenS_x, unD, parS, asgS, tupD, int2F, eq_int, ne_int, intF0, negF, notF, nilS, brD, fnD, addE, subE, ix0, ix1, dropS, asgG, tupG, consG, nameG, nilG, lstD, andD, orD, tstD, ownS, appS, len_tup, len_lst, tup_tup, wipeE, set1, set2, typ_int, typ_tup, typ_non, typ_lst, isF, chainD, asT, truD, len_row, typ_row]) ?_
      refine wp_for_nx ((List.range n).map fun j => qD (A i j)) (fun j e M' => M' = M1 ∧ ∃ a5 a6, e = [some R, some (.loc M.length), some (.int Dv), some (Q i), some (.int (shN (A i) j : Nat)), a5, a6, a7]) (it3 i _ _ rfl) (fun j d e M' hd hi => ?_) (fun _ _ _ => trivial) ⟨rfl, _, _, rfl⟩ (fun e' M' hi => ?_)
      · obtain ⟨rfl, a5, a6, rfl⟩ := hi
        obtain ⟨hj, rfl⟩ := map_getR hd
        have s1 : shN (A i) j ≤ 420 := Nat.le_of_dvd (by decide) (sh_dvd j fun c hc => h420 c (by omega))
        have s2 : shN (A i) (j + 1) ≤ 420 := Nat.le_of_dvd (by decide) (sh_dvd (j + 1) fun c hc => h420 c (by omega))
        have dp := (A i j).den_pos
        have dl420 : (A i j).den ≤ 420 := Nat.le_of_dvd (by decide) (h420 j hj)
        have g0 : 0 < Nat.gcd (shN (A i) j) (A i j).den := Nat.gcd_pos_of_pos_right _ dp
        have g1 : Nat.gcd (shN (A i) j) (A i j).den ≤ 420 := Nat.le_trans (Nat.gcd_le_right _ dp) dl420
        show True ∧ ∃ e1 M1', tupG 2 (consG (nameG 5) (consG (nameG 6) nilG)) (.tup [.int (A i j).num, .int ((A i j).den : Int)]) _ _ = _ ∧ _
        obtain ⟨S, hS⟩ : ∃ z : Int, z = ((shN (A i) j : Nat) : Int) := ⟨_, rfl⟩
        obtain ⟨S2, hS2⟩ : ∃ z : Int, z = ((shN (A i) (j + 1) : Nat) : Int) := ⟨_, rfl⟩
        obtain ⟨d, hd'⟩ : ∃ z : Int, z = ((A i j).den : Int) := ⟨_, rfl⟩
        obtain ⟨G, hG⟩ : ∃ z : Int, z = ((Nat.gcd (shN (A i) j) (A i j).den : Nat) : Int) := ⟨_, rfl⟩
        have gc : ∀ M, gcdF [.int S, .int d] M = ok (.int G) M := fun M => by
          rw [gcd_ev, hS, hd', hG]
          rfl
        have fd : ∀ M, fdivF (.int d) (.int G) M = ok (.int (d / G)) M := fun M => fdv (by omega) (by unfold Bd; omega)
        have mm : ∀ M, mulF (.int S) (.int (d / G)) M = ok (.int S2) M := fun M => by
          rw [mulB (k := 10) (l := 10) (by unfold Bd; omega) (bd_div (by unfold Bd; omega)) (by decide)]
          refine congrArg (fun z => ok (D.int z) M) ?_
          rw [hS, hd', hG, hS2]
          show _ = ((shN (A i) j * ((A i j).den / Nat.gcd (shN (A i) j) (A i j).den) : Nat) : Int)
          rw [Int.natCast_mul, Int.natCast_ediv]
        rw [← hS, ← hd', ← hS2]
        generalize (A i j).num = nn at *
        generalize d / G = dG at *
        refine ⟨trivial, [some R, some (.loc M.length), some (.int Dv), some (Q i), some (.int S), some (.int nn), some (.int d), a7], M', by simp [seqS, ifS, retS, raiseF, raiseS, consA, nilA, binD, callD, nameD, cD, bindE_v, thenS_v, bindE_x, thenS_x, unD, parS, asgS, tupD, int2F, eq_int, ne_int, intF0, negF, notF, nilS, brD, fnD, addE, subE, ix0, ix1, dropS, asgG, tupG, consG, nameG, nilG, lstD, andD, orD, tstD, ownS, appS, len_tup, len_lst, tup_tup, wipeE, set1, set2, typ_int, typ_tup, typ_non, typ_lst, isF, chainD, asT, truD, len_row, typ_row], ?_⟩
        exact wp_of (M' := M') (.nx [some R, some (.loc M.length), some (.int Dv), some (Q i), some (.int S2), some (.int nn), some (.int d), a7]) (by simp [seqS, ifS, retS, raiseF, raiseS, consA, nilA, binD, callD, nameD, cD, bindE_v, thenS_v, bindE_x, thenS_x, unD, parS, asgS, tupD, int2F, eq_int, ne_int, intF0, negF, notF, nilS, brD, fnD, addE, subE, ix0, ix1, dropS, asgG, tupG, consG, nameG, nilG, lstD, andD, orD, tstD, ownS, appS, len_tup, len_lst, tup_tup, wipeE, set1, set2, typ_int, typ_tup, typ_non, typ_lst, isF, chainD, asT, truD, len_row, typ_row, gc, fd, mm]) ⟨_, .inl rfl, rfl, _, _, rfl⟩
      · obtain ⟨rfl, a5, a6, rfl⟩ := hi
        (rw [List.length_map, List.length_range])
        have s1 : shN (A i) n ≤ 420 := Nat.le_of_dvd (by decide) (sh_dvd n h420)
        obtain ⟨S, hS⟩ : ∃ z : Int, z = ((shN (A i) n : Nat) : Int) := ⟨_, rfl⟩
        obtain ⟨D2, hD2⟩ : ∃ z : Int, z = ((dvN n A (i + 1) : Nat) : Int) := ⟨_, rfl⟩
        rw [← hS, ← hD2]
        have cs := comp_set (n := n) (a := A i) (M := M') (e := [some R, some (.loc M.length), some (.int Dv), some (Q i), some (.int S), a5, a6, a7]) hS hn (by rw [hQ']; rfl) (fun _ _ => rfl) (by simp) (fun c hc => v.b i c hi hc) h420
        have g1 : M'[M.length]? = some (.lst ((List.range i).map fun r => D.loc (M.length + 1 + r))) := by
          rw [hM1]
          exact get_mid
        refine wp_nx (e' := [some R, some (.loc M.length), some (.int Dv), some (Q i), some (.int S), a5, a6, a7]) (M' := stR M n A (i + 1)) ?_ ?_
        · rw [app_ok2 (n := M.length) rfl cs (app_get g1) (by simp; omega) (isL_at g1)]
          refine congrArg (fun z => some (Flw.nx _, z)) ?_
          rw [hM1, st_len]
          unfold stR
          rw [List.append_assoc, List.cons_append, set_mid, show (D.loc (M.length + 1 + i)) = (fun r => D.loc (M.length + 1 + r)) i from rfl, range_snoc]
          rw [List.range_succ, List.map_append]
          rw [List.map_singleton]
          simp
        · have mm : ∀ M, mulF (.int Dv) (.int S) M = ok (.int D2) M := fun M => by
            rw [mulB (l := 10) bDv (by unfold Bd; omega) (by decide), hDv, hS, hD2]
            refine congrArg (fun z => ok (D.int z) M) ?_
            show _ = ((dvN n A i * shN (A i) n : Nat) : Int)
            rw [Int.natCast_mul]
          refine wp_of (M' := stR M n A (i + 1)) (.nx [some R, some (.loc M.length), some (.int D2), some (Q i), some (.int S), a5, a6, a7]) ?_ ⟨_, .inl rfl, rfl, _, _, _, _, _, rfl⟩
          generalize stR M n A (i + 1) = Mx at *
          simp [seqS, ifS, retS, raiseF, raiseS, consA, nilA, binD, callD, nameD, cD, bindE_v, thenS_v, bindE_x, thenS_x, unD, parS, asgS, tupD, int2F, eq_int, ne_int, intF0, negF, notF, nilS, brD, fnD, addE, subE, ix0, ix1, dropS, asgG, tupG, consG, nameG, nilG, lstD, andD, orD, tstD, ownS, appS, len_tup, len_lst, tup_tup, wipeE, set1, set2, typ_int, typ_tup, typ_non, typ_lst, isF, chainD, asT, truD, len_row, typ_row, mm]
    · obtain ⟨rfl, a3, a4, a5, a6, a7, rfl⟩ := hi
      (rw [List.length_map, List.length_range])
      obtain ⟨z, M2, w1, w2, w3⟩ := whole_ok (mat_of (M := M) (n := n) (A := A)) hn fun r c hr hc => w_bd v hr hc
      rw [det_w] at w2
      have dl := dv_lt v n (Nat.le_refl _)
      obtain ⟨Dv, hDv⟩ : ∃ z : Int, z = ((dvN n A n : Nat) : Int) := ⟨_, rfl⟩
      have D0 : 0 < Dv := by omega
      have bDv : Bd 64 Dv := by
        have : dvN n A n < 2 ^ 64 := Nat.lt_of_lt_of_le dl.2 (Nat.pow_le_pow_right (by decide) (by omega))
        unfold Bd
        omega
      have fr : ∀ M, m_fraction [.int z, .int Dv] M = ok (qD (det n A)) M := fun M => by
        rw [fraction_ok D0 bDv (by decide), Rat.divInt_eq_div, w2, hDv]
        have : ((dvN n A n : Nat) : Rat) ≠ 0 := fun q => by
          have : dvN n A n = 0 := by exact_mod_cast q
          omega
        have e : (((dvN n A n : Nat) : Int) : Rat) = ((dvN n A n : Nat) : Rat) := rfl
        rw [e, Rat.div_def]
        have i1 := Rat.mul_inv_cancel _ this
        refine congrArg (fun q => ok (qD q) M) ?_
        grind
      rw [← hDv]
      have pre : ∃ X, M2 = M ++ X := by
        refine ⟨M2.drop M.length, ?_⟩
        have t := w3.take
        unfold stR at t
        rw [List.take_left'] at t
        · have q := (List.take_append_drop M.length M2).symm
          rw [t] at q
          exact q
        · rfl
      obtain ⟨X, rfl⟩ := pre
      refine wp_of (M' := M ++ X) (.rt (qD (det n A))) ?_ ⟨rfl, X, rfl⟩
      generalize stR M n A n = Mx at *
      generalize M ++ X = My at *
      simp [seqS, ifS, retS, raiseF, raiseS, consA, nilA, binD, callD, nameD, cD, bindE_v, thenS_v, bindE_x, thenS_x, unD, parS, asgS, tupD, int2F, eq_int, ne_int, intF0, negF, notF, nilS, brD, fnD, addE, subE, ix0, ix1, dropS, asgG, tupG, consG, nameG, nilG, lstD, andD, orD, tstD, ownS, appS, len_tup, len_lst, tup_tup, wipeE, set1, set2, typ_int, typ_tup, typ_non, typ_lst, isF, chainD, asT, truD, len_row, typ_row, w1, fr]
  obtain ⟨f, M', h1, rfl, X, rfl⟩ := key
  exact fv_rt (e0 := [some R, none, none, none, none, none, none, none]) X rfl h1 rfl
theorem minor_ok {n : Nat} {A : Mx} {M : Store} (v : VG n A) (hn : n ≤ 7) : m_minor [gridD n A] M = ok (qD (det n A)) M := by
  have a1 : ∀ M, m_need_rows [gridD n A, .int 0, .int 7] M = ok .non M := fun M => needrows_ok (by omega) (by omega)
  have a2 : ∀ M, m__minor_of [gridD n A] M = ok (qD (det n A)) M := fun M => minorof_ok v hn
  generalize gridD n A = R at *
  exact fv_rt0 (e0 := [some R]) rfl (by simp [seqS, ifS, retS, raiseF, raiseS, consA, nilA, binD, callD, nameD, cD, bindE_v, thenS_v, bindE_x, thenS_x, unD, parS, asgS, tupD, int2F, eq_int, ne_int, intF0, negF, notF, nilS, brD, fnD, addE, subE, ix0, ix1, dropS, asgG, tupG, consG, nameG, nilG, lstD, andD, orD, tstD, ownS, appS, len_tup, len_lst, tup_tup, wipeE, set1, set2, typ_int, typ_tup, typ_non, typ_lst, isF, chainD, asT, truD, len_row, typ_row, den_minor, a1, a2]) rfl
end K62
namespace K62
open PySem L2 DL
theorem at_mod {ns : List Int} {k : Nat} (h : 0 < ns.length) : ∃ z, atI (ns.map D.int) ((k : Int) % (ns.length : Int)) = some (.int z) := by
  have lt := Nat.mod_lt k h
  refine ⟨ns[k % ns.length], ?_⟩
  rw [show (k : Int) % (ns.length : Int) = ((k % ns.length : Nat) : Int) from (Int.natCast_emod _ _).symm]
  exact at_nat (by simp [lt])
/-- the next cell -/
theorem cell_ok {ns : List Int} {k0 : Nat} {M : Store} (h : M[0]? = some (.lst [.int (k0 : Int)])) (hk : k0 ≤ 5000) (hn : ns.length ≤ 63) : ∃ c : Int, 0 ≤ c ∧ c < 306783379 ∧ m__law_cell [.scr ns, .loc 0] M = ok (.int c) (M.set 0 (.lst [.int ((k0 + 1 : Nat) : Int)])) := by
  have lt : 0 < M.length := get_lt h
  obtain ⟨K, hK⟩ : ∃ K : Int, K = ((k0 + 1 : Nat) : Int) := ⟨_, rfl⟩
  obtain ⟨M', hM'⟩ : ∃ M', M' = M.set 0 (.lst [.int K]) := ⟨_, rfl⟩
  obtain ⟨k, hk0⟩ : ∃ k : Int, k = (k0 : Int) := ⟨_, rfl⟩
  rw [← hk0] at h
  have g' : M'[0]? = some (.lst [.int K]) := by
    rw [hM']
    simp [lt]
  have k0' : 1 ≤ K := by omega
  have k1' : K ≤ 5001 := by omega
  have hkK : k + 1 = K := by omega
  rw [← hK, ← hM']
  have mB : ∀ (x y : Int) M, Bd 45 x → Bd 45 y → mulF (.int x) (.int y) M = ok (.int (x * y)) M := fun x y M h1 h2 => mulB h1 h2 (by decide)
  have bK : Bd 45 K := by unfold Bd; omega
  have b31 : Bd 45 31 := by unfold Bd; decide
  have b79 : Bd 45 7919 := by unfold Bd; decide
  have b3k : Bd 45 (31 * K) := by unfold Bd; omega
  obtain ⟨base, hb⟩ : ∃ b : Int, b = 31 * K * K + 7919 * K := ⟨_, rfl⟩
  have ba0 : 0 ≤ base := by
    have : (0 : Int) ≤ 31 * K * K := Int.mul_nonneg (by omega) (by omega)
    omega
  let E : DL.Env := [some (.scr ns), some (.loc 0), some (.int K), some (.int base), none, none]
  have a1 : ∀ M, M[0]? = some (.lst [.int k]) → ixF (.loc 0) (.int 0) M = ok (.int k) M := fun M hm => ix_loc hm rfl
  have a2 : ixF (.loc 0) (.int 0) M' = ok (.int K) M' := ix_loc g' rfl
  have st1 : asgG (binD addF (binD ixF (nameD 1) (cD (.int 0))) (cD (.int 1))) (subG (nameD 1) (cD (.int 0))) [some (.scr ns), some (.loc 0), none, none, none, none] M = some (.nx [some (.scr ns), some (.loc 0), none, none, none, none], M') := by
    simp [seqS, ifS, retS, raiseF, raiseS, consA, nilA, binD, callD, nameD, cD, bindE_v, thenS_v, bindE_x, thenS_x, unD, parS, asgS, tupD, int2F, eq_int, ne_int, intF0, negF, notF, nilS, brD, fnD, addE, subE, ix0, ix1, dropS, asgG, tupG, consG, nameG, nilG, lstD, andD, orD, tstD, ownS, appS, len_tup, len_lst, tup_tup, wipeE, set1, set2, typ_int, typ_tup, typ_non, typ_lst, isF, chainD, asT, truD, len_row, typ_row, a1 M h, hkK, subG, h, ixN, hM']
  have st2 : asgS 2 (binD ixF (nameD 1) (cD (.int 0))) [some (.scr ns), some (.loc 0), none, none, none, none] M' = some (.nx [some (.scr ns), some (.loc 0), some (.int K), none, none, none], M') := by simp [seqS, ifS, retS, raiseF, raiseS, consA, nilA, binD, callD, nameD, cD, bindE_v, thenS_v, bindE_x, thenS_x, unD, parS, asgS, tupD, int2F, eq_int, ne_int, intF0, negF, notF, nilS, brD, fnD, addE, subE, ix0, ix1, dropS, asgG, tupG, consG, nameG, nilG, lstD, andD, orD, tstD, ownS, appS, len_tup, len_lst, tup_tup, wipeE, set1, set2, typ_int, typ_tup, typ_non, typ_lst, isF, chainD, asT, truD, len_row, typ_row, a2]
  have st3 : asgS 3 (binD addF (binD mulF (binD mulF (cD (.int 31)) (nameD 2)) (nameD 2)) (binD mulF (cD (.int 7919)) (nameD 2))) [some (.scr ns), some (.loc 0), some (.int K), none, none, none] M' = some (.nx E, M') := by
    simp [seqS, ifS, retS, raiseF, raiseS, consA, nilA, binD, callD, nameD, cD, bindE_v, thenS_v, bindE_x, thenS_x, unD, parS, asgS, tupD, int2F, eq_int, ne_int, intF0, negF, notF, nilS, brD, fnD, addE, subE, ix0, ix1, dropS, asgG, tupG, consG, nameG, nilG, lstD, andD, orD, tstD, ownS, appS, len_tup, len_lst, tup_tup, wipeE, set1, set2, typ_int, typ_tup, typ_non, typ_lst, isF, chainD, asT, truD, len_row, typ_row, mB _ _ _ b31 bK, mB _ _ _ b3k bK, mB _ _ _ b79 bK, hb, E]
  have last : ∀ (e : DL.Env) (b : Int), 0 ≤ b → e[3]? = some (some (.int b)) → Wp (retS (binD fdivF (binD fmodF (binD powF (binD fmodF (nameD 3) (cD (.int 2147483647))) (cD (.int 5))) (cD (.int 2147483647))) (cD (.int 7))) e M') (fun f M1 => M1 = M' ∧ ∃ c : Int, 0 ≤ c ∧ c < 306783379 ∧ f = .rt (.int c)) := by
    intro e b b0 h3
    obtain ⟨r, hr⟩ : ∃ r, r = b % 2147483647 := ⟨_, rfl⟩
    have r0 : 0 ≤ r := by omega
    have r1 : r < 2147483647 := by omega
    have rb : Bd 31 r := by unfold Bd; omega
    have e1 : ∀ M, fmodF (.int b) (.int 2147483647) M = ok (.int r) M := fun M => by rw [fmd (by decide), hr]
    obtain ⟨s, hs⟩ : ∃ s, s = r ^ 5 := ⟨_, rfl⟩
    have e2 : ∀ M, powF (.int r) (.int 5) M = ok (.int s) M := fun M => by
      rw [hs]
      exact pow_nat (n := 5) (by have := rb.lg; omega)
    obtain ⟨t, ht⟩ : ∃ t, t = s % 2147483647 := ⟨_, rfl⟩
    have e3 : ∀ M, fmodF (.int s) (.int 2147483647) M = ok (.int t) M := fun M => by rw [fmd (by decide), ht]
    have e4 : ∀ M, fdivF (.int t) (.int 7) M = ok (.int (t / 7)) M := fun M => fdv (by decide) (by unfold Bd; decide)
    exact wp_of (.rt (.int (t / 7))) (M' := M') (by simp [seqS, ifS, retS, raiseF, raiseS, consA, nilA, binD, callD, nameD, cD, bindE_v, thenS_v, bindE_x, thenS_x, unD, parS, asgS, tupD, int2F, eq_int, ne_int, intF0, negF, notF, nilS, brD, fnD, addE, subE, ix0, ix1, dropS, asgG, tupG, consG, nameG, nilG, lstD, andD, orD, tstD, ownS, appS, len_tup, len_lst, tup_tup, wipeE, set1, set2, typ_int, typ_tup, typ_non, typ_lst, isF, chainD, asT, truD, len_row, typ_row, h3, e1, e2, e3, e4]) ⟨rfl, t / 7, by omega, by omega, rfl⟩
  obtain ⟨L, hL⟩ : ∃ L : Int, L = (ns.length : Int) := ⟨_, rfl⟩
  have ln : ∀ M, lenF [.scr ns] M = ok (.int L) M := fun M => by rw [hL]; exact len_scr
  have key : Wp (den__law_cell [some (.scr ns), some (.loc 0), none, none, none, none] M) (fun f M1 => M1 = M' ∧ ∃ c : Int, 0 ≤ c ∧ c < 306783379 ∧ f = .rt (.int c)) := by
    unfold den__law_cell
    refine wp_nx st1 (wp_nx st2 (wp_nx st3 (wp_seq ?_)))
    by_cases hl : ns.length = 0
    · have l0 : ¬ 0 < L := by omega
      refine wp_of (.nx E) (M' := M') (by simp [seqS, ifS, retS, raiseF, raiseS, consA, nilA, binD, callD, nameD, cD, bindE_v, thenS_v, bindE_x, thenS_x, unD, parS, asgS, tupD, int2F, eq_int, ne_int, intF0, negF, notF, nilS, brD, fnD, addE, subE, ix0, ix1, dropS, asgG, tupG, consG, nameG, nilG, lstD, andD, orD, tstD, ownS, appS, len_tup, len_lst, tup_tup, wipeE, set1, set2, typ_int, typ_tup, typ_non, typ_lst, isF, chainD, asT, truD, len_row, typ_row, ln, l0, E]) (.inl ⟨E, rfl, ?_⟩)
      exact wp_nx (e' := E) (M' := M') (by simp [seqS, ifS, retS, raiseF, raiseS, consA, nilA, binD, callD, nameD, cD, bindE_v, thenS_v, bindE_x, thenS_x, unD, parS, asgS, tupD, int2F, eq_int, ne_int, intF0, negF, notF, nilS, brD, fnD, addE, subE, ix0, ix1, dropS, asgG, tupG, consG, nameG, nilG, lstD, andD, orD, tstD, ownS, appS, len_tup, len_lst, tup_tup, wipeE, set1, set2, typ_int, typ_tup, typ_non, typ_lst, isF, chainD, asT, truD, len_row, typ_row, ln, l0, E]) (last E base ba0 rfl)
    · have l0 : 0 < L := by omega
      have l1 : L ≤ 63 := by omega
      obtain ⟨z, hz⟩ := at_mod (ns := ns) (k := k0 + 1) (by omega)
      rw [← hK, ← hL] at hz
      obtain ⟨m, hm⟩ : ∃ m, m = K % L := ⟨_, rfl⟩
      obtain ⟨q, hq⟩ : ∃ q, q = K / L := ⟨_, rfl⟩
      rw [← hm] at hz
      have fm : ∀ M, fmodF (.int K) (.int L) M = ok (.int m) M := fun M => by rw [fmd l0, hm]
      have fd : ∀ M, fdivF (.int K) (.int L) M = ok (.int q) M := fun M => by rw [fdv l0 (by unfold Bd; omega), hq]
      have ix : ∀ M, ixF (.scr ns) (.int m) M = ok (.int z) M := fun M => ix_scr hz
      have p18 : ∀ M, powF (.int 10) (.int 18) M = ok (.int 1000000000000000000) M := fun M => pow_nat (n := 18) (by decide)
      have q0 : 0 ≤ q := by
        rw [hq]
        exact Int.ediv_nonneg (by omega) (by omega)
      have q1 : q ≤ 5001 := by
        rw [hq]
        exact Int.le_trans (Int.ediv_le_self _ (by omega)) k1'
      have rest : ∀ (a b : Option D), Wp (seqS (ifS (binD (gtF) (callD (lenF) (consA (nameD 0) (nilA))) (cD (.int 0))) (asgS 3 (binD addF (nameD 3) (binD mulF (binD fmodF (binD ixF (nameD 0) (binD fmodF (nameD 2) (callD (lenF) (consA (nameD 0) (nilA))))) (cD (.int 2147483629))) (binD addF (cD (.int 1)) (binD fdivF (nameD 2) (callD (lenF) (consA (nameD 0) (nilA)))))))) (nilS)) (retS (binD fdivF (binD fmodF (binD powF (binD fmodF (nameD 3) (cD (.int 2147483647))) (cD (.int 5))) (cD (.int 2147483647))) (cD (.int 7)))) [some (.scr ns), some (.loc 0), some (.int K), some (.int base), a, b] M') (fun f M1 => M1 = M' ∧ ∃ c : Int, 0 ≤ c ∧ c < 306783379 ∧ f = .rt (.int c)) := by
        intro a b
        obtain ⟨r, hr⟩ : ∃ r, r = z % 2147483629 := ⟨_, rfl⟩
        have fz : ∀ M, fmodF (.int z) (.int 2147483629) M = ok (.int r) M := fun M => by rw [fmd (by decide), hr]
        have r0 : 0 ≤ r := by omega
        have r1 : r < 2147483629 := by omega
        have mm := fun M => mB r (1 + q) M (by unfold Bd; omega) (by unfold Bd; omega)
        have rq : 0 ≤ r * (1 + q) := Int.mul_nonneg r0 (by omega)
        obtain ⟨b2, hb2⟩ : ∃ b2, b2 = base + r * (1 + q) := ⟨_, rfl⟩
        exact wp_nx (e' := [some (.scr ns), some (.loc 0), some (.int K), some (.int b2), a, b]) (M' := M') (by simp [seqS, ifS, retS, raiseF, raiseS, consA, nilA, binD, callD, nameD, cD, bindE_v, thenS_v, bindE_x, thenS_x, unD, parS, asgS, tupD, int2F, eq_int, ne_int, intF0, negF, notF, nilS, brD, fnD, addE, subE, ix0, ix1, dropS, asgG, tupG, consG, nameG, nilG, lstD, andD, orD, tstD, ownS, appS, len_tup, len_lst, tup_tup, wipeE, set1, set2, typ_int, typ_tup, typ_non, typ_lst, isF, chainD, asT, truD, len_row, typ_row, ln, l0, fm, ix, fz, fd, mm, ← hb2]) (last _ b2 (by omega) rfl)
      by_cases c2 : (1000000000000000000 : Int) ≤ z
      · by_cases c3 : q < 60
        · refine wp_if (M' := M') true (by simp [seqS, ifS, retS, raiseF, raiseS, consA, nilA, binD, callD, nameD, cD, bindE_v, thenS_v, bindE_x, thenS_x, unD, parS, asgS, tupD, int2F, eq_int, ne_int, intF0, negF, notF, nilS, brD, fnD, addE, subE, ix0, ix1, dropS, asgG, tupG, consG, nameG, nilG, lstD, andD, orD, tstD, ownS, appS, len_tup, len_lst, tup_tup, wipeE, set1, set2, typ_int, typ_tup, typ_non, typ_lst, isF, chainD, asT, truD, len_row, typ_row, ln, l0, fm, fd, ix, p18, ge_int, c2, c3, E]) (fun _ => ?_) (fun z => nomatch z)
          refine wp_nx (e' := [some (.scr ns), some (.loc 0), some (.int K), some (.int base), some (.int z), none]) (M' := M') (by simp [seqS, ifS, retS, raiseF, raiseS, consA, nilA, binD, callD, nameD, cD, bindE_v, thenS_v, bindE_x, thenS_x, unD, parS, asgS, tupD, int2F, eq_int, ne_int, intF0, negF, notF, nilS, brD, fnD, addE, subE, ix0, ix1, dropS, asgG, tupG, consG, nameG, nilG, lstD, andD, orD, tstD, ownS, appS, len_tup, len_lst, tup_tup, wipeE, set1, set2, typ_int, typ_tup, typ_non, typ_lst, isF, chainD, asT, truD, len_row, typ_row, ln, fm, ix, E]) ?_
          refine wp_for_nx ((List.range q.toNat).map fun (j : Nat) => D.int (j : Int)) (fun _ e M1 => M1 = M' ∧ ∃ own a, e = [some (.scr ns), some (.loc 0), some (.int K), some (.int base), some (.int own), a]) (it_rng (by
            rw [Int.toNat_of_nonneg q0]
            simp [seqS, ifS, retS, raiseF, raiseS, consA, nilA, binD, callD, nameD, cD, bindE_v, thenS_v, bindE_x, thenS_x, unD, parS, asgS, tupD, int2F, eq_int, ne_int, intF0, negF, notF, nilS, brD, fnD, addE, subE, ix0, ix1, dropS, asgG, tupG, consG, nameG, nilG, lstD, andD, orD, tstD, ownS, appS, len_tup, len_lst, tup_tup, wipeE, set1, set2, typ_int, typ_tup, typ_non, typ_lst, isF, chainD, asT, truD, len_row, typ_row, ln, fd]) (by omega)) (fun j d e M1 hd hi => ?_) (fun _ _ _ => trivial) ⟨rfl, z, none, rfl⟩ (fun e' M1 hi => ?_)
          · obtain ⟨rfl, own, a, rfl⟩ := hi
            have q : ∀ M, fdivF (.int own) (.int 306783379) M = ok (.int (own / 306783379)) M := fun M => fdv (by decide) (by unfold Bd; decide)
            obtain ⟨o2, ho2⟩ : ∃ o2, o2 = own / 306783379 := ⟨_, rfl⟩
            rw [← ho2] at q
            exact ⟨trivial, [some (.scr ns), some (.loc 0), some (.int K), some (.int base), some (.int own), some d], M1, rfl, wp_of (.nx [some (.scr ns), some (.loc 0), some (.int K), some (.int base), some (.int o2), some d]) (M' := M1) (by simp [seqS, ifS, retS, raiseF, raiseS, consA, nilA, binD, callD, nameD, cD, bindE_v, thenS_v, bindE_x, thenS_x, unD, parS, asgS, tupD, int2F, eq_int, ne_int, intF0, negF, notF, nilS, brD, fnD, addE, subE, ix0, ix1, dropS, asgG, tupG, consG, nameG, nilG, lstD, andD, orD, tstD, ownS, appS, len_tup, len_lst, tup_tup, wipeE, set1, set2, typ_int, typ_tup, typ_non, typ_lst, isF, chainD, asT, truD, len_row, typ_row, q]) ⟨_, .inl rfl, rfl, _, _, rfl⟩⟩
          · obtain ⟨rfl, own, a, rfl⟩ := hi
            by_cases c4 : 0 < own
            · have fo : ∀ M, fmodF (.int own) (.int 306783379) M = ok (.int (own % 306783379)) M := fun M => fmd (by decide)
              obtain ⟨o2, ho2⟩ : ∃ o2, o2 = own % 306783379 := ⟨_, rfl⟩
              rw [← ho2] at fo
              exact wp_of (.rt (.int o2)) (M' := M1) (by simp [seqS, ifS, retS, raiseF, raiseS, consA, nilA, binD, callD, nameD, cD, bindE_v, thenS_v, bindE_x, thenS_x, unD, parS, asgS, tupD, int2F, eq_int, ne_int, intF0, negF, notF, nilS, brD, fnD, addE, subE, ix0, ix1, dropS, asgG, tupG, consG, nameG, nilG, lstD, andD, orD, tstD, ownS, appS, len_tup, len_lst, tup_tup, wipeE, set1, set2, typ_int, typ_tup, typ_non, typ_lst, isF, chainD, asT, truD, len_row, typ_row, c4, fo]) (.inr ⟨(fun _ z => nomatch z), rfl, o2, by omega, by omega, rfl⟩)
            · exact wp_of (.nx [some (.scr ns), some (.loc 0), some (.int K), some (.int base), some (.int own), a]) (M' := M1) (by simp [seqS, ifS, retS, raiseF, raiseS, consA, nilA, binD, callD, nameD, cD, bindE_v, thenS_v, bindE_x, thenS_x, unD, parS, asgS, tupD, int2F, eq_int, ne_int, intF0, negF, notF, nilS, brD, fnD, addE, subE, ix0, ix1, dropS, asgG, tupG, consG, nameG, nilG, lstD, andD, orD, tstD, ownS, appS, len_tup, len_lst, tup_tup, wipeE, set1, set2, typ_int, typ_tup, typ_non, typ_lst, isF, chainD, asT, truD, len_row, typ_row, c4]) (.inl ⟨_, rfl, rest _ _⟩)
        · exact wp_of (.nx E) (M' := M') (by simp [seqS, ifS, retS, raiseF, raiseS, consA, nilA, binD, callD, nameD, cD, bindE_v, thenS_v, bindE_x, thenS_x, unD, parS, asgS, tupD, int2F, eq_int, ne_int, intF0, negF, notF, nilS, brD, fnD, addE, subE, ix0, ix1, dropS, asgG, tupG, consG, nameG, nilG, lstD, andD, orD, tstD, ownS, appS, len_tup, len_lst, tup_tup, wipeE, set1, set2, typ_int, typ_tup, typ_non, typ_lst, isF, chainD, asT, truD, len_row, typ_row, ln, l0, fm, fd, ix, p18, ge_int, c2, c3, E]) (.inl ⟨E, rfl, rest _ _⟩)
      · exact wp_of (.nx E) (M' := M') (by simp [seqS, ifS, retS, raiseF, raiseS, consA, nilA, binD, callD, nameD, cD, bindE_v, thenS_v, bindE_x, thenS_x, unD, parS, asgS, tupD, int2F, eq_int, ne_int, intF0, negF, notF, nilS, brD, fnD, addE, subE, ix0, ix1, dropS, asgG, tupG, consG, nameG, nilG, lstD, andD, orD, tstD, ownS, appS, len_tup, len_lst, tup_tup, wipeE, set1, set2, typ_int, typ_tup, typ_non, typ_lst, isF, chainD, asT, truD, len_row, typ_row, ln, l0, fm, fd, ix, p18, ge_int, c2, E]) (.inl ⟨E, rfl, rest _ _⟩)
  obtain ⟨f, M1, h1, rfl, c, c0, c1, rfl⟩ := key
  refine ⟨c, c0, c1, fv_rt2 (e0 := [some (.scr ns), some (.loc 0), none, none, none, none]) [] rfl (by rw [h1, List.append_nil]) (by rw [hM', List.length_set]) ?_ rfl⟩
  rw [hM']
  exact set_ok rfl
end K62
namespace K62
open PySem L2 DL
theorem wl_true {dt : DenE} {body : DenS} {f : Nat} {e e' : DL.Env} {M M1 M' : Store} (h1 : dt e M = ok (.bl true) M1) (h2 : body e M1 = some (.nx e', M')) : whileS dt body (f + 1) e M = whileS dt body f e' M' := by
  rw [whileS, h1]
  simp only [ok, h2]
theorem wl_false {dt : DenE} {body : DenS} {f : Nat} {e : DL.Env} {M M1 : Store} (h1 : dt e M = ok (.bl false) M1) : whileS dt body (f + 1) e M = some (.nx e, M1) := by
  rw [whileS, h1]
  simp only [ok]
theorem euclid : ∀ (f n m : Nat) (a b : D) (M : Store), m < f →
    whileS (binD (neF) (nameD 3) (cD (.int 0))) (parS 2 3 (nameD 3) (binD fmodF (nameD 2) (nameD 3))) f [some a, some b, some (.int (n : Int)), some (.int (m : Int)), none] M = some (.nx [some a, some b, some (.int ((Nat.gcd n m : Nat) : Int)), some (.int 0), none], M) := by
  intro f
  induction f with
  | zero => intro n m a b M h; omega
  | succ f ih =>
    intro n m a b M h
    by_cases h0 : m = 0
    · subst h0
      rw [wl_false (M1 := M) (by simp [seqS, ifS, retS, raiseF, raiseS, consA, nilA, binD, callD, nameD, cD, bindE_v, thenS_v, bindE_x, thenS_x, unD, parS, asgS, tupD, int2F, eq_int, ne_int, intF0, negF, notF, nilS, brD, fnD, addE, subE, ix0, ix1, dropS, asgG, tupG, consG, nameG, nilG, lstD, andD, orD, tstD, ownS, appS, len_tup, len_lst, tup_tup, wipeE, set1, set2, typ_int, typ_tup, typ_non, typ_lst, isF, chainD, asT, truD, len_row, typ_row])]
      simp
    · have lt : n % m < f := Nat.lt_of_lt_of_le (Nat.mod_lt _ (Nat.pos_of_ne_zero h0)) (by omega)
      have := ih m (n % m) a b M lt
      have g : Nat.gcd m (n % m) = Nat.gcd n m := by rw [Nat.gcd_comm n m, Nat.gcd_rec m n, Nat.gcd_comm]
      rw [g] at this
      obtain ⟨A, hA⟩ : ∃ A : Int, A = (n : Int) := ⟨_, rfl⟩
      obtain ⟨B, hB⟩ : ∃ A : Int, A = (m : Int) := ⟨_, rfl⟩
      obtain ⟨C, hC⟩ : ∃ A : Int, A = ((n % m : Nat) : Int) := ⟨_, rfl⟩
      have hm : B ≠ 0 := by omega
      have q : ∀ M, fmodF (.int A) (.int B) M = ok (.int C) M := fun M => by
        rw [fmd (by omega), hA, hB, hC, Int.natCast_emod]
      rw [← hA, ← hB]
      rw [← hB, ← hC] at this
      rw [wl_true (M1 := M) (M' := M) (e' := [some a, some b, some (.int B), some (.int C), none]) (by simp [seqS, ifS, retS, raiseF, raiseS, consA, nilA, binD, callD, nameD, cD, bindE_v, thenS_v, bindE_x, thenS_x, unD, parS, asgS, tupD, int2F, eq_int, ne_int, intF0, negF, notF, nilS, brD, fnD, addE, subE, ix0, ix1, dropS, asgG, tupG, consG, nameG, nilG, lstD, andD, orD, tstD, ownS, appS, len_tup, len_lst, tup_tup, wipeE, set1, set2, typ_int, typ_tup, typ_non, typ_lst, isF, chainD, asT, truD, len_row, typ_row, hm]) (by simp [seqS, ifS, retS, raiseF, raiseS, consA, nilA, binD, callD, nameD, cD, bindE_v, thenS_v, bindE_x, thenS_x, unD, parS, asgS, tupD, int2F, eq_int, ne_int, intF0, negF, notF, nilS, brD, fnD, addE, subE, ix0, ix1, dropS, asgG, tupG, consG, nameG, nilG, lstD, andD, orD, tstD, ownS, appS, len_tup, len_lst, tup_tup, wipeE, set1, set2, typ_int, typ_tup, typ_non, typ_lst, isF, chainD, asT, truD, len_row, typ_row, q])]
      exact this
/-- lowest terms -/
theorem low_ok {a b : Int} {k : Nat} (hb : 0 < b) (h : Bd k b) (hk : k < 9000) (M : Store) : m__law_low [.int a, .int b] M = ok (qD (Rat.divInt a b)) M := by
  obtain ⟨e1, e2⟩ := divInt_pos (a := a) hb
  have g0 : 0 < Nat.gcd a.natAbs b.natAbs := Nat.gcd_pos_of_pos_right _ (by omega)
  have gl : Nat.gcd a.natAbs b.natAbs ≤ b.natAbs := Nat.gcd_le_right _ (by omega)
  have da : ((Nat.gcd a.natAbs b.natAbs : Nat) : Int) ∣ a := Int.natAbs_dvd_natAbs.mp (by simpa using Nat.gcd_dvd_left _ _)
  have db : ((Nat.gcd a.natAbs b.natAbs : Nat) : Int) ∣ b := Int.natAbs_dvd_natAbs.mp (by simpa using Nat.gcd_dvd_right _ _)
  have gb : Bd k ((Nat.gcd a.natAbs b.natAbs : Nat) : Int) := Nat.lt_of_le_of_lt gl h
  have eu := fun (a' b' : D) M => euclid (b.natAbs + 1) a.natAbs b.natAbs a' b' M (by omega)
  obtain ⟨G, hG⟩ : ∃ G : Int, G = ((Nat.gcd a.natAbs b.natAbs : Nat) : Int) := ⟨_, rfl⟩
  obtain ⟨A, hA⟩ : ∃ A : Int, A = (a.natAbs : Int) := ⟨_, rfl⟩
  obtain ⟨B, hB⟩ : ∃ A : Int, A = (b.natAbs : Int) := ⟨_, rfl⟩
  have hBb : B.natAbs = b.natAbs := by omega
  have eu' : ∀ M, wlS (fuelN 3) (binD (neF) (nameD 3) (cD (.int 0))) (parS 2 3 (nameD 3) (binD fmodF (nameD 2) (nameD 3))) [some (.int a), some (.int b), some (.int A), some (.int B), none] M = some (.nx [some (.int a), some (.int b), some (.int G), some (.int 0), none], M) := fun M => by
    have hf : fuelN 3 [some (.int a), some (.int b), some (.int A), some (.int B), none] M = b.natAbs + 1 := by
      show B.natAbs + 1 = _
      rw [hBb]
    unfold wlS
    rw [hf, hA, hB, hG]
    exact eu _ _ M
  show m__law_low [.int a, .int b] M = ok (.tup [.int (Rat.divInt a b).num, .int ((Rat.divInt a b).den : Int)]) M
  rw [← hG] at e1 e2 da db gb
  rw [e1, e2]
  have G0 : G ≠ 0 := by omega
  have xa : ∀ M, absF [.int a] M = ok (.int A) M := fun M => abs_is hA
  have xb : ∀ M, absF [.int b] M = ok (.int B) M := fun M => abs_is hB
  have fa : ∀ M, fdivF (.int a) (.int G) M = ok (.int (a / G)) M := fun M => fdivE gb G0 da hk
  have fb : ∀ M, fdivF (.int b) (.int G) M = ok (.int (b / G)) M := fun M => fdivE gb G0 db hk
  obtain ⟨p, hp⟩ : ∃ p, p = a / G := ⟨_, rfl⟩
  obtain ⟨q, hq⟩ : ∃ q, q = b / G := ⟨_, rfl⟩
  rw [← hp] at fa ⊢
  rw [← hq] at fb ⊢
  refine fv_rt0 (e0 := [some (.int a), some (.int b), none, none, none]) rfl ?_ rfl
  unfold den__law_low
  rw [seq_nx (e' := [some (.int a), some (.int b), some (.int A), some (.int B), none]) (M' := M) (by simp [seqS, ifS, retS, raiseF, raiseS, consA, nilA, binD, callD, nameD, cD, bindE_v, thenS_v, bindE_x, thenS_x, unD, parS, asgS, tupD, int2F, eq_int, ne_int, intF0, negF, notF, nilS, brD, fnD, addE, subE, ix0, ix1, dropS, asgG, tupG, consG, nameG, nilG, lstD, andD, orD, tstD, ownS, appS, len_tup, len_lst, tup_tup, wipeE, set1, set2, typ_int, typ_tup, typ_non, typ_lst, isF, chainD, asT, truD, len_row, typ_row, xa, xb]), seq_nx (eu' M)]
  rw [seq_nx (e' := [some (.int a), some (.int b), some (.int G), some (.int 0), some (.int G)]) (M' := M) (by simp [seqS, ifS, retS, raiseF, raiseS, consA, nilA, binD, callD, nameD, cD, bindE_v, thenS_v, bindE_x, thenS_x, unD, parS, asgS, tupD, int2F, eq_int, ne_int, intF0, negF, notF, nilS, brD, fnD, addE, subE, ix0, ix1, dropS, asgG, tupG, consG, nameG, nilG, lstD, andD, orD, tstD, ownS, appS, len_tup, len_lst, tup_tup, wipeE, set1, set2, typ_int, typ_tup, typ_non, typ_lst, isF, chainD, asT, truD, len_row, typ_row, hb])]
  simp [seqS, ifS, retS, raiseF, raiseS, consA, nilA, binD, callD, nameD, cD, bindE_v, thenS_v, bindE_x, thenS_x, unD, parS, asgS, tupD, int2F, eq_int, ne_int, intF0, negF, notF, nilS, brD, fnD, addE, subE, ix0, ix1, dropS, asgG, tupG, consG, nameG, nilG, lstD, andD, orD, tstD, ownS, appS, len_tup, len_lst, tup_tup, wipeE, set1, set2, typ_int, typ_tup, typ_non, typ_lst, isF, chainD, asT, truD, len_row, typ_row, fa, fb]
theorem qD_ix0 {r : Rat} {M : Store} : ixF (qD r) (.int 0) M = ok (.int r.num) M := ix0 _ _ _
theorem qD_ix1 {r : Rat} {M : Store} : ixF (qD r) (.int 1) M = ok (.int (r.den : Int)) M := ix1 _ _ _ _
theorem times_ok {a b : Rat} {j k : Nat} (ha : Bd j a.num) (hb : Bd k b.num) (da : Bd 4000 (a.den : Int)) (db : Bd 4000 (b.den : Int)) (hjk : j + k < 1000000) (M : Store) : m__law_times [qD a, qD b] M = ok (qD (a * b)) M := by
  have e : a * b = Rat.divInt (a.num * b.num) ((a.den : Int) * (b.den : Int)) := by
    conv => lhs; rw [rat_div a, rat_div b]
    exact Rat.divInt_mul_divInt _ _
  have pa := a.den_pos
  have pb := b.den_pos
  have m1 : ∀ M, mulF (.int a.num) (.int b.num) M = ok (.int (a.num * b.num)) M := fun M => mulB ha hb hjk
  have m2 : ∀ M, mulF (.int (a.den : Int)) (.int (b.den : Int)) M = ok (.int ((a.den : Int) * (b.den : Int))) M := fun M => mulB da db (by decide)
  have lo := low_ok (a := a.num * b.num) (b := (a.den : Int) * (b.den : Int)) (k := 8000) (Int.mul_pos (by omega) (by omega)) (bd_mul da db) (by decide)
  rw [← e] at lo
  obtain ⟨A, hA⟩ : ∃ x, x = qD a := ⟨_, rfl⟩
  obtain ⟨B, hB⟩ : ∃ x, x = qD b := ⟨_, rfl⟩
  have a0 := fun M => qD_ix0 (r := a) (M := M)
  have a1 := fun M => qD_ix1 (r := a) (M := M)
  have b0 := fun M => qD_ix0 (r := b) (M := M)
  have b1 := fun M => qD_ix1 (r := b) (M := M)
  rw [← hA] at a0 a1 ⊢
  rw [← hB] at b0 b1 ⊢
  generalize a.num * b.num = nn at *
  generalize (a.den : Int) * (b.den : Int) = dd at *
  generalize a.num = an at *
  generalize b.num = bn at *
  generalize (a.den : Int) = ad at *
  generalize (b.den : Int) = bd at *
  exact fv_rt0 (e0 := [some A, some B]) rfl (by simp [seqS, ifS, retS, raiseF, raiseS, consA, nilA, binD, callD, nameD, cD, bindE_v, thenS_v, bindE_x, thenS_x, unD, parS, asgS, tupD, int2F, eq_int, ne_int, intF0, negF, notF, nilS, brD, fnD, addE, subE, ix0, ix1, dropS, asgG, tupG, consG, nameG, nilG, lstD, andD, orD, tstD, ownS, appS, len_tup, len_lst, tup_tup, wipeE, set1, set2, typ_int, typ_tup, typ_non, typ_lst, isF, chainD, asT, truD, len_row, typ_row, den__law_times, a0, a1, b0, b1, m1, m2, lo]) rfl
theorem plus_ok {a b : Rat} {j k : Nat} (ha : Bd j a.num) (hb : Bd k b.num) (da : Bd 4000 (a.den : Int)) (db : Bd 4000 (b.den : Int)) (hj : j < 900000) (hk : k < 900000) (M : Store) : m__law_plus [qD a, qD b] M = ok (qD (a + b)) M := by
  have e : a + b = Rat.divInt (a.num * (b.den : Int) + b.num * (a.den : Int)) ((a.den : Int) * (b.den : Int)) := by
    conv => lhs; rw [rat_div a, rat_div b]
    exact Rat.divInt_add_divInt _ _ (den0 a) (den0 b)
  have pa := a.den_pos
  have pb := b.den_pos
  have m1 : ∀ M, mulF (.int a.num) (.int (b.den : Int)) M = ok (.int (a.num * (b.den : Int))) M := fun M => mulB ha db (by omega)
  have m3 : ∀ M, mulF (.int b.num) (.int (a.den : Int)) M = ok (.int (b.num * (a.den : Int))) M := fun M => mulB hb da (by omega)
  have m2 : ∀ M, mulF (.int (a.den : Int)) (.int (b.den : Int)) M = ok (.int ((a.den : Int) * (b.den : Int))) M := fun M => mulB da db (by decide)
  have lo := low_ok (a := a.num * (b.den : Int) + b.num * (a.den : Int)) (b := (a.den : Int) * (b.den : Int)) (k := 8000) (Int.mul_pos (by omega) (by omega)) (bd_mul da db) (by decide)
  rw [← e] at lo
  obtain ⟨A, hA⟩ : ∃ x, x = qD a := ⟨_, rfl⟩
  obtain ⟨B, hB⟩ : ∃ x, x = qD b := ⟨_, rfl⟩
  have a0 := fun M => qD_ix0 (r := a) (M := M)
  have a1 := fun M => qD_ix1 (r := a) (M := M)
  have b0 := fun M => qD_ix0 (r := b) (M := M)
  have b1 := fun M => qD_ix1 (r := b) (M := M)
  rw [← hA] at a0 a1 ⊢
  rw [← hB] at b0 b1 ⊢
  generalize a.num * (b.den : Int) = n1 at *
  generalize b.num * (a.den : Int) = n2 at *
  generalize (a.den : Int) * (b.den : Int) = dd at *
  generalize a.num = an at *
  generalize b.num = bn at *
  generalize (a.den : Int) = ad at *
  generalize (b.den : Int) = bd at *
  exact fv_rt0 (e0 := [some A, some B]) rfl (by simp [seqS, ifS, retS, raiseF, raiseS, consA, nilA, binD, callD, nameD, cD, bindE_v, thenS_v, bindE_x, thenS_x, unD, parS, asgS, tupD, int2F, eq_int, ne_int, intF0, negF, notF, nilS, brD, fnD, addE, subE, ix0, ix1, dropS, asgG, tupG, consG, nameG, nilG, lstD, andD, orD, tstD, ownS, appS, len_tup, len_lst, tup_tup, wipeE, set1, set2, typ_int, typ_tup, typ_non, typ_lst, isF, chainD, asT, truD, len_row, typ_row, den__law_plus, a0, a1, b0, b1, m1, m2, m3, lo]) rfl
end K62
namespace K62
open PySem L2 DL
structure VE (S : Int) (r : Rat) : Prop where
  d : r.den ∣ 420
  b : Bd 100 r.num
  z : S = 2 ∨ r ≠ 0
abbrev envN (s0 s1 s2 s4 s5 s7 a8 a9 a10 : Option D) (S : Int) (Rw : Nat) : DL.Env := [s0, s1, s2, some (.int S), s4, s5, some (.loc Rw), s7, a8, a9, a10]
theorem qInt (v : Int) : (qD (v : Rat)) = .tup [.int v, .int 1] := rfl
theorem VE.int {S v : Int} (h : v.natAbs < 2 ^ 100) (z : S = 2 ∨ v ≠ 0) : VE S (v : Rat) := ⟨Nat.one_dvd _, h, by
  rcases z with z | z
  · exact .inl z
  · exact .inr fun q => z (by exact_mod_cast q)⟩
theorem ten30 {M : Store} : powF (.int 10) (.int 30) M = ok (.int 1000000000000000000000000000000) M := pow_nat (n := 30) (by decide)
theorem small_dvd : ∀ d : Nat, d < 8 → 0 < d → d ∣ 420 := by decide
theorem low_ve {S a b : Int} (ha : 0 < a) (ha2 : a < 20) (hb : 0 < b) (hb2 : b < 8) : VE S (Rat.divInt a b) := by
  obtain ⟨e1, e2⟩ := divInt_pos (a := a) hb
  have dp := (Rat.divInt a b).den_pos
  refine ⟨small_dvd _ ?_ dp, ?_, .inr fun z => ?_⟩
  · have := Int.ediv_le_self ((Nat.gcd a.natAbs b.natAbs : Nat) : Int) (Int.le_of_lt hb)
    have h2 : b / ((Nat.gcd a.natAbs b.natAbs : Nat) : Int) ≤ b := Int.ediv_le_self _ (Int.le_of_lt hb)
    omega
  · rw [e1]
    exact bd_div (show Bd 100 a by unfold Bd; exact Nat.lt_of_lt_of_le (show a.natAbs < 20 by omega) (by decide))
  · have : (Rat.divInt a b).num = 0 := by rw [z]; rfl
    rw [e1] at this
    have da : ((Nat.gcd a.natAbs b.natAbs : Nat) : Int) ∣ a := Int.natAbs_dvd_natAbs.mp (by simpa using Nat.gcd_dvd_left _ _)
    have := Int.ediv_mul_cancel da
    rw [‹a / _ = 0›, Int.zero_mul] at this
    omega
section
variable {M : Store} {S : Int} {Rw : Nat} {row : List D} {s0 s1 s2 s4 s5 s7 a9 a10 : Option D} {n : Int}
noncomputable abbrev B1 : DenS := seqS (asgS 9 (lstD (consA (tupD (consA (binD addF (cD (.int 1)) (binD fmodF (nameD 8) (cD (.int 2)))) (consA (cD (.int 1)) (nilA)))) (consA (fnD m__law_low 2 [] (consA (binD addF (cD (.int 1)) (binD fmodF (nameD 8) (cD (.int 7)))) (consA (binD addF (cD (.int 1)) (binD fmodF (binD fdivF (nameD 8) (cD (.int 7))) (cD (.int 5)))) (nilA)))) (consA (tupD (consA (binD subF (binD fmodF (nameD 8) (cD (.int 4))) (cD (.int 1))) (consA (cD (.int 1)) (nilA)))) (consA (tupD (consA (binD addF (nameD 8) (binD powF (cD (.int 10)) (cD (.int 30)))) (consA (cD (.int 1)) (nilA)))) (consA (tupD (consA (cD (.int 1)) (consA (cD (.int 1)) (nilA)))) (nilA)))))))) (seqS (asgS 10 (brD (binD (eqF) (binD fmodF (binD fdivF (nameD 8) (cD (.int 35))) (cD (.int 2))) (cD (.int 0))) (binD ixF (nameD 9) (nameD 3)) (tupD (consA (binD subF (cD (.int 0)) (binD ixF (binD ixF (nameD 9) (nameD 3)) (cD (.int 0)))) (consA (binD ixF (binD ixF (nameD 9) (nameD 3)) (cD (.int 1))) (nilA)))))) (appS (nameD 6) (brD (binD (gtF) (nameD 3) (cD (.int 2))) (binD ixF (nameD 9) (nameD 3)) (nameD 10))))
theorem entry_turn (hS0 : 0 ≤ S) (hS : S < 5) (n0 : 0 ≤ n) (n1 : n < 306783379) (hR : M[Rw]? = some (.lst row)) (hl : row.length < 100) :
    ∃ r a b, VE S r ∧ B1 (envN s0 s1 s2 s4 s5 s7 (some (.int n)) a9 a10 S Rw) M = some (.nx (envN s0 s1 s2 s4 s5 s7 (some (.int n)) a b S Rw), M.set Rw (.lst (row ++ [qD r]))) := by
  obtain ⟨x0, hx0⟩ : ∃ a, a = 1 + n % 2 := ⟨_, rfl⟩
  obtain ⟨a, ha⟩ : ∃ a, a = 1 + n % 7 := ⟨_, rfl⟩
  obtain ⟨b, hb⟩ : ∃ b, b = 1 + n / 7 % 5 := ⟨_, rfl⟩
  obtain ⟨x2, hx2⟩ : ∃ a, a = n % 4 - 1 := ⟨_, rfl⟩
  obtain ⟨x3, hx3⟩ : ∃ a, a = n + 1000000000000000000000000000000 := ⟨_, rfl⟩
  obtain ⟨h, hh⟩ : ∃ a, a = n / 35 % 2 := ⟨_, rfl⟩
  have e1 : ∀ M, fmodF (.int n) (.int 2) M = ok (.int (n % 2)) M := fun M => fmd (by decide)
  have e2 : ∀ M, fmodF (.int n) (.int 7) M = ok (.int (n % 7)) M := fun M => fmd (by decide)
  have e3 : ∀ M, fdivF (.int n) (.int 7) M = ok (.int (n / 7)) M := fun M => fdv (by decide) (by unfold Bd; decide)
  have e4 : ∀ M, fmodF (.int (n / 7)) (.int 5) M = ok (.int (n / 7 % 5)) M := fun M => fmd (by decide)
  have e5 : ∀ M, fmodF (.int n) (.int 4) M = ok (.int (n % 4)) M := fun M => fmd (by decide)
  have e6 : ∀ M, fdivF (.int n) (.int 35) M = ok (.int (n / 35)) M := fun M => fdv (by decide) (by unfold Bd; decide)
  have e7 : ∀ M, fmodF (.int (n / 35)) (.int 2) M = ok (.int h) M := fun M => by rw [hh]; exact fmd (by decide)
  have e8 : ∀ M, powF (.int 10) (.int 30) M = ok (.int 1000000000000000000000000000000) M := fun M => ten30
  have lo := low_ok (a := a) (b := b) (k := 10) (by omega) (by unfold Bd; omega) (by decide)
  obtain ⟨q, hq⟩ : ∃ q, q = Rat.divInt a b := ⟨_, rfl⟩
  rw [← hq] at lo
  obtain ⟨P, hP⟩ : ∃ P, P = qD q := ⟨_, rfl⟩
  rw [← hP] at lo
  let L : D := .lst [.tup [.int x0, .int 1], P, .tup [.int x2, .int 1], .tup [.int x3, .int 1], .tup [.int 1, .int 1]]
  have key : ∃ r, VE S r ∧ ∀ M, ixF L (.int S) M = ok (qD r) M := by
    have c : S = 0 ∨ S = 1 ∨ S = 2 ∨ S = 3 ∨ S = 4 := by omega
    rcases c with z | z | z | z | z
    · exact ⟨(x0 : Rat), .int (Nat.lt_of_lt_of_le (show x0.natAbs < 3 by omega) (by decide)) (.inr (by omega)), fun M => by rw [z]; exact ix_lst rfl⟩
    · refine ⟨q, ?_, fun M => by rw [z, ← hP]; exact ix_lst rfl⟩
      rw [hq]
      exact low_ve (by omega) (by omega) (by omega) (by omega)
    · exact ⟨(x2 : Rat), .int (Nat.lt_of_lt_of_le (show x2.natAbs < 4 by omega) (by decide)) (.inl z), fun M => by rw [z]; exact ix_lst rfl⟩
    · exact ⟨(x3 : Rat), .int (Nat.lt_of_lt_of_le (show x3.natAbs < 1000000000000000000000306783380 by omega) (by decide)) (.inr (by omega)), fun M => by rw [z]; exact ix_lst rfl⟩
    · exact ⟨((1 : Int) : Rat), .int (by decide) (.inr (by decide)), fun M => by rw [z]; exact ix_lst rfl⟩
  obtain ⟨r, hr1, hr2⟩ := key
  obtain ⟨V, hV⟩ : ∃ V, V = qD r := ⟨_, rfl⟩
  have v0 : ∀ M, ixF V (.int 0) M = ok (.int r.num) M := fun M => by rw [hV]; exact qD_ix0
  have v1 : ∀ M, ixF V (.int 1) M = ok (.int (r.den : Int)) M := fun M => by rw [hV]; exact qD_ix1
  rw [← hV] at hr2
  have st1 : asgS 9 (lstD (consA (tupD (consA (binD addF (cD (.int 1)) (binD fmodF (nameD 8) (cD (.int 2)))) (consA (cD (.int 1)) (nilA)))) (consA (fnD m__law_low 2 [] (consA (binD addF (cD (.int 1)) (binD fmodF (nameD 8) (cD (.int 7)))) (consA (binD addF (cD (.int 1)) (binD fmodF (binD fdivF (nameD 8) (cD (.int 7))) (cD (.int 5)))) (nilA)))) (consA (tupD (consA (binD subF (binD fmodF (nameD 8) (cD (.int 4))) (cD (.int 1))) (consA (cD (.int 1)) (nilA)))) (consA (tupD (consA (binD addF (nameD 8) (binD powF (cD (.int 10)) (cD (.int 30)))) (consA (cD (.int 1)) (nilA)))) (consA (tupD (consA (cD (.int 1)) (consA (cD (.int 1)) (nilA)))) (nilA))))))) (envN s0 s1 s2 s4 s5 s7 (some (.int n)) a9 a10 S Rw) M = some (.nx (envN s0 s1 s2 s4 s5 s7 (some (.int n)) (some L) a10 S Rw), M) := by
    simp [seqS, ifS, retS, raiseF, raiseS, consA, nilA, binD, callD, nameD, cD, bindE_v, thenS_v, bindE_x, thenS_x, unD, parS, asgS, tupD, int2F, eq_int, ne_int, intF0, negF, notF, nilS, brD, fnD, addE, subE, ix0, ix1, dropS, asgG, tupG, consG, nameG, nilG, lstD, andD, orD, tstD, ownS, appS, len_tup, len_lst, tup_tup, wipeE, set1, set2, typ_int, typ_tup, typ_non, typ_lst, isF, chainD, asT, truD, len_row, typ_row, e1, e2, e3, e4, e5, e8, ← hx0, ← ha, ← hb, ← hx2, ← hx3, lo, L]
  obtain ⟨l, hL⟩ : ∃ l, l = L := ⟨_, rfl⟩
  rw [← hL] at hr2 st1
  clear_value L
  have hhc : h = 0 ∨ h = 1 := by omega
  by_cases h2 : 2 < S
  · refine ⟨r, some l, some (if h = 0 then V else .tup [.int (0 - r.num), .int (r.den : Int)]), hr1, ?_⟩
    rw [← hV]
    show seqS _ _ _ _ = _
    rw [seq_nx st1]
    generalize r.num = rn at *
    generalize (r.den : Int) = rd at *
    rw [seq_nx (e' := envN s0 s1 s2 s4 s5 s7 (some (.int n)) (some l) (some (if h = 0 then V else .tup [.int (0 - rn), .int rd])) S Rw) (M' := M) (by
      rcases hhc with c | c
      · subst c
        simp [seqS, ifS, retS, raiseF, raiseS, consA, nilA, binD, callD, nameD, cD, bindE_v, thenS_v, bindE_x, thenS_x, unD, parS, asgS, tupD, int2F, eq_int, ne_int, intF0, negF, notF, nilS, brD, fnD, addE, subE, ix0, ix1, dropS, asgG, tupG, consG, nameG, nilG, lstD, andD, orD, tstD, ownS, appS, len_tup, len_lst, tup_tup, wipeE, set1, set2, typ_int, typ_tup, typ_non, typ_lst, isF, chainD, asT, truD, len_row, typ_row, e6, e7, hr2]
      · subst c
        simp [seqS, ifS, retS, raiseF, raiseS, consA, nilA, binD, callD, nameD, cD, bindE_v, thenS_v, bindE_x, thenS_x, unD, parS, asgS, tupD, int2F, eq_int, ne_int, intF0, negF, notF, nilS, brD, fnD, addE, subE, ix0, ix1, dropS, asgG, tupG, consG, nameG, nilG, lstD, andD, orD, tstD, ownS, appS, len_tup, len_lst, tup_tup, wipeE, set1, set2, typ_int, typ_tup, typ_non, typ_lst, isF, chainD, asT, truD, len_row, typ_row, e6, e7, hr2, v0, v1])]
    exact app_ok (n := Rw) rfl (by simp [seqS, ifS, retS, raiseF, raiseS, consA, nilA, binD, callD, nameD, cD, bindE_v, thenS_v, bindE_x, thenS_x, unD, parS, asgS, tupD, int2F, eq_int, ne_int, intF0, negF, notF, nilS, brD, fnD, addE, subE, ix0, ix1, dropS, asgG, tupG, consG, nameG, nilG, lstD, andD, orD, tstD, ownS, appS, len_tup, len_lst, tup_tup, wipeE, set1, set2, typ_int, typ_tup, typ_non, typ_lst, isF, chainD, asT, truD, len_row, typ_row, gt_int, h2, hr2]) hR (by omega)
  · rcases hhc with c | c
    · refine ⟨r, some l, some V, hr1, ?_⟩
      rw [← hV]
      show seqS _ _ _ _ = _
      rw [seq_nx st1]
      subst c
      rw [seq_nx (e' := envN s0 s1 s2 s4 s5 s7 (some (.int n)) (some l) (some V) S Rw) (M' := M) (by simp [seqS, ifS, retS, raiseF, raiseS, consA, nilA, binD, callD, nameD, cD, bindE_v, thenS_v, bindE_x, thenS_x, unD, parS, asgS, tupD, int2F, eq_int, ne_int, intF0, negF, notF, nilS, brD, fnD, addE, subE, ix0, ix1, dropS, asgG, tupG, consG, nameG, nilG, lstD, andD, orD, tstD, ownS, appS, len_tup, len_lst, tup_tup, wipeE, set1, set2, typ_int, typ_tup, typ_non, typ_lst, isF, chainD, asT, truD, len_row, typ_row, e6, e7, hr2])]
      exact app_ok (n := Rw) rfl (by simp [seqS, ifS, retS, raiseF, raiseS, consA, nilA, binD, callD, nameD, cD, bindE_v, thenS_v, bindE_x, thenS_x, unD, parS, asgS, tupD, int2F, eq_int, ne_int, intF0, negF, notF, nilS, brD, fnD, addE, subE, ix0, ix1, dropS, asgG, tupG, consG, nameG, nilG, lstD, andD, orD, tstD, ownS, appS, len_tup, len_lst, tup_tup, wipeE, set1, set2, typ_int, typ_tup, typ_non, typ_lst, isF, chainD, asT, truD, len_row, typ_row, gt_int, h2]) hR (by omega)
    · have q1 : (-r).num = - r.num := rfl
      have q2 : (-r).den = r.den := rfl
      refine ⟨-r, some l, some (qD (-r)), ⟨hr1.d, ?_, ?_⟩, ?_⟩
      · have := hr1.b
        unfold Bd at *
        rw [q1]
        omega
      · rcases hr1.z with z | z
        · exact .inl z
        · exact .inr fun w => z (by grind)
      · have hN : qD (-r) = .tup [.int (0 - r.num), .int (r.den : Int)] := by
          show D.tup [.int (-r).num, .int ((-r).den : Int)] = _
          rw [q1, q2, Int.zero_sub]
        rw [hN]
        show seqS _ _ _ _ = _
        rw [seq_nx st1]
        subst c
        generalize r.num = rn at *
        generalize (r.den : Int) = rd at *
        rw [seq_nx (e' := envN s0 s1 s2 s4 s5 s7 (some (.int n)) (some l) (some (.tup [.int (0 - rn), .int rd])) S Rw) (M' := M) (by simp [seqS, ifS, retS, raiseF, raiseS, consA, nilA, binD, callD, nameD, cD, bindE_v, thenS_v, bindE_x, thenS_x, unD, parS, asgS, tupD, int2F, eq_int, ne_int, intF0, negF, notF, nilS, brD, fnD, addE, subE, ix0, ix1, dropS, asgG, tupG, consG, nameG, nilG, lstD, andD, orD, tstD, ownS, appS, len_tup, len_lst, tup_tup, wipeE, set1, set2, typ_int, typ_tup, typ_non, typ_lst, isF, chainD, asT, truD, len_row, typ_row, e6, e7, hr2, v0, v1])]
        exact app_ok (n := Rw) rfl (by simp [seqS, ifS, retS, raiseF, raiseS, consA, nilA, binD, callD, nameD, cD, bindE_v, thenS_v, bindE_x, thenS_x, unD, parS, asgS, tupD, int2F, eq_int, ne_int, intF0, negF, notF, nilS, brD, fnD, addE, subE, ix0, ix1, dropS, asgG, tupG, consG, nameG, nilG, lstD, andD, orD, tstD, ownS, appS, len_tup, len_lst, tup_tup, wipeE, set1, set2, typ_int, typ_tup, typ_non, typ_lst, isF, chainD, asT, truD, len_row, typ_row, gt_int, h2]) hR (by omega)
end
end K62
namespace K62
open PySem L2 DL
theorem nl_grid {n : Nat} {A : Mx} : nlD 0 (gridD n A) = true := nl_row fun _ _ => nl_row fun _ _ => rfl
theorem entries_ok {ns : List Int} {k0 s : Nat} {S : Int} {M : Store} (hM : M[0]? = some (.lst [.int (k0 : Int)])) (hk : k0 + s * s ≤ 5000) (hn : ns.length ≤ 63) (hs : s ≤ 11) (hS0 : 0 ≤ S) (hS : S < 5) :
    ∃ A : Mx, (∀ i j, i < s → j < s → VE S (A i j)) ∧ m__law_entries [.scr ns, .loc 0, .int (s : Int), .int S] M = ok (gridD s A) (M.set 0 (.lst [.int ((k0 + s * s : Nat) : Int)])) := by
  obtain ⟨Sz, hSz⟩ : ∃ x : Int, x = (s : Int) := ⟨_, rfl⟩
  have lt0 : 0 < M.length := get_lt hM
  let B : Nat → Store := fun y => M.set 0 (.lst [.int ((k0 + y : Nat) : Int)])
  have lB : ∀ y, (B y).length = M.length := fun y => List.length_set
  have B0 : B 0 = M := set_self hM
  have gB : ∀ y, (B y)[0]? = some (.lst [.int ((k0 + y : Nat) : Int)]) := fun y => List.getElem?_set_self lt0
  have sB : ∀ y z (X : Store), (B y ++ X).set 0 (.lst [.int ((k0 + z : Nat) : Int)]) = B z ++ X := fun y z X => by
    rw [List.set_append_left _ _ (by rw [lB]; exact lt0)]
    show (M.set 0 _).set 0 _ ++ X = _
    rw [List.set_set]
  rw [← hSz]
  have key : Wp (den__law_entries [some (.scr ns), some (.loc 0), some (.int Sz), some (.int S), none, none, none, none, none, none, none] M) (fun f M1 => ∃ A : Mx, (∀ i j, i < s → j < s → VE S (A i j)) ∧ f = .rt (gridD s A) ∧ ∃ X, M1 = B (s * s) ++ X) := by
    unfold den__law_entries
    refine wp_nx (e' := [some (.scr ns), some (.loc 0), some (.int Sz), some (.int S), some (.loc M.length), none, none, none, none, none, none]) (M' := M ++ [.lst []]) (by simp [seqS, ifS, retS, raiseF, raiseS, consA, nilA, binD, callD, nameD, cD, bindE_v, thenS_v, bindE_x, thenS_x, unD, parS, asgS, tupD, int2F, eq_int, ne_int, intF0, negF, notF, nilS, brD, fnD, addE, subE, ix0, ix1, dropS, asgG, tupG, consG, nameG, nilG, lstD, andD, orD, tstD, ownS, appS, len_tup, len_lst, tup_tup, wipeE, set1, set2, typ_int, typ_tup, typ_non, typ_lst, isF, chainD, asT, truD, len_row, typ_row]) ?_
    refine wp_for_nx ((List.range s).map fun (y : Nat) => D.int (y : Int)) (fun y e M' => ∃ (A : Mx) (X : Store) (a5 a6 a7 a8 a9 a10 : Option D), (∀ i j, i < y → j < s → VE S (A i j)) ∧ M' = B (y * s) ++ .lst ((List.range y).map fun i => rowD s fun j => qD (A i j)) :: X ∧ e = [some (.scr ns), some (.loc 0), some (.int Sz), some (.int S), some (.loc M.length), a5, a6, a7, a8, a9, a10])
      (it_rng (by rw [← hSz]; rfl) (by omega)) (fun y d e M' hd hi => ?_) (fun _ _ _ => trivial) ⟨fun _ _ => 1, [], _, _, _, _, _, _, (fun _ _ z => absurd z (Nat.not_lt_zero _)), by rw [Nat.zero_mul, B0]; rfl, rfl⟩ (fun e' M' hi => ?_)
    · obtain ⟨A, X, a5, a6, a7, a8, a9, a10, hs', rfl, rfl⟩ := hi
      obtain ⟨hy, rfl⟩ := map_getR hd
      obtain ⟨Y, hY⟩ : ∃ x : Int, x = (y : Int) := ⟨_, rfl⟩
      rw [← hY]
      obtain ⟨rows, hrows⟩ : ∃ r, r = (List.range y).map fun i => rowD s fun j => qD (A i j) := ⟨_, rfl⟩
      rw [← hrows]
      obtain ⟨L1, hL1⟩ : ∃ L1, L1 = M.length + (X.length + 1) := ⟨_, rfl⟩
      have lM : ∀ z, (B z ++ Ob.lst rows :: X).length = L1 := fun z => by rw [List.length_append, lB, List.length_cons, hL1]
      have yw : y * s + s ≤ s * s := by
        rw [← Nat.succ_mul]
        exact Nat.mul_le_mul_right _ hy
      refine ⟨trivial, [some (.scr ns), some (.loc 0), some (.int Sz), some (.int S), some (.loc M.length), some (.int Y), a6, a7, a8, a9, a10], _, rfl, ?_⟩
      refine wp_nx (e' := [some (.scr ns), some (.loc 0), some (.int Sz), some (.int S), some (.loc M.length), some (.int Y), some (.loc L1), a7, a8, a9, a10]) (M' := (B (y * s) ++ Ob.lst rows :: X) ++ [.lst []]) (by
        obtain ⟨M2, hM2⟩ : ∃ M2, M2 = B (y * s) ++ Ob.lst rows :: X := ⟨_, rfl⟩
        rw [← hM2, ← lM (y * s), ← hM2]
        simp [seqS, ifS, retS, raiseF, raiseS, consA, nilA, binD, callD, nameD, cD, bindE_v, thenS_v, bindE_x, thenS_x, unD, parS, asgS, tupD, int2F, eq_int, ne_int, intF0, negF, notF, nilS, brD, fnD, addE, subE, ix0, ix1, dropS, asgG, tupG, consG, nameG, nilG, lstD, andD, orD, tstD, ownS, appS, len_tup, len_lst, tup_tup, wipeE, set1, set2, typ_int, typ_tup, typ_non, typ_lst, isF, chainD, asT, truD, len_row, typ_row]) ?_
      refine wp_for_nx ((List.range s).map fun (x : Nat) => D.int (x : Int)) (fun x e M' => ∃ (R : Nat → Rat) (a7 a8 a9 a10 : Option D), (∀ i, i < x → VE S (R i)) ∧ M' = (B (y * s + x) ++ Ob.lst rows :: X) ++ [.lst ((List.range x).map fun i => qD (R i))] ∧ e = [some (.scr ns), some (.loc 0), some (.int Sz), some (.int S), some (.loc M.length), some (.int Y), some (.loc L1), a7, a8, a9, a10])
        (it_rng (by rw [← hSz]; rfl) (by omega)) (fun x d e M' hd hi => ?_) (fun _ _ _ => trivial) ⟨fun _ => 1, _, _, _, _, (fun _ z => absurd z (Nat.not_lt_zero _)), rfl, rfl⟩ (fun e' M' hi => ?_)
      · obtain ⟨R, a7, a8, a9, a10, hr, rfl, rfl⟩ := hi
        obtain ⟨hx, rfl⟩ := map_getR hd
        obtain ⟨X', hX⟩ : ∃ x' : Int, x' = (x : Int) := ⟨_, rfl⟩
        rw [← hX]
        obtain ⟨c, c0, c1, hc⟩ := cell_ok (ns := ns) (M := (B (y * s + x) ++ Ob.lst rows :: X) ++ [.lst ((List.range x).map fun i => qD (R i))]) (k0 := k0 + (y * s + x)) (by
          rw [List.append_assoc, List.getElem?_append_left (by rw [lB]; exact lt0)]
          exact gB _) (by omega) hn
        rw [show k0 + (y * s + x) + 1 = k0 + (y * s + (x + 1)) by omega, List.append_assoc, sB _ (y * s + (x + 1)), ← List.append_assoc, ← List.append_assoc] at hc
        obtain ⟨Ma, hMa⟩ : ∃ M1, M1 = (B (y * s + x) ++ Ob.lst rows :: X) ++ [.lst ((List.range x).map fun i => qD (R i))] := ⟨_, rfl⟩
        obtain ⟨Mb, hMb⟩ : ∃ M1, M1 = (B (y * s + (x + 1)) ++ Ob.lst rows :: X) ++ [.lst ((List.range x).map fun i => qD (R i))] := ⟨_, rfl⟩
        rw [← hMa, ← hMb] at hc
        rw [← hMa]
        have gb : Mb[L1]? = some (.lst ((List.range x).map fun i => qD (R i))) := by
          rw [hMb, ← lM (y * s + (x + 1))]
          exact get_mid
        obtain ⟨p, a, b, hp, hst⟩ := entry_turn (M := Mb) (Rw := L1) (s0 := some (.scr ns)) (s1 := some (.loc 0)) (s2 := some (.int Sz)) (s4 := some (.loc M.length)) (s5 := some (.int Y)) (s7 := some (.int X')) (a9 := a9) (a10 := a10) (S := S) (n := c) hS0 hS c0 c1 gb (by simp; omega)
        refine ⟨trivial, envN (some (.scr ns)) (some (.loc 0)) (some (.int Sz)) (some (.loc M.length)) (some (.int Y)) (some (.int X')) a8 a9 a10 S L1, Ma, rfl, ?_⟩
        refine wp_nx (e' := envN (some (.scr ns)) (some (.loc 0)) (some (.int Sz)) (some (.loc M.length)) (some (.int Y)) (some (.int X')) (some (.int c)) a9 a10 S L1) (M' := Mb) (by simp [seqS, ifS, retS, raiseF, raiseS, consA, nilA, binD, callD, nameD, cD, bindE_v, thenS_v, bindE_x, thenS_x, unD, parS, asgS, tupD, int2F, eq_int, ne_int, intF0, negF, notF, nilS, brD, fnD, addE, subE, ix0, ix1, dropS, asgG, tupG, consG, nameG, nilG, lstD, andD, orD, tstD, ownS, appS, len_tup, len_lst, tup_tup, wipeE, set1, set2, typ_int, typ_tup, typ_non, typ_lst, isF, chainD, asT, truD, len_row, typ_row, hc]) ?_
        refine wp_of _ hst ⟨_, .inl rfl, fun i => if i = x then p else R i, _, _, _, _, ?_, ?_, rfl⟩
        · intro i hi
          show VE S (if i = x then p else R i)
          by_cases e1 : i = x
          · rw [if_pos e1]; exact hp
          · rw [if_neg e1]; exact hr i (by omega)
        · have e1 : ((List.range x).map fun i => qD (R i)) = (List.range x).map fun i => qD (if i = x then p else R i) := List.map_congr_left fun i hi => by
            have := List.mem_range.mp hi
            rw [if_neg (by omega)]
          have e2 := range_snoc (f := fun i => qD (if i = x then p else R i)) x
          rw [if_pos rfl] at e2
          rw [hMb, ← lM (y * s + (x + 1)), set_mid, e1, e2]
      · obtain ⟨R, a7, a8, a9, a10, hr, rfl, rfl⟩ := hi
        rw [List.length_map, List.length_range] at hr ⊢
        obtain ⟨A', hA'⟩ : ∃ A' : Mx, A' = fun i j => if i = y then R j else A i j := ⟨_, rfl⟩
        have Ay : ∀ x, A' y x = R x := fun x => by rw [hA']; exact if_pos rfl
        have An : ∀ i x, i ≠ y → A' i x = A i x := fun i x q => by rw [hA']; exact if_neg q
        obtain ⟨Ma, hMa⟩ : ∃ M1, M1 = (B (y * s + s) ++ Ob.lst rows :: X) ++ [.lst ((List.range s).map fun i => qD (R i))] := ⟨_, rfl⟩
        rw [← hMa]
        have g1 : Ma[L1]? = some (.lst ((List.range s).map fun i => qD (R i))) := by
          rw [hMa, ← lM (y * s + s)]
          exact get_mid
        have g2 : Ma[M.length]? = some (.lst rows) := by
          rw [hMa, List.append_assoc, ← lB (y * s + s)]
          exact get_mid
        have t := tup_loc (M := Ma) (n := L1) g1 (by simp; omega)
        refine wp_of (.nx _) (app_ok (n := M.length) rfl (show callD tupcF (consA (nameD 6) nilA) _ _ = ok (rowD s fun x => qD (A' y x)) _ by
          have e1 : (rowD s fun x => qD (A' y x)) = rowD s fun x => qD (R x) := row_ext fun x _ => by rw [Ay]
          rw [e1]
          simp [seqS, ifS, retS, raiseF, raiseS, consA, nilA, binD, callD, nameD, cD, bindE_v, thenS_v, bindE_x, thenS_x, unD, parS, asgS, tupD, int2F, eq_int, ne_int, intF0, negF, notF, nilS, brD, fnD, addE, subE, ix0, ix1, dropS, asgG, tupG, consG, nameG, nilG, lstD, andD, orD, tstD, ownS, appS, len_tup, len_lst, tup_tup, wipeE, set1, set2, typ_int, typ_tup, typ_non, typ_lst, isF, chainD, asT, truD, len_row, typ_row, t]
          rfl) g2 (by rw [hrows]; simp; omega)) ⟨_, .inl rfl, A', X ++ [.lst ((List.range s).map fun i => qD (R i))], _, _, _, _, _, _, ?_, ?_, rfl⟩
        · intro i j hi hj
          by_cases e1 : i = y
          · rw [e1, Ay]
            exact hr j hj
          · rw [An _ _ e1]
            exact hs' i j (by omega) hj
        · have e1 : rows = (List.range y).map fun i => rowD s fun j => qD (A' i j) := by
            rw [hrows]
            exact List.map_congr_left fun i hi => by
              have := List.mem_range.mp hi
              exact row_ext fun j _ => by rw [An _ _ (by omega)]
          rw [hMa, List.append_assoc, List.cons_append, ← lB (y * s + s), set_mid, e1, range_snoc (f := fun i => rowD s fun j => qD (A' i j)), Nat.succ_mul]
    · obtain ⟨A, X, a5, a6, a7, a8, a9, a10, hs', rfl, rfl⟩ := hi
      rw [List.length_map, List.length_range] at hs' ⊢
      have t := tup_loc (M := B (s * s) ++ .lst ((List.range s).map fun i => rowD s fun j => qD (A i j)) :: X) (n := M.length) (by rw [← lB (s * s)]; exact get_mid) (by simp; omega)
      refine wp_of (.rt (gridD s A)) (M' := B (s * s) ++ .lst ((List.range s).map fun i => rowD s fun j => qD (A i j)) :: X) ?_ ⟨A, hs', rfl, _, rfl⟩
      simp [seqS, ifS, retS, raiseF, raiseS, consA, nilA, binD, callD, nameD, cD, bindE_v, thenS_v, bindE_x, thenS_x, unD, parS, asgS, tupD, int2F, eq_int, ne_int, intF0, negF, notF, nilS, brD, fnD, addE, subE, ix0, ix1, dropS, asgG, tupG, consG, nameG, nilG, lstD, andD, orD, tstD, ownS, appS, len_tup, len_lst, tup_tup, wipeE, set1, set2, typ_int, typ_tup, typ_non, typ_lst, isF, chainD, asT, truD, len_row, typ_row, t]
      rfl
  obtain ⟨f, M1, h1, A, hs', rfl, X, rfl⟩ := key
  refine ⟨A, hs', fv_rt2 (e0 := [some (.scr ns), some (.loc 0), some (.int Sz), some (.int S), none, none, none, none, none, none, none]) X rfl h1 (lB (s * s)) (set_ok rfl) nl_grid⟩
theorem VE.vg {S : Int} {s : Nat} {A : Mx} (h : ∀ i j, i < s → j < s → VE S (A i j)) : VG s A := ⟨fun r c hr hc => (h r c hr hc).d, fun r c hr hc => (h r c hr hc).b⟩
end K62
namespace K62
open PySem L2 DL
def fct : Nat → Nat
  | 0 => 1
  | k + 1 => fct k * (k + 1)
theorem ords_len : ∀ k, (ords k).length = fct k
  | 0 => rfl
  | k + 1 => by
    show ((ords k).flatMap _).length = fct k * (k + 1)
    rw [List.length_flatMap, ← ords_len k]
    simp [List.map_const', List.sum_replicate_nat]
theorem ords_le {k : Nat} (h : k ≤ 7) : (ords k).length ≤ 5040 := by
  have f : ∀ k, k < 8 → fct k ≤ 5040 := by decide
  rw [ords_len]
  exact f k (by omega)
abbrev oD (o : List Nat) : D := .tup (o.map fun (i : Nat) => D.int (i : Int))
abbrev osD (os : List Nat × Int) : D := .tup [oD os.1, .int os.2]
theorem nl_os (os : List Nat × Int) : nlD 0 (osD os) = true := by
  show (nlDs 0 (os.1.map fun (i : Nat) => D.int (i : Int)) && (true && true)) = true
  rw [nls_map fun _ _ => rfl]
  rfl
abbrev nxO (k : Nat) (os : List Nat × Int) : List (List Nat × Int) := (List.range (k + 1)).map fun nth => (ins k nth os.1, os.2 * sg1 k nth)
theorem ords_succ (k : Nat) : ords (k + 1) = (ords k).flatMap (nxO k) := rfl
section
variable {M : Store}
/-- a list that is gone through: as it stands, or one of the store -/
def Held (M : Store) (d : D) (l : List D) : Prop := d = .lst l ∨ ∃ n, d = .loc n ∧ M[n]? = some (.lst l)
theorem orders_ok {n : Nat} (hn : n ≤ 7) (M : Store) : m__law_orders [.int (n : Int)] M = ok (.lst ((ords n).map osD)) M := by
  obtain ⟨N, hN⟩ : ∃ N : Int, N = (n : Int) := ⟨_, rfl⟩
  rw [← hN]
  have key : Wp (den__law_orders [some (.int N), none, none, none, none, none, none] M) (fun f M' => ∃ d X, f = .rt d ∧ M' = M ++ X ∧ Held M' d ((ords n).map osD) ∧ ∀ j, d = .loc j → M.length ≤ j) := by
    unfold den__law_orders
    refine wp_nx (e' := [some (.int N), some (.lst [.tup [.tup [], .int 1]]), none, none, none, none, none]) (M' := M) (by simp [seqS, ifS, retS, raiseF, raiseS, consA, nilA, binD, callD, nameD, cD, bindE_v, thenS_v, bindE_x, thenS_x, unD, parS, asgS, tupD, int2F, eq_int, ne_int, intF0, negF, notF, nilS, brD, fnD, addE, subE, ix0, ix1, dropS, asgG, tupG, consG, nameG, nilG, lstD, andD, orD, tstD, ownS, appS, len_tup, len_lst, tup_tup, wipeE, set1, set2, typ_int, typ_tup, typ_non, typ_lst, isF, chainD, asT, truD, len_row, typ_row]) ?_
    refine wp_for_nx ((List.range n).map fun (k : Nat) => D.int (k : Int)) (fun k e M' => ∃ (d : D) (X : Store) (a2 a3 a4 a5 a6 : Option D), e = [some (.int N), some d, a2, a3, a4, a5, a6] ∧ M' = M ++ X ∧ Held M' d ((ords k).map osD) ∧ ∀ j, d = .loc j → M.length ≤ j) (it_r1 (by show ok (D.int N) M = _; rw [hN]) (by omega)) (fun k d e M' hd hi => ?_) (fun _ _ _ => trivial) ⟨_, [], _, _, _, _, _, rfl, by simp, .inl rfl, fun j z => nomatch z⟩ (fun e' M' hi => ?_)
    · obtain ⟨d, X, a2, a3, a4, a5, a6, rfl, rfl, hh, hj⟩ := hi
      obtain ⟨hk, rfl⟩ := map_getR hd
      obtain ⟨K, hK⟩ : ∃ N : Int, N = (k : Int) := ⟨_, rfl⟩
      rw [← hK]
      obtain ⟨M1, hM1⟩ : ∃ M1, M1 = M ++ X := ⟨_, rfl⟩
      rw [← hM1] at hh ⊢
      refine ⟨trivial, [some (.int N), some d, some (.int K), a3, a4, a5, a6], M1, by simp [seqS, ifS, retS, raiseF, raiseS, consA, nilA, binD, callD, nameD, cD, bindE_v, thenS_v, bindE_x, thenS_x, unD, parS, asgS, tupD, int2F, eq_int, ne_int, intF0, negF, notF, nilS, brD, fnD, addE, subE, ix0, ix1, dropS, asgG, tupG, consG, nameG, nilG, lstD, andD, orD, tstD, ownS, appS, len_tup, len_lst, tup_tup, wipeE, set1, set2, typ_int, typ_tup, typ_non, typ_lst, isF, chainD, asT, truD, len_row, typ_row], ?_⟩
      refine wp_nx (e' := [some (.int N), some d, some (.int K), some (.loc M1.length), a4, a5, a6]) (M' := M1 ++ [.lst []]) (by simp [seqS, ifS, retS, raiseF, raiseS, consA, nilA, binD, callD, nameD, cD, bindE_v, thenS_v, bindE_x, thenS_x, unD, parS, asgS, tupD, int2F, eq_int, ne_int, intF0, negF, notF, nilS, brD, fnD, addE, subE, ix0, ix1, dropS, asgG, tupG, consG, nameG, nilG, lstD, andD, orD, tstD, ownS, appS, len_tup, len_lst, tup_tup, wipeE, set1, set2, typ_int, typ_tup, typ_non, typ_lst, isF, chainD, asT, truD, len_row, typ_row]) ?_
      have hh2 : Held (M1 ++ [.lst []]) d ((ords k).map osD) := by
        rcases hh with h | ⟨i, h1, h2⟩
        · exact .inl h
        · exact .inr ⟨i, h1, app_get h2⟩
      have hstay : ∀ acc : List D, Held (M1 ++ [.lst acc]) d ((ords k).map osD) := fun acc => by
        rcases hh with h | ⟨i, h1, h2⟩
        · exact .inl h
        · exact .inr ⟨i, h1, app_get h2⟩
      have chks : ∃ chk : Store → Prop, (∀ (a4 a5 a6 : Option D), itD (nameD 1) [some (.int N), some d, some (.int K), some (.loc M1.length), a4, a5, a6] (M1 ++ [.lst []]) = ok ((ords k).map osD, chk) (M1 ++ [.lst []])) ∧ ∀ acc : List D, chk (M1 ++ [.lst acc]) := by
        rcases hh with h | ⟨i, h1, h2⟩
        · subst h
          exact ⟨fun _ => True, fun _ _ _ => it_lst rfl, fun _ => trivial⟩
        · subst h1
          refine ⟨fun M' => M'[i]? = some (.lst ((ords k).map osD)), fun _ _ _ => ?_, fun acc => app_get h2⟩
          show itemsF (.loc i) _ = _
          unfold itemsF
          dsimp only
          rw [app_get h2]
      obtain ⟨chk, c1, c2⟩ := chks
      have lo := ords_le (k := k) (by omega)
      have lo2 := ords_le (k := k + 1) (by omega)
      refine wp_for_nx ((ords k).map osD) (fun t e M' => ∃ (a4 a5 a6 : Option D), e = [some (.int N), some d, some (.int K), some (.loc M1.length), a4, a5, a6] ∧ M' = M1 ++ [.lst ((((ords k).take t).flatMap (nxO k)).map osD)]) (c1 _ _ _) (fun t d' e M' hd hi => ?_) (fun e M' hi => by
        obtain ⟨_, _, _, _, rfl⟩ := hi
        exact c2 _) ⟨_, _, _, rfl, rfl⟩ (fun e' M' hi => ?_)
      · obtain ⟨a4, a5, a6, rfl, rfl⟩ := hi
        rw [List.getElem?_map] at hd
        obtain ⟨os, hos, rfl⟩ := Option.map_eq_some_iff.mp hd
        have ht := get_lt hos
        obtain ⟨o, s⟩ := os
        have ook := ords_ok (List.mem_of_getElem? hos)
        obtain ⟨o1, o2, o3⟩ := ook
        have o1 : o.length = k := o1
        obtain ⟨acc, hacc⟩ : ∃ acc, acc = ((((ords k).take t).flatMap (nxO k)).map osD) := ⟨_, rfl⟩
        have lacc : acc.length + (k + 1) ≤ 5040 := by
          have q : ((ords k).take (t + 1)).flatMap (nxO k) = ((ords k).take t).flatMap (nxO k) ++ nxO k (o, s) := by
            rw [List.take_add_one, hos, List.flatMap_append]
            simp
          have q2 : (((ords k).take (t + 1)).flatMap (nxO k)).length ≤ (ords (k + 1)).length := by
            rw [ords_succ]
            conv => rhs; rw [← List.take_append_drop (t + 1) (ords k), List.flatMap_append, List.length_append]
            omega
          rw [q, List.length_append] at q2
          have q3 : (nxO k (o, s)).length = k + 1 := by simp
          rw [q3] at q2
          rw [hacc, List.length_map]
          omega
        rw [← hacc]
        refine ⟨c2 _, [some (.int N), some d, some (.int K), some (.loc M1.length), some (oD o), some (.int s), a6], M1 ++ [.lst acc], by simp [seqS, ifS, retS, raiseF, raiseS, consA, nilA, binD, callD, nameD, cD, bindE_v, thenS_v, bindE_x, thenS_x, unD, parS, asgS, tupD, int2F, eq_int, ne_int, intF0, negF, notF, nilS, brD, fnD, addE, subE, ix0, ix1, dropS, asgG, tupG, consG, nameG, nilG, lstD, andD, orD, tstD, ownS, appS, len_tup, len_lst, tup_tup, wipeE, set1, set2, typ_int, typ_tup, typ_non, typ_lst, isF, chainD, asT, truD, len_row, typ_row], ?_⟩
        refine wp_for ((List.range (k + 1)).map fun (u : Nat) => D.int (u : Int)) (fun u e M' => ∃ a6, e = [some (.int N), some d, some (.int K), some (.loc M1.length), some (oD o), some (.int s), a6] ∧ M' = M1 ++ [.lst (acc ++ ((List.range u).map fun nth => osD (ins k nth o, s * sg1 k nth)))]) (it_r1 (by
          show ok (D.int (K + 1)) _ = _
          rw [hK]
          rfl) (by omega)) (fun u d' e M' hd hi => ?_) (fun _ _ _ => trivial) ⟨_, rfl, by simp⟩ (fun e' M' hi => ?_)
        · obtain ⟨a6, rfl, rfl⟩ := hi
          obtain ⟨hu, rfl⟩ := map_getR hd
          obtain ⟨U, hU⟩ : ∃ N : Int, N = (u : Int) := ⟨_, rfl⟩
          obtain ⟨ac, hac⟩ : ∃ a, a = acc ++ ((List.range u).map fun nth => osD (ins k nth o, s * sg1 k nth)) := ⟨_, rfl⟩
          have lac : ac.length ≤ 6000 := by
            rw [hac, List.length_append, List.length_map, List.length_range]
            omega
          rw [← hac]
          have olen : (o.map fun (i : Nat) => D.int (i : Int)).length = k := by rw [List.length_map]; exact o1
          have t1 : ∀ M, slpF (oD o) none (some U) none M = ok (oD (o.take u)) M := fun M => by
            rw [hU, slp_take (by omega), ← List.map_take]
          have t2 : ∀ M, slpF (oD o) (some U) none none M = ok (oD (o.drop u)) M := fun M => by
            rw [hU, slp_drop (by omega), ← List.map_drop]
          have t3 : ∀ M, addGF (oD (o.take u)) (.tup [.int K]) M = ok (oD (o.take u ++ [k])) M := fun M => by
            rw [addG_tup (by
              rw [List.length_map, List.length_take, List.length_singleton]
              omega), hK]
            show ok (D.tup _) M = ok (D.tup ((o.take u ++ [k]).map fun (i : Nat) => D.int (i : Int))) M
            rw [List.map_append]
            rfl
          have t4 : ∀ M, addGF (oD (o.take u ++ [k])) (oD (o.drop u)) M = ok (oD (ins k u o)) M := fun M => by
            rw [addG_tup (by
              rw [List.length_map, List.length_map, List.length_append, List.length_take, List.length_drop, List.length_singleton]
              omega), ← List.map_append]
            unfold ins
            rw [List.append_assoc]
            rfl
          have m0 : ∀ M, fmodF (.int (K - U)) (.int 2) M = ok (.int ((K - U) % 2)) M := fun M => fmd (by decide)
          obtain ⟨r, hr⟩ : ∃ r, r = (K - U) % 2 := ⟨_, rfl⟩
          rw [← hr] at m0
          have m1 : ∀ M, mulF (.int r) (.int 2) M = ok (.int (r * 2)) M := fun M => mulB (k := 2) (l := 2) (by unfold Bd; omega) (by unfold Bd; decide) (by decide)
          obtain ⟨r2, hr2⟩ : ∃ q, q = r * 2 := ⟨_, rfl⟩
          rw [← hr2] at m1
          have m2 : ∀ M, mulF (.int s) (.int (1 - r2)) M = ok (.int (s * sg1 k u)) M := fun M => by
            rw [mulB (k := 2) (l := 4) (by
              unfold Bd
              have o2 : s = 1 ∨ s = -1 := o2
              rcases o2 with z | z <;> rw [z] <;> decide) (by unfold Bd; omega) (by decide)]
            unfold sg1
            rw [hr2, hr, hK, hU]
          obtain ⟨sg, hsg⟩ : ∃ z, z = s * sg1 k u := ⟨_, rfl⟩
          have g1 : (M1 ++ [.lst ac])[M1.length]? = some (.lst ac) := get_mid
          obtain ⟨R, hR⟩ : ∃ R, R = oD (ins k u o) := ⟨_, rfl⟩
          rw [← hsg] at m2
          rw [← hR] at t4
          rw [← hU]
          refine ⟨trivial, [some (.int N), some d, some (.int K), some (.loc M1.length), some (oD o), some (.int s), some (.int U)], M1 ++ [.lst ac], by simp [seqS, ifS, retS, raiseF, raiseS, consA, nilA, binD, callD, nameD, cD, bindE_v, thenS_v, bindE_x, thenS_x, unD, parS, asgS, tupD, int2F, eq_int, ne_int, intF0, negF, notF, nilS, brD, fnD, addE, subE, ix0, ix1, dropS, asgG, tupG, consG, nameG, nilG, lstD, andD, orD, tstD, ownS, appS, len_tup, len_lst, tup_tup, wipeE, set1, set2, typ_int, typ_tup, typ_non, typ_lst, isF, chainD, asT, truD, len_row, typ_row], ?_⟩
          refine wp_of _ (app_ok (n := M1.length) (d := .tup [R, .int sg]) (M1 := M1 ++ [.lst ac]) rfl ?_ g1 (by omega)) ⟨_, .inl rfl, _, rfl, ?_⟩
          · generalize oD (o.take u) = P1 at *
            generalize oD (o.drop u) = P2 at *
            generalize oD (o.take u ++ [k]) = P3 at *
            generalize oD o = P0 at *
            generalize M1 ++ [Ob.lst ac] = Mx at *
            have s1 : slpD (nameD 4) (noneO) (someO (nameD 6)) (noneO) [some (.int N), some d, some (.int K), some (.loc M1.length), some P0, some (.int s), some (.int U)] Mx = ok P1 Mx := t1 _
            have s2 : slpD (nameD 4) (someO (nameD 6)) (noneO) (noneO) [some (.int N), some d, some (.int K), some (.loc M1.length), some P0, some (.int s), some (.int U)] Mx = ok P2 Mx := t2 _
            simp [seqS, ifS, retS, raiseF, raiseS, consA, nilA, binD, callD, nameD, cD, bindE_v, thenS_v, bindE_x, thenS_x, unD, parS, asgS, tupD, int2F, eq_int, ne_int, intF0, negF, notF, nilS, brD, fnD, addE, subE, ix0, ix1, dropS, asgG, tupG, consG, nameG, nilG, lstD, andD, orD, tstD, ownS, appS, len_tup, len_lst, tup_tup, wipeE, set1, set2, typ_int, typ_tup, typ_non, typ_lst, isF, chainD, asT, truD, len_row, typ_row, s1, s2, t3, t4, m0, m1, m2]
          · rw [set_mid, hac, List.append_assoc, show D.tup [R, .int sg] = (fun nth => osD (ins k nth o, s * sg1 k nth)) u by
              show D.tup [R, .int sg] = D.tup [oD (ins k u o), .int (s * sg1 k u)]
              rw [hR, hsg], range_snoc]
        · obtain ⟨a6, rfl, rfl⟩ := hi
          refine ⟨_, .inl rfl, _, _, _, rfl, ?_⟩
          rw [List.length_map, List.length_range, List.take_add_one, hos, List.flatMap_append, List.map_append, ← hacc]
          simp
      · obtain ⟨a4, a5, a6, rfl, rfl⟩ := hi
        rw [List.length_map, List.take_length, ← ords_succ]
        refine wp_of (M' := M1 ++ [.lst ((ords (k + 1)).map osD)]) (.nx [some (.int N), some (.loc M1.length), some (.int K), some (.loc M1.length), a4, a5, a6]) (by simp [seqS, ifS, retS, raiseF, raiseS, consA, nilA, binD, callD, nameD, cD, bindE_v, thenS_v, bindE_x, thenS_x, unD, parS, asgS, tupD, int2F, eq_int, ne_int, intF0, negF, notF, nilS, brD, fnD, addE, subE, ix0, ix1, dropS, asgG, tupG, consG, nameG, nilG, lstD, andD, orD, tstD, ownS, appS, len_tup, len_lst, tup_tup, wipeE, set1, set2, typ_int, typ_tup, typ_non, typ_lst, isF, chainD, asT, truD, len_row, typ_row]) ⟨_, .inl rfl, _, X ++ [.lst ((ords (k + 1)).map osD)], _, _, _, _, _, rfl, by rw [hM1, List.append_assoc], .inr ⟨_, rfl, get_mid⟩, fun j z => ?_⟩
        cases z
        rw [hM1, List.length_append]
        omega
    · obtain ⟨d, X, a2, a3, a4, a5, a6, rfl, rfl, hh, hj⟩ := hi
      rw [List.length_map, List.length_range] at hh
      exact wp_of (M' := M ++ X) (.rt d) (by simp [seqS, ifS, retS, raiseF, raiseS, consA, nilA, binD, callD, nameD, cD, bindE_v, thenS_v, bindE_x, thenS_x, unD, parS, asgS, tupD, int2F, eq_int, ne_int, intF0, negF, notF, nilS, brD, fnD, addE, subE, ix0, ix1, dropS, asgG, tupG, consG, nameG, nilG, lstD, andD, orD, tstD, ownS, appS, len_tup, len_lst, tup_tup, wipeE, set1, set2, typ_int, typ_tup, typ_non, typ_lst, isF, chainD, asT, truD, len_row, typ_row]) ⟨d, X, rfl, rfl, hh, hj⟩
  obtain ⟨f, M', h1, d, X, rfl, rfl, hh, hj⟩ := key
  have nl : nlDs 0 ((ords n).map osD) = true := nls_map fun os _ => nl_os os
  refine cut_val (X := X) (d := d) (den := ofBody 7 den__law_orders) (by
    have h2 : den__law_orders (([.int N] : List D).map some ++ List.replicate (7 - ([.int N] : List D).length) none) M = some (.rt d, M ++ X) := h1
    unfold ofBody
    rw [h2]) ?_
  rcases hh with rfl | ⟨i, rfl, h2⟩
  · exact cutD_pd nl
  · have := hj i rfl
    unfold cutD
    dsimp only
    rw [if_neg (by omega), h2]
    dsimp only
    rw [if_pos (nls_mono _ _ nl)]
end
end K62
namespace K62
open PySem L2 DL
theorem den_iff {a : Rat} {K : Nat} (hK : 0 < K) : a.den ∣ K ↔ ∃ z : Int, a * (K : Rat) = z := by
  constructor
  · rintro ⟨k, rfl⟩
    refine ⟨a.num * k, ?_⟩
    have e2 : a = ((a.num : Int) : Rat) / ((a.den : Int) : Rat) := by
      have := Rat.num_divInt_den a
      rw [Rat.divInt_eq_div] at this
      exact this.symm
    have d1 : ((a.den : Int) : Rat) ≠ 0 := fun z => den0 a (by exact_mod_cast z)
    conv => lhs; lhs; rw [e2]
    rw [Rat.intCast_mul, Rat.natCast_mul, Rat.div_def]
    have i1 := Rat.mul_inv_cancel _ d1
    have h3 : ((a.den : Int) : Rat) = (a.den : Rat) := rfl
    have h4 : ((k : Int) : Rat) = (k : Rat) := rfl
    rw [h3] at i1 ⊢
    rw [h4]
    grind
  · rintro ⟨z, hz⟩
    have K0 : ((K : Int) : Rat) ≠ 0 := fun q => by
      have : (K : Int) = 0 := by exact_mod_cast q
      omega
    have h3 : ((K : Int) : Rat) = (K : Rat) := rfl
    have e : a = Rat.divInt z (K : Int) := by
      rw [Rat.divInt_eq_div, ← hz, Rat.div_def, ← h3]
      have i1 := Rat.mul_inv_cancel _ K0
      grind
    rw [e, Rat.den_divInt, if_neg (by omega)]
    exact Nat.div_dvd_of_dvd (by
      have := Int.gcd_dvd_left (a := (K : Int)) (b := z)
      exact Int.natAbs_dvd_natAbs.mpr this)
theorem den_add {a b : Rat} {K : Nat} (hK : 0 < K) (ha : a.den ∣ K) (hb : b.den ∣ K) : (a + b).den ∣ K := by
  obtain ⟨x, hx⟩ := (den_iff hK).mp ha
  obtain ⟨y, hy⟩ := (den_iff hK).mp hb
  refine (den_iff hK).mpr ⟨x + y, ?_⟩
  rw [Rat.intCast_add, ← hx, ← hy]
  grind
theorem den_mul {a b : Rat} {K L : Nat} (ha : a.den ∣ K) (hb : b.den ∣ L) : (a * b).den ∣ K * L := by
  rw [qmul_den]
  exact Nat.mul_dvd_mul (Nat.dvd_trans (Nat.div_dvd_of_dvd (Nat.gcd_dvd_right _ _)) ha) (Nat.dvd_trans (Nat.div_dvd_of_dvd (Nat.gcd_dvd_right _ _)) hb)
theorem dn_bd {k : Nat} {a b : Int} (ha : Bd k a) : Bd k (Rat.divInt a b).num := by
  rw [Rat.num_divInt]
  refine bd_div (bd_le ha ?_)
  rw [Int.natAbs_mul]
  have : b.sign.natAbs ≤ 1 := by
    rw [Int.natAbs_sign]
    split <;> omega
  calc b.sign.natAbs * a.natAbs ≤ 1 * a.natAbs := Nat.mul_le_mul_right _ this
    _ = a.natAbs := Nat.one_mul _
theorem bd_mulN {j k : Nat} {a b : Rat} (ha : Bd j a.num) (hb : Bd k b.num) : Bd (j + k) (a * b).num := by
  have e : a * b = Rat.divInt (a.num * b.num) ((a.den : Int) * (b.den : Int)) := by
    conv => lhs; rw [rat_div a, rat_div b]
    exact Rat.divInt_mul_divInt _ _
  rw [e]
  exact dn_bd (bd_mul ha hb)
theorem bd_addN {j k : Nat} {a b : Rat} (ha : Bd j a.num) (hb : Bd j b.num) (da : Bd k (a.den : Int)) (db : Bd k (b.den : Int)) : Bd (j + k + 1) (a + b).num := by
  have e : a + b = Rat.divInt (a.num * (b.den : Int) + b.num * (a.den : Int)) ((a.den : Int) * (b.den : Int)) := by
    conv => lhs; rw [rat_div a, rat_div b]
    exact Rat.divInt_add_divInt _ _ (den0 a) (den0 b)
  rw [e]
  exact dn_bd (bd_add (bd_mul ha db) (bd_mul hb da))
theorem prodN_cons {f : Nat → Rat} : ∀ n, prodN (n + 1) f = f 0 * prodN n fun i => f (i + 1)
  | 0 => by
    show (1 : Rat) * f 0 = f 0 * 1
    grind
  | n + 1 => by
    show prodN (n + 1) f * f (n + 1) = f 0 * (prodN n (fun i => f (i + 1)) * f (n + 1))
    rw [prodN_cons n]
    grind
theorem prodO_N : ∀ (o : List Nat) {A : Mx}, prodO A o = prodN o.length fun i => A i (o.getD i 0)
  | [], _ => rfl
  | c :: o, A => by
    rw [List.length_cons, prodN_cons]
    show A 0 c * prodO (fun r => A (r + 1)) o = _
    rw [prodO_N o]
    rfl
theorem oD_row {o : List Nat} {n : Nat} (h : o.length = n) : oD o = rowD n fun i => .int ((o.getD i 0 : Nat) : Int) := by
  unfold rowD
  refine congrArg D.tup ?_
  apply List.ext_getElem?
  intro i
  by_cases hi : i < n
  · rw [get_mapR hi, List.getElem?_map, List.getElem?_eq_getElem (by omega), List.getD_eq_getElem?_getD, List.getElem?_eq_getElem (by omega)]
    rfl
  · rw [List.getElem?_eq_none (by simp; omega), List.getElem?_eq_none (by simp; omega)]
theorem den_bd {n : Nat} {a : Rat} (hn : n ≤ 7) (h : a.den ∣ 420 ^ n) : Bd 63 (a.den : Int) := by
  have h1 := Nat.le_of_dvd (Nat.pow_pos (by decide)) h
  have h2 : 420 ^ n ≤ 420 ^ 7 := Nat.pow_le_pow_right (by decide) hn
  exact Nat.lt_of_le_of_lt h1 (Nat.lt_of_le_of_lt h2 (by decide))
end K62
namespace K62
open PySem L2 DL
theorem zip_rows {n : Nat} {da db : DenE} {e : DL.Env} {f1 f2 : Nat → D} {M : Store} (ha : da e M = ok (rowD n f1) M) (hb : db e M = ok (rowD n f2) M) : zipD (consA da (consA db nilA)) e M = ok ((List.range n).map fun i => .tup [f1 i, f2 i], fun _ => True) M := by
  have e1 : zipD (consA da (consA db nilA)) e M = ok (zipI ((List.range n).map f1) ((List.range n).map f2), fun _ => True) M := by
    unfold zipD
    simp only [consA, nilA, ha, hb, bindE_v]
    rfl
  rw [e1]
  refine congrArg (fun l => ok (l, fun _ => True) M) ?_
  have : ∀ (l : List Nat), zipI (l.map f1) (l.map f2) = l.map fun i => .tup [f1 i, f2 i] := fun l => by
    induction l with
    | nil => rfl
    | cons a r ih =>
      show D.tup [f1 a, f2 a] :: zipI (r.map f1) (r.map f2) = _
      rw [ih]
      rfl
  exact this _
theorem law_minor_ok {n : Nat} {A : Mx} (v : VG n A) (hn : n ≤ 7) (M : Store) : m__law_minor [gridD n A] M = ok (qD (det n A)) M := by
  obtain ⟨Q, hQ⟩ : ∃ Q : Nat → D, Q = fun i => rowD n fun j => qD (A i j) := ⟨_, rfl⟩
  have hR : gridD n A = rowD n Q := by rw [hQ]
  rw [hR]
  obtain ⟨N, hN⟩ : ∃ N : Int, N = (n : Int) := ⟨_, rfl⟩
  have ln : ∀ M, lenF [rowD n Q] M = ok (.int N) M := fun M => by rw [hN]; exact len_row
  have od : ∀ M, m__law_orders [.int N] M = ok (.lst ((ords n).map osD)) M := fun M => by rw [hN]; exact orders_ok hn M
  obtain ⟨R, hRR⟩ : ∃ R, R = rowD n Q := ⟨_, rfl⟩
  rw [← hRR] at ln ⊢
  let g : List Nat × Int → Rat := fun os => (os.2 : Rat) * prodO A os.1
  have K0 : 0 < 420 ^ n := Nat.pow_pos (by decide)
  have key : Wp (den__law_minor [some R, none, none, none, none, none, none] M) (fun f M' => f = .rt (qD (det n A)) ∧ ∃ X, M' = M ++ X) := by
    unfold den__law_minor
    refine wp_nx (e' := [some R, some (.tup [.int 0, .int 1]), none, none, none, none, none]) (M' := M) (by simp [seqS, ifS, retS, raiseF, raiseS, consA, nilA, binD, callD, nameD, cD, bindE_v, thenS_v, bindE_x, thenS_x, unD, parS, asgS, tupD, int2F, eq_int, ne_int, intF0, negF, notF, nilS, brD, fnD, addE, subE, ix0, ix1, dropS, asgG, tupG, consG, nameG, nilG, lstD, andD, orD, tstD, ownS, appS, len_tup, len_lst, tup_tup, wipeE, set1, set2, typ_int, typ_tup, typ_non, typ_lst, isF, chainD, asT, truD, len_row, typ_row]) ?_
    refine wp_for_nx ((ords n).map osD) (fun t e M' => ∃ (F : Rat) (a2 a3 a4 a5 a6 : Option D), e = [some R, some (qD F), a2, a3, a4, a5, a6] ∧ M' = M ∧ F = sumL (((ords n).take t).map g) ∧ F.den ∣ 420 ^ n ∧ Bd (1000 + 64 * t) F.num) (it_lst (by simp [seqS, ifS, retS, raiseF, raiseS, consA, nilA, binD, callD, nameD, cD, bindE_v, thenS_v, bindE_x, thenS_x, unD, parS, asgS, tupD, int2F, eq_int, ne_int, intF0, negF, notF, nilS, brD, fnD, addE, subE, ix0, ix1, dropS, asgG, tupG, consG, nameG, nilG, lstD, andD, orD, tstD, ownS, appS, len_tup, len_lst, tup_tup, wipeE, set1, set2, typ_int, typ_tup, typ_non, typ_lst, isF, chainD, asT, truD, len_row, typ_row, ln, od])) (fun t d e M' hd hi => ?_) (fun _ _ _ => trivial) ⟨0, _, _, _, _, _, rfl, rfl, rfl, Nat.one_dvd _, by
      show (0 : Int).natAbs < _
      exact Nat.two_pow_pos _⟩ (fun e' M' hi => ?_)
    · obtain ⟨F, a2, a3, a4, a5, a6, rfl, rfl, hF, dF, bF⟩ := hi
      rw [List.getElem?_map] at hd
      obtain ⟨os, hos, rfl⟩ := Option.map_eq_some_iff.mp hd
      have ht := get_lt hos
      obtain ⟨o, s⟩ := os
      obtain ⟨o1, o2, o3⟩ := ords_ok (List.mem_of_getElem? hos)
      have o1 : o.length = n := o1
      have o2 : s = 1 ∨ s = -1 := o2
      have lt : t < 5040 := Nat.lt_of_lt_of_le ht (ords_le hn)
      obtain ⟨FD, hFD⟩ : ∃ x, x = qD F := ⟨_, rfl⟩
      obtain ⟨OD, hOD⟩ : ∃ x, x = oD o := ⟨_, rfl⟩
      rw [← hFD]
      show True ∧ ∃ e1 M1, tupG 2 (consG (nameG 2) (consG (nameG 3) nilG)) (.tup [oD o, .int s]) _ _ = _ ∧ _
      rw [← hOD]
      refine ⟨trivial, [some R, some FD, some OD, some (.int s), a4, a5, a6], M', by simp [seqS, ifS, retS, raiseF, raiseS, consA, nilA, binD, callD, nameD, cD, bindE_v, thenS_v, bindE_x, thenS_x, unD, parS, asgS, tupD, int2F, eq_int, ne_int, intF0, negF, notF, nilS, brD, fnD, addE, subE, ix0, ix1, dropS, asgG, tupG, consG, nameG, nilG, lstD, andD, orD, tstD, ownS, appS, len_tup, len_lst, tup_tup, wipeE, set1, set2, typ_int, typ_tup, typ_non, typ_lst, isF, chainD, asT, truD, len_row, typ_row], ?_⟩
      refine wp_nx (e' := [some R, some FD, some OD, some (.int s), some (qD (s : Rat)), a5, a6]) (M' := M') (by
        rw [qInt]
        simp [seqS, ifS, retS, raiseF, raiseS, consA, nilA, binD, callD, nameD, cD, bindE_v, thenS_v, bindE_x, thenS_x, unD, parS, asgS, tupD, int2F, eq_int, ne_int, intF0, negF, notF, nilS, brD, fnD, addE, subE, ix0, ix1, dropS, asgG, tupG, consG, nameG, nilG, lstD, andD, orD, tstD, ownS, appS, len_tup, len_lst, tup_tup, wipeE, set1, set2, typ_int, typ_tup, typ_non, typ_lst, isF, chainD, asT, truD, len_row, typ_row]) ?_
      have oc : ∀ r, r < n → o.getD r 0 < n := fun r hr => by
        rw [List.getD_eq_getElem?_getD, List.getElem?_eq_getElem (by omega)]
        exact o3 _ (List.getElem_mem _)
      let P : Nat → Rat := fun r => (s : Rat) * prodN r fun i => A i (o.getD i 0)
      have zr := zip_rows (n := n) (f1 := Q) (f2 := fun i => .int ((o.getD i 0 : Nat) : Int)) (da := nameD 0) (db := nameD 2) (e := [some R, some FD, some OD, some (.int s), some (qD (s : Rat)), a5, a6]) (M := M') (by rw [← hRR]; rfl) (by rw [← oD_row o1, ← hOD]; rfl)
      refine wp_for_nx _ (fun r e M'' => ∃ a5 a6, e = [some R, some FD, some OD, some (.int s), some (qD (P r)), a5, a6] ∧ M'' = M' ∧ (P r).den ∣ 420 ^ r ∧ Bd (1 + 100 * r) (P r).num) zr (fun r d e M'' hd hi => ?_) (fun _ _ _ => trivial) ⟨_, _, by
          show _ = [some R, some FD, some OD, some (.int s), some (qD ((s : Rat) * 1)), a5, a6]
          rw [Rat.mul_one], rfl, ?_, ?_⟩ (fun e' M'' hi => ?_)
      · obtain ⟨a5, a6, rfl, rfl, dP, bP⟩ := hi
        obtain ⟨hr, rfl⟩ := map_getR hd
        have hc := oc r hr
        have dA := v.d r _ hr hc
        have bA := v.b r _ hr hc
        obtain ⟨C, hC⟩ : ∃ C : Int, C = ((o.getD r 0 : Nat) : Int) := ⟨_, rfl⟩
        have ix : ∀ M, ixF (Q r) (.int C) M = ok (qD (A r (o.getD r 0))) M := fun M => by
          rw [hQ]
          exact ix_rowI hC hc
        have tm := times_ok bP bA ((den_bd (by omega) dP).mono (by decide)) (show Bd 4000 ((A r (o.getD r 0)).den : Int) from Nat.lt_of_le_of_lt (Nat.le_of_dvd (by decide) dA) (by decide)) (by omega)
        have hP : P r * A r (o.getD r 0) = P (r + 1) := by
          show (s : Rat) * prodN r (fun i => A i (o.getD i 0)) * A r (o.getD r 0) = (s : Rat) * (prodN r (fun i => A i (o.getD i 0)) * A r (o.getD r 0))
          grind
        have dm := den_mul dP dA
        have bm := bd_mulN bP bA
        rw [hP] at tm dm bm
        rw [← Nat.pow_succ] at dm
        rw [← hC]
        obtain ⟨P1, hP1⟩ : ∃ x, x = qD (P r) := ⟨_, rfl⟩
        obtain ⟨P2, hP2⟩ : ∃ x, x = qD (P (r + 1)) := ⟨_, rfl⟩
        obtain ⟨AA, hAA⟩ : ∃ x, x = qD (A r (o.getD r 0)) := ⟨_, rfl⟩
        rw [← hP1, ← hP2, ← hAA] at tm
        rw [← hAA] at ix
        rw [← hP1]
        refine ⟨trivial, [some R, some FD, some OD, some (.int s), some P1, some (Q r), some (.int C)], M'', by simp [seqS, ifS, retS, raiseF, raiseS, consA, nilA, binD, callD, nameD, cD, bindE_v, thenS_v, bindE_x, thenS_x, unD, parS, asgS, tupD, int2F, eq_int, ne_int, intF0, negF, notF, nilS, brD, fnD, addE, subE, ix0, ix1, dropS, asgG, tupG, consG, nameG, nilG, lstD, andD, orD, tstD, ownS, appS, len_tup, len_lst, tup_tup, wipeE, set1, set2, typ_int, typ_tup, typ_non, typ_lst, isF, chainD, asT, truD, len_row, typ_row], ?_⟩
        refine wp_of (M' := M'') (.nx [some R, some FD, some OD, some (.int s), some P2, some (Q r), some (.int C)]) (by simp [seqS, ifS, retS, raiseF, raiseS, consA, nilA, binD, callD, nameD, cD, bindE_v, thenS_v, bindE_x, thenS_x, unD, parS, asgS, tupD, int2F, eq_int, ne_int, intF0, negF, notF, nilS, brD, fnD, addE, subE, ix0, ix1, dropS, asgG, tupG, consG, nameG, nilG, lstD, andD, orD, tstD, ownS, appS, len_tup, len_lst, tup_tup, wipeE, set1, set2, typ_int, typ_tup, typ_non, typ_lst, isF, chainD, asT, truD, len_row, typ_row, ix, tm]) ⟨_, .inl rfl, _, _, by rw [hP2], rfl, dm, bm.mono (by omega)⟩
      · show ((s : Rat) * 1).den ∣ 420 ^ 0
        rw [Rat.mul_one]
        exact Nat.one_dvd _
      · show Bd (1 + 100 * 0) ((s : Rat) * 1).num
        rw [Rat.mul_one]
        show s.natAbs < 2 ^ 1
        rcases o2 with z | z <;> rw [z] <;> decide
      · obtain ⟨a5, a6, rfl, rfl, dP, bP⟩ := hi
        rw [List.length_map, List.length_range] at dP bP
        (rw [List.length_map, List.length_range])
        have pe : P n = g (o, s) := by
          show (s : Rat) * prodN n (fun i => A i (o.getD i 0)) = (s : Rat) * prodO A o
          rw [prodO_N, o1]
        have pl := plus_ok bF bP ((den_bd hn dF).mono (by decide)) ((den_bd hn dP).mono (by decide)) (by omega) (by omega)
        have dp := den_add K0 dF dP
        have bp := bd_addN bF (bP.mono (show 1 + 100 * n ≤ 1000 + 64 * t by omega)) (den_bd hn dF) (den_bd hn dP)
        have hs : F + P n = sumL (((ords n).take (t + 1)).map g) := by
          rw [List.take_add_one, hos, List.map_append, sumL_app, ← hF, pe]
          show F + g (o, s) = F + (g (o, s) + 0)
          grind
        rw [← hFD] at pl
        obtain ⟨P1, hP1⟩ : ∃ x, x = qD (P n) := ⟨_, rfl⟩
        obtain ⟨S, hS⟩ : ∃ x, x = F + P n := ⟨_, rfl⟩
        rw [← hS] at pl hs dp bp
        rw [← hP1] at pl ⊢
        obtain ⟨SD, hSD⟩ : ∃ x, x = qD S := ⟨_, rfl⟩
        rw [← hSD] at pl
        refine wp_of (M' := M'') (.nx [some R, some SD, some OD, some (.int s), some P1, a5, a6]) (by simp [seqS, ifS, retS, raiseF, raiseS, consA, nilA, binD, callD, nameD, cD, bindE_v, thenS_v, bindE_x, thenS_x, unD, parS, asgS, tupD, int2F, eq_int, ne_int, intF0, negF, notF, nilS, brD, fnD, addE, subE, ix0, ix1, dropS, asgG, tupG, consG, nameG, nilG, lstD, andD, orD, tstD, ownS, appS, len_tup, len_lst, tup_tup, wipeE, set1, set2, typ_int, typ_tup, typ_non, typ_lst, isF, chainD, asT, truD, len_row, typ_row, pl]) ⟨_, .inl rfl, S, _, _, _, _, _, by rw [hSD], rfl, hs, dp, bp.mono (by omega)⟩
    · obtain ⟨F, a2, a3, a4, a5, a6, rfl, rfl, hF, dF, bF⟩ := hi
      rw [List.length_map, List.take_length, ords_sum] at hF
      rw [hF]
      exact wp_of (M' := M') (.rt (qD (det n A))) (by simp [seqS, ifS, retS, raiseF, raiseS, consA, nilA, binD, callD, nameD, cD, bindE_v, thenS_v, bindE_x, thenS_x, unD, parS, asgS, tupD, int2F, eq_int, ne_int, intF0, negF, notF, nilS, brD, fnD, addE, subE, ix0, ix1, dropS, asgG, tupG, consG, nameG, nilG, lstD, andD, orD, tstD, ownS, appS, len_tup, len_lst, tup_tup, wipeE, set1, set2, typ_int, typ_tup, typ_non, typ_lst, isF, chainD, asT, truD, len_row, typ_row]) ⟨rfl, [], by simp⟩
  obtain ⟨f, M', h1, rfl, X, rfl⟩ := key
  exact fv_rt (e0 := [some R, none, none, none, none, none, none]) X rfl h1 rfl
end K62
namespace K62
open PySem L2 DL
theorem turned_ok {n : Nat} {A : Mx} (hn : n ≤ 11) (M : Store) : m__law_turned [gridD n A] M = ok (gridD n fun r c => A c r) M := by
  obtain ⟨Q, hQ⟩ : ∃ Q : Nat → D, Q = fun i => rowD n fun j => qD (A i j) := ⟨_, rfl⟩
  have hR : gridD n A = rowD n Q := by rw [hQ]
  rw [hR]
  obtain ⟨N, hN⟩ : ∃ N : Int, N = (n : Int) := ⟨_, rfl⟩
  have ln : ∀ M, lenF [rowD n Q] M = ok (.int N) M := fun M => by rw [hN]; exact len_row
  have it : ∀ (e : DL.Env) M, e[0]? = some (some (rowD n Q)) → itD (nameD 0) e M = ok ((List.range n).map Q, fun _ => True) M := fun e M he => it_row (by
    unfold nameD
    rw [he])
  have ix : ∀ k i M, i < n → ixF (Q k) (.int (i : Int)) M = ok (qD (A k i)) M := fun k i M hi => by
    rw [hQ]
    exact ix_row hi
  obtain ⟨R, hRR⟩ : ∃ R, R = rowD n Q := ⟨_, rfl⟩
  rw [← hRR] at ln it ⊢
  refine fv_wp (e0 := [some R, none, none, none]) rfl ?_ nl_grid
  unfold den__law_turned
  refine wp_nx (e' := [some R, some (.loc M.length), none, none]) (M' := M ++ [.lst []]) (by simp [seqS, ifS, retS, raiseF, raiseS, consA, nilA, binD, callD, nameD, cD, bindE_v, thenS_v, bindE_x, thenS_x, unD, parS, asgS, tupD, int2F, eq_int, ne_int, intF0, negF, notF, nilS, brD, fnD, addE, subE, ix0, ix1, dropS, asgG, tupG, consG, nameG, nilG, lstD, andD, orD, tstD, ownS, appS, len_tup, len_lst, tup_tup, wipeE, set1, set2, typ_int, typ_tup, typ_non, typ_lst, isF, chainD, asT, truD, len_row, typ_row]) ?_
  refine wp_for_nx ((List.range n).map fun (i : Nat) => D.int (i : Int)) (fun i e M' => ∃ a2 a3, e = [some R, some (.loc M.length), a2, a3] ∧ M' = M ++ [.lst ((List.range i).map fun r => rowD n fun c => qD (A c r))]) (it_r1 (by simp [seqS, ifS, retS, raiseF, raiseS, consA, nilA, binD, callD, nameD, cD, bindE_v, thenS_v, bindE_x, thenS_x, unD, parS, asgS, tupD, int2F, eq_int, ne_int, intF0, negF, notF, nilS, brD, fnD, addE, subE, ix0, ix1, dropS, asgG, tupG, consG, nameG, nilG, lstD, andD, orD, tstD, ownS, appS, len_tup, len_lst, tup_tup, wipeE, set1, set2, typ_int, typ_tup, typ_non, typ_lst, isF, chainD, asT, truD, len_row, typ_row, ln, hN]) (by omega)) (fun i d e M' hd hi => ?_) (fun _ _ _ => trivial) ⟨_, _, rfl, rfl⟩ (fun e' M' hi => ?_)
  · obtain ⟨a2, a3, rfl, rfl⟩ := hi
    obtain ⟨hi, rfl⟩ := map_getR hd
    have ixi := fun k M => ix k i M hi
    obtain ⟨I, hI⟩ : ∃ I : Int, I = (i : Int) := ⟨_, rfl⟩
    rw [← hI] at ixi ⊢
    obtain ⟨M1, hM1⟩ : ∃ x, x = (M ++ [Ob.lst ((List.range i).map fun r => rowD n fun c => qD (A c r))]) := ⟨_, rfl⟩
    have g1 : M1[M.length]? = some (.lst ((List.range i).map fun r => rowD n fun c => qD (A c r))) := by
      rw [hM1]
      exact get_mid
    have tc := tupcompR (n := n) (f := fun k => qD (A k i)) (g := Q) (i := 3) (e := [some R, some (.loc M.length), some (.int I), a3]) (de := binD ixF (nameD 3) (nameD 2)) (di := itD (nameD 0)) (fun M => it _ _ rfl) (by omega) (fun k hk M => by
      have q := ixi k
      generalize Q k = q0 at *
      generalize qD (A k i) = q1 at *
      simp [seqS, ifS, retS, raiseF, raiseS, consA, nilA, binD, callD, nameD, cD, bindE_v, thenS_v, bindE_x, thenS_x, unD, parS, asgS, tupD, int2F, eq_int, ne_int, intF0, negF, notF, nilS, brD, fnD, addE, subE, ix0, ix1, dropS, asgG, tupG, consG, nameG, nilG, lstD, andD, orD, tstD, ownS, appS, len_tup, len_lst, tup_tup, wipeE, set1, set2, typ_int, typ_tup, typ_non, typ_lst, isF, chainD, asT, truD, len_row, typ_row, q]) (fun _ _ => rfl) M1
    rw [← hM1]
    refine ⟨trivial, [some R, some (.loc M.length), some (.int I), a3], M1, by simp [seqS, ifS, retS, raiseF, raiseS, consA, nilA, binD, callD, nameD, cD, bindE_v, thenS_v, bindE_x, thenS_x, unD, parS, asgS, tupD, int2F, eq_int, ne_int, intF0, negF, notF, nilS, brD, fnD, addE, subE, ix0, ix1, dropS, asgG, tupG, consG, nameG, nilG, lstD, andD, orD, tstD, ownS, appS, len_tup, len_lst, tup_tup, wipeE, set1, set2, typ_int, typ_tup, typ_non, typ_lst, isF, chainD, asT, truD, len_row, typ_row], ?_⟩
    refine wp_of _ (app_ok (n := M.length) rfl tc g1 (by simp; omega)) ⟨_, .inl rfl, _, _, rfl, ?_⟩
    rw [hM1, set_mid, show (rowD n fun k => qD (A k i)) = (fun r => rowD n fun c => qD (A c r)) i from rfl, range_snoc]
  · obtain ⟨a2, a3, rfl, rfl⟩ := hi
    (rw [List.length_map, List.length_range])
    have t := tup_loc (M := M ++ [.lst ((List.range n).map fun r => rowD n fun c => qD (A c r))]) (n := M.length) get_mid (by simp; omega)
    refine wp_of (.rt (gridD n fun r c => A c r)) (M' := M ++ [.lst ((List.range n).map fun r => rowD n fun c => qD (A c r))]) ?_ ⟨rfl, _, rfl⟩
    simp [seqS, ifS, retS, raiseF, raiseS, consA, nilA, binD, callD, nameD, cD, bindE_v, thenS_v, bindE_x, thenS_x, unD, parS, asgS, tupD, int2F, eq_int, ne_int, intF0, negF, notF, nilS, brD, fnD, addE, subE, ix0, ix1, dropS, asgG, tupG, consG, nameG, nilG, lstD, andD, orD, tstD, ownS, appS, len_tup, len_lst, tup_tup, wipeE, set1, set2, typ_int, typ_tup, typ_non, typ_lst, isF, chainD, asT, truD, len_row, typ_row, t]
    rfl
theorem refused_ok {x : D} (h : ∀ M, m_need_rows [x, .int 0, .int 7] M = some (.exc "BadRows" [], M)) (M : Store) : m__law_is_refused [x] M = ok (.bl true) M := by
  have h1 : ∀ M, m_minor [x] M = some (.exc "BadRows" [], M) := fun M => fv_ex (e0 := [some x]) (e' := [some x]) [] rfl (by
    rw [List.append_nil]
    simp [seqS, ifS, retS, raiseF, raiseS, consA, nilA, binD, callD, nameD, cD, bindE_v, thenS_v, bindE_x, thenS_x, unD, parS, asgS, tupD, int2F, eq_int, ne_int, intF0, negF, notF, nilS, brD, fnD, addE, subE, ix0, ix1, dropS, asgG, tupG, consG, nameG, nilG, lstD, andD, orD, tstD, ownS, appS, len_tup, len_lst, tup_tup, wipeE, set1, set2, typ_int, typ_tup, typ_non, typ_lst, isF, chainD, asT, truD, len_row, typ_row, den_minor, h]) rfl
  refine fv_rt0 (e0 := [some x, none, none]) rfl ?_ rfl
  unfold den__law_is_refused
  rw [seq_nx (e' := [some x, some .non, none]) (M' := M) (by simp [seqS, ifS, retS, raiseF, raiseS, consA, nilA, binD, callD, nameD, cD, bindE_v, thenS_v, bindE_x, thenS_x, unD, parS, asgS, tupD, int2F, eq_int, ne_int, intF0, negF, notF, nilS, brD, fnD, addE, subE, ix0, ix1, dropS, asgG, tupG, consG, nameG, nilG, lstD, andD, orD, tstD, ownS, appS, len_tup, len_lst, tup_tup, wipeE, set1, set2, typ_int, typ_tup, typ_non, typ_lst, isF, chainD, asT, truD, len_row, typ_row])]
  have t : tryS 2 catT_HollowError (dropS (fnD m_minor 1 [] (consA (nameD 0) (nilA)))) (asgS 1 (nameD 2)) [some x, some .non, none] M = some (.nx [some x, some (.exc "BadRows" []), none], M) := by
    have : dropS (fnD m_minor 1 [] (consA (nameD 0) (nilA))) [some x, some .non, none] M = some (.ex "BadRows" [] [some x, some .non, none], M) := by simp [seqS, ifS, retS, raiseF, raiseS, consA, nilA, binD, callD, nameD, cD, bindE_v, thenS_v, bindE_x, thenS_x, unD, parS, asgS, tupD, int2F, eq_int, ne_int, intF0, negF, notF, nilS, brD, fnD, addE, subE, ix0, ix1, dropS, asgG, tupG, consG, nameG, nilG, lstD, andD, orD, tstD, ownS, appS, len_tup, len_lst, tup_tup, wipeE, set1, set2, typ_int, typ_tup, typ_non, typ_lst, isF, chainD, asT, truD, len_row, typ_row, h1]
    unfold tryS
    rw [this]
    rfl
  rw [seq_nx t]
  have i1 : ∀ M, isiB subT [.exc "BadRows" [], .cls "BadRows"] M = ok (.bl true) M := fun M => rfl
  have i2 : ∀ M, isiB subT [.exc "BadRows" [], .tup [.cls "BadField", .cls "BadFraction", .cls "BadTable"]] M = ok (.bl false) M := fun M => rfl
  simp [seqS, ifS, retS, raiseF, raiseS, consA, nilA, binD, callD, nameD, cD, bindE_v, thenS_v, bindE_x, thenS_x, unD, parS, asgS, tupD, int2F, eq_int, ne_int, intF0, negF, notF, nilS, brD, fnD, addE, subE, ix0, ix1, dropS, asgG, tupG, consG, nameG, nilG, lstD, andD, orD, tstD, ownS, appS, len_tup, len_lst, tup_tup, wipeE, set1, set2, typ_int, typ_tup, typ_non, typ_lst, isF, chainD, asT, truD, len_row, typ_row, i1, i2]
theorem need_no {x : D} {M : Store} (t : ∃ b, orD (binD (isF true) (callD (typF) (consA (nameD 0) (nilA))) (cD (.ty "tuple"))) (unD notF (chainD leF leF (nameD 1) (callD (lenF) (consA (nameD 0) (nilA))) (nameD 2))) [some x, some (.int 0), some (.int 7), none] M = ok (.bl b) M ∧ b = true) : m_need_rows [x, .int 0, .int 7] M = some (.exc "BadRows" [], M) := by
  obtain ⟨b, h1, rfl⟩ := t
  refine fv_ex (e0 := [some x, some (.int 0), some (.int 7), none]) (e' := [some x, some (.int 0), some (.int 7), none]) [] rfl ?_ rfl
  unfold den_need_rows
  refine seq_ex ?_
  rw [if_t h1, List.append_nil]
  rfl
/-- rows one of which is none -/
theorem need_bad {ds : List D} {b : D → Bool} (hl : ds.length ≤ 7) (h : ∀ d ∈ ds, ∀ M, m__is_row [d, .int (ds.length : Int)] M = ok (.bl (b d)) M) (hb : ∃ d ∈ ds, b d = false) (M : Store) : m_need_rows [.tup ds, .int 0, .int 7] M = some (.exc "BadRows" [], M) := by
  obtain ⟨N, hN⟩ : ∃ N : Int, N = (ds.length : Int) := ⟨_, rfl⟩
  have ln : ∀ M, lenF [.tup ds] M = ok (.int N) M := fun M => by rw [hN]; rfl
  have it : ∀ (e : DL.Env) M, e[0]? = some (some (.tup ds)) → itD (nameD 0) e M = ok (ds, fun _ => True) M := fun e M he => it_tup (by
    unfold nameD
    rw [he])
  rw [← hN] at h
  obtain ⟨R, hR⟩ : ∃ R, R = D.tup ds := ⟨_, rfl⟩
  have ty : ∀ M, typF [R] M = ok (.ty "tuple") M := fun M => by rw [hR]; rfl
  rw [← hR] at ln it ⊢
  have key : Wp (den_need_rows [some R, some (.int 0), some (.int 7), none] M) (fun f M' => (∃ e', f = .ex "BadRows" [] e') ∧ M' = M) := by
    unfold den_need_rows
    have ch := chain_le (da := nameD 1) (db := callD lenF (consA (nameD 0) nilA)) (dc := nameD 2) (e := [some R, some (.int 0), some (.int 7), none]) (M := M) (i := 0) (j := N) (k := 7) (by simp [seqS, ifS, retS, raiseF, raiseS, consA, nilA, binD, callD, nameD, cD, bindE_v, thenS_v, bindE_x, thenS_x, unD, parS, asgS, tupD, int2F, eq_int, ne_int, intF0, negF, notF, nilS, brD, fnD, addE, subE, ix0, ix1, dropS, asgG, tupG, consG, nameG, nilG, lstD, andD, orD, tstD, ownS, appS, len_tup, len_lst, tup_tup, wipeE, set1, set2, typ_int, typ_tup, typ_non, typ_lst, isF, chainD, asT, truD, len_row, typ_row]) (by simp [seqS, ifS, retS, raiseF, raiseS, consA, nilA, binD, callD, nameD, cD, bindE_v, thenS_v, bindE_x, thenS_x, unD, parS, asgS, tupD, int2F, eq_int, ne_int, intF0, negF, notF, nilS, brD, fnD, addE, subE, ix0, ix1, dropS, asgG, tupG, consG, nameG, nilG, lstD, andD, orD, tstD, ownS, appS, len_tup, len_lst, tup_tup, wipeE, set1, set2, typ_int, typ_tup, typ_non, typ_lst, isF, chainD, asT, truD, len_row, typ_row, ln]) (by simp [seqS, ifS, retS, raiseF, raiseS, consA, nilA, binD, callD, nameD, cD, bindE_v, thenS_v, bindE_x, thenS_x, unD, parS, asgS, tupD, int2F, eq_int, ne_int, intF0, negF, notF, nilS, brD, fnD, addE, subE, ix0, ix1, dropS, asgG, tupG, consG, nameG, nilG, lstD, andD, orD, tstD, ownS, appS, len_tup, len_lst, tup_tup, wipeE, set1, set2, typ_int, typ_tup, typ_non, typ_lst, isF, chainD, asT, truD, len_row, typ_row])
    rw [decide_eq_true (by omega : (0 : Int) ≤ N), decide_eq_true (by omega : N ≤ 7)] at ch
    refine wp_nx (e' := [some R, some (.int 0), some (.int 7), none]) (M' := M) ((if_f (or_v (a := false) (b := false) (by simp [seqS, ifS, retS, raiseF, raiseS, consA, nilA, binD, callD, nameD, cD, bindE_v, thenS_v, bindE_x, thenS_x, unD, parS, asgS, tupD, int2F, eq_int, ne_int, intF0, negF, notF, nilS, brD, fnD, addE, subE, ix0, ix1, dropS, asgG, tupG, consG, nameG, nilG, lstD, andD, orD, tstD, ownS, appS, len_tup, len_lst, tup_tup, wipeE, set1, set2, typ_int, typ_tup, typ_non, typ_lst, isF, chainD, asT, truD, len_row, typ_row, ty]) fun _ => not_v ch)).trans rfl) ?_
    refine wp_forX ds (fun j e M' => M' = M ∧ (∃ a, e = [some R, some (.int 0), some (.int 7), a]) ∧ ∀ i, i < j → ∀ d, ds[i]? = some d → b d = true) (it _ _ rfl) (fun j d e M' hd hi => ?_) (fun _ _ _ => trivial) ⟨rfl, ⟨_, rfl⟩, fun i hi => absurd hi (Nat.not_lt_zero i)⟩ (fun e' M' hi => ?_)
    · obtain ⟨rfl, ⟨a, rfl⟩, hb'⟩ := hi
      have q := h d (List.mem_of_getElem? hd)
      refine ⟨trivial, [some R, some (.int 0), some (.int 7), some d], M', by simp [seqS, ifS, retS, raiseF, raiseS, consA, nilA, binD, callD, nameD, cD, bindE_v, thenS_v, bindE_x, thenS_x, unD, parS, asgS, tupD, int2F, eq_int, ne_int, intF0, negF, notF, nilS, brD, fnD, addE, subE, ix0, ix1, dropS, asgG, tupG, consG, nameG, nilG, lstD, andD, orD, tstD, ownS, appS, len_tup, len_lst, tup_tup, wipeE, set1, set2, typ_int, typ_tup, typ_non, typ_lst, isF, chainD, asT, truD, len_row, typ_row], ?_⟩
      cases hbd : b d with
      | true =>
        rw [hbd] at q
        refine wp_of (M' := M') (.nx [some R, some (.int 0), some (.int 7), some d]) (by simp [seqS, ifS, retS, raiseF, raiseS, consA, nilA, binD, callD, nameD, cD, bindE_v, thenS_v, bindE_x, thenS_x, unD, parS, asgS, tupD, int2F, eq_int, ne_int, intF0, negF, notF, nilS, brD, fnD, addE, subE, ix0, ix1, dropS, asgG, tupG, consG, nameG, nilG, lstD, andD, orD, tstD, ownS, appS, len_tup, len_lst, tup_tup, wipeE, set1, set2, typ_int, typ_tup, typ_non, typ_lst, isF, chainD, asT, truD, len_row, typ_row, ln, q]) (.inl ⟨_, .inl rfl, rfl, ⟨_, rfl⟩, fun i hi d' hd' => ?_⟩)
        by_cases c : i = j
        · subst c
          rw [hd] at hd'
          cases hd'
          exact hbd
        · exact hb' i (by omega) d' hd'
      | false =>
        rw [hbd] at q
        exact wp_of (M' := M') (.ex "BadRows" [] [some R, some (.int 0), some (.int 7), some d]) (by simp [seqS, ifS, retS, raiseF, raiseS, consA, nilA, binD, callD, nameD, cD, bindE_v, thenS_v, bindE_x, thenS_x, unD, parS, asgS, tupD, int2F, eq_int, ne_int, intF0, negF, notF, nilS, brD, fnD, addE, subE, ix0, ix1, dropS, asgG, tupG, consG, nameG, nilG, lstD, andD, orD, tstD, ownS, appS, len_tup, len_lst, tup_tup, wipeE, set1, set2, typ_int, typ_tup, typ_non, typ_lst, isF, chainD, asT, truD, len_row, typ_row, ln, q]) (.inr ⟨rfl, ⟨_, rfl⟩, rfl⟩)
    · obtain ⟨rfl, ⟨a, rfl⟩, hb'⟩ := hi
      obtain ⟨d, hd, hbd⟩ := hb
      obtain ⟨i, hi⟩ := List.getElem?_of_mem hd
      have := hb' i (get_lt hi) d hi
      rw [hbd] at this
      cases this
  obtain ⟨f, M', h1, ⟨e', rfl⟩, rfl⟩ := key
  exact fv_ex (e0 := [some R, some (.int 0), some (.int 7), none]) [] rfl (by rw [h1, List.append_nil]) rfl
/-- no row: another thing, or of another length -/
theorem isrow_no {x : D} {n : Int} {M : Store} (h : ∀ M, m_is_tuple_of [x, .int n] M = ok (.bl false) M) : m__is_row [x, .int n] M = ok (.bl false) M := by
  refine fv_rt0 (e0 := [some x, some (.int n), none, none, none]) rfl ?_ rfl
  unfold den__is_row
  exact seq_rt ((if_t (by simp [seqS, ifS, retS, raiseF, raiseS, consA, nilA, binD, callD, nameD, cD, bindE_v, thenS_v, bindE_x, thenS_x, unD, parS, asgS, tupD, int2F, eq_int, ne_int, intF0, negF, notF, nilS, brD, fnD, addE, subE, ix0, ix1, dropS, asgG, tupG, consG, nameG, nilG, lstD, andD, orD, tstD, ownS, appS, len_tup, len_lst, tup_tup, wipeE, set1, set2, typ_int, typ_tup, typ_non, typ_lst, isF, chainD, asT, truD, len_row, typ_row, h])).trans rfl)
theorem tupof_tup {ds : List D} {i : Int} {M : Store} : m_is_tuple_of [.tup ds, .int i] M = ok (.bl (decide ((ds.length : Int) = i))) M := fv_rt0 rfl (by simp [seqS, ifS, retS, raiseF, raiseS, consA, nilA, binD, callD, nameD, cD, bindE_v, thenS_v, bindE_x, thenS_x, unD, parS, asgS, tupD, int2F, eq_int, ne_int, intF0, negF, notF, nilS, brD, fnD, addE, subE, ix0, ix1, dropS, asgG, tupG, consG, nameG, nilG, lstD, andD, orD, tstD, ownS, appS, len_tup, len_lst, tup_tup, wipeE, set1, set2, typ_int, typ_tup, typ_non, typ_lst, isF, chainD, asT, truD, len_row, typ_row, den_is_tuple_of]) rfl
theorem tupof_lst {ds : List D} {i : Int} {M : Store} : m_is_tuple_of [.lst ds, .int i] M = ok (.bl false) M := fv_rt0 rfl (by simp [seqS, ifS, retS, raiseF, raiseS, consA, nilA, binD, callD, nameD, cD, bindE_v, thenS_v, bindE_x, thenS_x, unD, parS, asgS, tupD, int2F, eq_int, ne_int, intF0, negF, notF, nilS, brD, fnD, addE, subE, ix0, ix1, dropS, asgG, tupG, consG, nameG, nilG, lstD, andD, orD, tstD, ownS, appS, len_tup, len_lst, tup_tup, wipeE, set1, set2, typ_int, typ_tup, typ_non, typ_lst, isF, chainD, asT, truD, len_row, typ_row, den_is_tuple_of]) rfl
noncomputable abbrev Bd1 : DenS := seqS (ifS (orD (binD (isF true) (callD (typF) (consA (nameD 2) (nilA))) (cD (.ty "tuple"))) (binD (neF) (callD (lenF) (consA (nameD 2) (nilA))) (cD (.int 2)))) (retS (cD (.bl false))) (nilS)) (seqS (asgG (nameD 2) (tupG 2 (consG (nameG 3) (consG (nameG 4) (nilG))))) (seqS (ifS (orD (binD (isF true) (callD (typF) (consA (nameD 3) (nilA))) (cD (.ty "int"))) (binD (isF true) (callD (typF) (consA (nameD 4) (nilA))) (cD (.ty "int")))) (retS (cD (.bl false))) (nilS)) (ifS (andD (binD (neF) (nameD 4) (cD (.int 1))) (orD (binD (ltF) (nameD 4) (cD (.int 1))) (binD (neF) (callD gcdF (consA (nameD 3) (consA (nameD 4) (nilA)))) (cD (.int 1))))) (retS (cD (.bl false))) (nilS))))
/-- what is no fraction ends the look at a row -/
def BadE (x : D) : Prop := ∀ (R : D) (n : Int) (a b : Option D) (M : Store), Bd1 [some R, some (.int n), some x, a, b] M = some (.rt (.bl false), M)
theorem bad_non : BadE .non := fun R n a b M => seq_rt ((if_t (by simp [seqS, ifS, retS, raiseF, raiseS, consA, nilA, binD, callD, nameD, cD, bindE_v, thenS_v, bindE_x, thenS_x, unD, parS, asgS, tupD, int2F, eq_int, ne_int, intF0, negF, notF, nilS, brD, fnD, addE, subE, ix0, ix1, dropS, asgG, tupG, consG, nameG, nilG, lstD, andD, orD, tstD, ownS, appS, len_tup, len_lst, tup_tup, wipeE, set1, set2, typ_int, typ_tup, typ_non, typ_lst, isF, chainD, asT, truD, len_row, typ_row, typ_non])).trans rfl)
theorem bad_int {i : Int} : BadE (.int i) := fun R n a b M => seq_rt ((if_t (by simp [seqS, ifS, retS, raiseF, raiseS, consA, nilA, binD, callD, nameD, cD, bindE_v, thenS_v, bindE_x, thenS_x, unD, parS, asgS, tupD, int2F, eq_int, ne_int, intF0, negF, notF, nilS, brD, fnD, addE, subE, ix0, ix1, dropS, asgG, tupG, consG, nameG, nilG, lstD, andD, orD, tstD, ownS, appS, len_tup, len_lst, tup_tup, wipeE, set1, set2, typ_int, typ_tup, typ_non, typ_lst, isF, chainD, asT, truD, len_row, typ_row, typ_int])).trans rfl)
theorem bad_str {i : Str} : BadE (.str i) := fun R n a b M => seq_rt ((if_t (by simp [seqS, ifS, retS, raiseF, raiseS, consA, nilA, binD, callD, nameD, cD, bindE_v, thenS_v, bindE_x, thenS_x, unD, parS, asgS, tupD, int2F, eq_int, ne_int, intF0, negF, notF, nilS, brD, fnD, addE, subE, ix0, ix1, dropS, asgG, tupG, consG, nameG, nilG, lstD, andD, orD, tstD, ownS, appS, len_tup, len_lst, tup_tup, wipeE, set1, set2, typ_int, typ_tup, typ_non, typ_lst, isF, chainD, asT, truD, len_row, typ_row, show ∀ M, typF [.str i] M = ok (.ty "str") M from fun M => rfl])).trans rfl)
theorem bad_lst {ds : List D} : BadE (.lst ds) := fun R n a b M => seq_rt ((if_t (by simp [seqS, ifS, retS, raiseF, raiseS, consA, nilA, binD, callD, nameD, cD, bindE_v, thenS_v, bindE_x, thenS_x, unD, parS, asgS, tupD, int2F, eq_int, ne_int, intF0, negF, notF, nilS, brD, fnD, addE, subE, ix0, ix1, dropS, asgG, tupG, consG, nameG, nilG, lstD, andD, orD, tstD, ownS, appS, len_tup, len_lst, tup_tup, wipeE, set1, set2, typ_int, typ_tup, typ_non, typ_lst, isF, chainD, asT, truD, len_row, typ_row])).trans rfl)
theorem bad_len {ds : List D} (h : ¬ (ds.length : Int) = 2) : BadE (.tup ds) := fun R n a b M => seq_rt ((if_t (by simp [seqS, ifS, retS, raiseF, raiseS, consA, nilA, binD, callD, nameD, cD, bindE_v, thenS_v, bindE_x, thenS_x, unD, parS, asgS, tupD, int2F, eq_int, ne_int, intF0, negF, notF, nilS, brD, fnD, addE, subE, ix0, ix1, dropS, asgG, tupG, consG, nameG, nilG, lstD, andD, orD, tstD, ownS, appS, len_tup, len_lst, tup_tup, wipeE, set1, set2, typ_int, typ_tup, typ_non, typ_lst, isF, chainD, asT, truD, len_row, typ_row, h])).trans rfl)
theorem bad_bl {c : Bool} {i : Int} : BadE (.tup [.bl c, .int i]) := fun R n a b M => by
  unfold Bd1
  rw [seq_nx (e' := [some R, some (.int n), some (.tup [.bl c, .int i]), a, b]) (M' := M) (by simp [seqS, ifS, retS, raiseF, raiseS, consA, nilA, binD, callD, nameD, cD, bindE_v, thenS_v, bindE_x, thenS_x, unD, parS, asgS, tupD, int2F, eq_int, ne_int, intF0, negF, notF, nilS, brD, fnD, addE, subE, ix0, ix1, dropS, asgG, tupG, consG, nameG, nilG, lstD, andD, orD, tstD, ownS, appS, len_tup, len_lst, tup_tup, wipeE, set1, set2, typ_int, typ_tup, typ_non, typ_lst, isF, chainD, asT, truD, len_row, typ_row]), seq_nx (e' := [some R, some (.int n), some (.tup [.bl c, .int i]), some (.bl c), some (.int i)]) (M' := M) (by simp [seqS, ifS, retS, raiseF, raiseS, consA, nilA, binD, callD, nameD, cD, bindE_v, thenS_v, bindE_x, thenS_x, unD, parS, asgS, tupD, int2F, eq_int, ne_int, intF0, negF, notF, nilS, brD, fnD, addE, subE, ix0, ix1, dropS, asgG, tupG, consG, nameG, nilG, lstD, andD, orD, tstD, ownS, appS, len_tup, len_lst, tup_tup, wipeE, set1, set2, typ_int, typ_tup, typ_non, typ_lst, isF, chainD, asT, truD, len_row, typ_row])]
  exact seq_rt ((if_t (by simp [seqS, ifS, retS, raiseF, raiseS, consA, nilA, binD, callD, nameD, cD, bindE_v, thenS_v, bindE_x, thenS_x, unD, parS, asgS, tupD, int2F, eq_int, ne_int, intF0, negF, notF, nilS, brD, fnD, addE, subE, ix0, ix1, dropS, asgG, tupG, consG, nameG, nilG, lstD, andD, orD, tstD, ownS, appS, len_tup, len_lst, tup_tup, wipeE, set1, set2, typ_int, typ_tup, typ_non, typ_lst, isF, chainD, asT, truD, len_row, typ_row, show ∀ M, typF [.bl c] M = ok (.ty "bool") M from fun M => rfl])).trans rfl)
theorem bad_pair {u l : Int} (h : l ≠ 1) (h2 : l < 1 ∨ Nat.gcd u.natAbs l.natAbs ≠ 1) : BadE (.tup [.int u, .int l]) := fun R n a b M => by
  unfold Bd1
  rw [seq_nx (e' := [some R, some (.int n), some (.tup [.int u, .int l]), a, b]) (M' := M) (by simp [seqS, ifS, retS, raiseF, raiseS, consA, nilA, binD, callD, nameD, cD, bindE_v, thenS_v, bindE_x, thenS_x, unD, parS, asgS, tupD, int2F, eq_int, ne_int, intF0, negF, notF, nilS, brD, fnD, addE, subE, ix0, ix1, dropS, asgG, tupG, consG, nameG, nilG, lstD, andD, orD, tstD, ownS, appS, len_tup, len_lst, tup_tup, wipeE, set1, set2, typ_int, typ_tup, typ_non, typ_lst, isF, chainD, asT, truD, len_row, typ_row]), seq_nx (e' := [some R, some (.int n), some (.tup [.int u, .int l]), some (.int u), some (.int l)]) (M' := M) (by simp [seqS, ifS, retS, raiseF, raiseS, consA, nilA, binD, callD, nameD, cD, bindE_v, thenS_v, bindE_x, thenS_x, unD, parS, asgS, tupD, int2F, eq_int, ne_int, intF0, negF, notF, nilS, brD, fnD, addE, subE, ix0, ix1, dropS, asgG, tupG, consG, nameG, nilG, lstD, andD, orD, tstD, ownS, appS, len_tup, len_lst, tup_tup, wipeE, set1, set2, typ_int, typ_tup, typ_non, typ_lst, isF, chainD, asT, truD, len_row, typ_row])]
  rw [seq_nx (e' := [some R, some (.int n), some (.tup [.int u, .int l]), some (.int u), some (.int l)]) (M' := M) (by simp [seqS, ifS, retS, raiseF, raiseS, consA, nilA, binD, callD, nameD, cD, bindE_v, thenS_v, bindE_x, thenS_x, unD, parS, asgS, tupD, int2F, eq_int, ne_int, intF0, negF, notF, nilS, brD, fnD, addE, subE, ix0, ix1, dropS, asgG, tupG, consG, nameG, nilG, lstD, andD, orD, tstD, ownS, appS, len_tup, len_lst, tup_tup, wipeE, set1, set2, typ_int, typ_tup, typ_non, typ_lst, isF, chainD, asT, truD, len_row, typ_row])]
  refine (if_t ?_).trans rfl
  by_cases c : l < 1
  · simp [seqS, ifS, retS, raiseF, raiseS, consA, nilA, binD, callD, nameD, cD, bindE_v, thenS_v, bindE_x, thenS_x, unD, parS, asgS, tupD, int2F, eq_int, ne_int, intF0, negF, notF, nilS, brD, fnD, addE, subE, ix0, ix1, dropS, asgG, tupG, consG, nameG, nilG, lstD, andD, orD, tstD, ownS, appS, len_tup, len_lst, tup_tup, wipeE, set1, set2, typ_int, typ_tup, typ_non, typ_lst, isF, chainD, asT, truD, len_row, typ_row, h, lt_int, c]
  · have c2 : ¬ ((Nat.gcd u.natAbs l.natAbs : Nat) : Int) = 1 := by
      rcases h2 with q | q
      · exact absurd q c
      · omega
    have gc : ∀ M, gcdF [.int u, .int l] M = ok (.int ((Nat.gcd u.natAbs l.natAbs : Nat) : Int)) M := fun M => gcd_ev
    generalize ((Nat.gcd u.natAbs l.natAbs : Nat) : Int) = G at *
    simp [seqS, ifS, retS, raiseF, raiseS, consA, nilA, binD, callD, nameD, cD, bindE_v, thenS_v, bindE_x, thenS_x, unD, parS, asgS, tupD, int2F, eq_int, ne_int, intF0, negF, notF, nilS, brD, fnD, addE, subE, ix0, ix1, dropS, asgG, tupG, consG, nameG, nilG, lstD, andD, orD, tstD, ownS, appS, len_tup, len_lst, tup_tup, wipeE, set1, set2, typ_int, typ_tup, typ_non, typ_lst, isF, chainD, asT, truD, len_row, typ_row, h, lt_int, c, gc, c2]
theorem good_pair (r : Rat) (R : D) (n : Int) (a b : Option D) (M : Store) : Bd1 [some R, some (.int n), some (qD r), a, b] M = some (.nx [some R, some (.int n), some (qD r), some (.int r.num), some (.int (r.den : Int))], M) := by
  have rd := r.reduced
  have dp := r.den_pos
  have gc : ∀ M, gcdF [.int r.num, .int (r.den : Int)] M = ok (.int 1) M := fun M => by
    rw [gcd_ev]
    have : Nat.gcd r.num.natAbs (r.den : Int).natAbs = 1 := rd
    rw [this]
    rfl
  show Bd1 [some R, some (.int n), some (.tup [.int r.num, .int (r.den : Int)]), a, b] M = some (.nx [some R, some (.int n), some (.tup [.int r.num, .int (r.den : Int)]), some (.int r.num), some (.int (r.den : Int))], M)
  obtain ⟨l, hl⟩ : ∃ l : Int, l = (r.den : Int) := ⟨_, rfl⟩
  have l1 : ¬ l < 1 := by omega
  rw [← hl] at gc ⊢
  generalize r.num = u at *
  unfold Bd1
  rw [seq_nx (e' := [some R, some (.int n), some (.tup [.int u, .int l]), a, b]) (M' := M) (by simp [seqS, ifS, retS, raiseF, raiseS, consA, nilA, binD, callD, nameD, cD, bindE_v, thenS_v, bindE_x, thenS_x, unD, parS, asgS, tupD, int2F, eq_int, ne_int, intF0, negF, notF, nilS, brD, fnD, addE, subE, ix0, ix1, dropS, asgG, tupG, consG, nameG, nilG, lstD, andD, orD, tstD, ownS, appS, len_tup, len_lst, tup_tup, wipeE, set1, set2, typ_int, typ_tup, typ_non, typ_lst, isF, chainD, asT, truD, len_row, typ_row]), seq_nx (e' := [some R, some (.int n), some (.tup [.int u, .int l]), some (.int u), some (.int l)]) (M' := M) (by simp [seqS, ifS, retS, raiseF, raiseS, consA, nilA, binD, callD, nameD, cD, bindE_v, thenS_v, bindE_x, thenS_x, unD, parS, asgS, tupD, int2F, eq_int, ne_int, intF0, negF, notF, nilS, brD, fnD, addE, subE, ix0, ix1, dropS, asgG, tupG, consG, nameG, nilG, lstD, andD, orD, tstD, ownS, appS, len_tup, len_lst, tup_tup, wipeE, set1, set2, typ_int, typ_tup, typ_non, typ_lst, isF, chainD, asT, truD, len_row, typ_row])]
  rw [seq_nx (e' := [some R, some (.int n), some (.tup [.int u, .int l]), some (.int u), some (.int l)]) (M' := M) (by simp [seqS, ifS, retS, raiseF, raiseS, consA, nilA, binD, callD, nameD, cD, bindE_v, thenS_v, bindE_x, thenS_x, unD, parS, asgS, tupD, int2F, eq_int, ne_int, intF0, negF, notF, nilS, brD, fnD, addE, subE, ix0, ix1, dropS, asgG, tupG, consG, nameG, nilG, lstD, andD, orD, tstD, ownS, appS, len_tup, len_lst, tup_tup, wipeE, set1, set2, typ_int, typ_tup, typ_non, typ_lst, isF, chainD, asT, truD, len_row, typ_row])]
  by_cases hc : l = 1
  · simp [seqS, ifS, retS, raiseF, raiseS, consA, nilA, binD, callD, nameD, cD, bindE_v, thenS_v, bindE_x, thenS_x, unD, parS, asgS, tupD, int2F, eq_int, ne_int, intF0, negF, notF, nilS, brD, fnD, addE, subE, ix0, ix1, dropS, asgG, tupG, consG, nameG, nilG, lstD, andD, orD, tstD, ownS, appS, len_tup, len_lst, tup_tup, wipeE, set1, set2, typ_int, typ_tup, typ_non, typ_lst, isF, chainD, asT, truD, len_row, typ_row, hc]
  · simp [seqS, ifS, retS, raiseF, raiseS, consA, nilA, binD, callD, nameD, cD, bindE_v, thenS_v, bindE_x, thenS_x, unD, parS, asgS, tupD, int2F, eq_int, ne_int, intF0, negF, notF, nilS, brD, fnD, addE, subE, ix0, ix1, dropS, asgG, tupG, consG, nameG, nilG, lstD, andD, orD, tstD, ownS, appS, len_tup, len_lst, tup_tup, wipeE, set1, set2, typ_int, typ_tup, typ_non, typ_lst, isF, chainD, asT, truD, len_row, typ_row, hc, lt_int, l1, gc]
/-- a row with something at a place that is no fraction -/
theorem isrow_bad {ds : List D} {q : Nat} {x : D} (hq : ds[q]? = some x) (hx : BadE x) (hg : ∀ j, j < q → ∃ r, ds[j]? = some (qD r)) (M : Store) : m__is_row [.tup ds, .int (ds.length : Int)] M = ok (.bl false) M := by
  obtain ⟨N, hN⟩ : ∃ N : Int, N = (ds.length : Int) := ⟨_, rfl⟩
  have t1 : ∀ M, m_is_tuple_of [.tup ds, .int N] M = ok (.bl true) M := fun M => by
    rw [tupof_tup, decide_eq_true hN.symm]
  have it : ∀ (e : DL.Env) M, e[0]? = some (some (.tup ds)) → itD (nameD 0) e M = ok (ds, fun _ => True) M := fun e M he => it_tup (by
    unfold nameD
    rw [he])
  rw [← hN]
  obtain ⟨R, hR⟩ : ∃ R, R = D.tup ds := ⟨_, rfl⟩
  rw [← hR] at t1 it ⊢
  refine fv_wp (e0 := [some R, some (.int N), none, none, none]) rfl ?_ rfl
  unfold den__is_row
  refine wp_nx (e' := [some R, some (.int N), none, none, none]) (M' := M) (by simp [seqS, ifS, retS, raiseF, raiseS, consA, nilA, binD, callD, nameD, cD, bindE_v, thenS_v, bindE_x, thenS_x, unD, parS, asgS, tupD, int2F, eq_int, ne_int, intF0, negF, notF, nilS, brD, fnD, addE, subE, ix0, ix1, dropS, asgG, tupG, consG, nameG, nilG, lstD, andD, orD, tstD, ownS, appS, len_tup, len_lst, tup_tup, wipeE, set1, set2, typ_int, typ_tup, typ_non, typ_lst, isF, chainD, asT, truD, len_row, typ_row, t1]) ?_
  refine wp_forR_nx ds (fun j e M' => M' = M ∧ j ≤ q ∧ ∃ b c d, e = [some R, some (.int N), b, c, d]) (it _ _ rfl) (fun j d e M' hd hi => ?_) (fun _ _ _ => trivial) ⟨rfl, Nat.zero_le _, _, _, _, rfl⟩ (fun e' M' hi => ?_)
  · obtain ⟨rfl, hj, b, c, d', rfl⟩ := hi
    refine ⟨trivial, [some R, some (.int N), some d, c, d'], M', by simp [seqS, ifS, retS, raiseF, raiseS, consA, nilA, binD, callD, nameD, cD, bindE_v, thenS_v, bindE_x, thenS_x, unD, parS, asgS, tupD, int2F, eq_int, ne_int, intF0, negF, notF, nilS, brD, fnD, addE, subE, ix0, ix1, dropS, asgG, tupG, consG, nameG, nilG, lstD, andD, orD, tstD, ownS, appS, len_tup, len_lst, tup_tup, wipeE, set1, set2, typ_int, typ_tup, typ_non, typ_lst, isF, chainD, asT, truD, len_row, typ_row], ?_⟩
    by_cases cj : j = q
    · subst cj
      rw [hq] at hd
      cases hd
      exact wp_of (M' := M') (.rt (.bl false)) (hx _ _ _ _ _) (.inr ⟨_, rfl, rfl, [], by simp⟩)
    · obtain ⟨r, hr⟩ := hg j (by omega)
      rw [hr] at hd
      cases hd
      exact wp_of (M' := M') (.nx _) (good_pair r R N c d' M') (.inl ⟨_, .inl rfl, rfl, by omega, _, _, _, rfl⟩)
  · obtain ⟨rfl, hj, _⟩ := hi
    have := get_lt hq
    omega
end K62
namespace K62
open PySem L2 DL
def RF (x : D) : Prop := ∀ M, m_need_rows [x, .int 0, .int 7] M = some (.exc "BadRows" [], M)
theorem rf_typ {x : D} {t : String} (h : ∀ M, typF [x] M = ok (.ty t) M) (ht : ∀ M, isF true (.ty t) (.ty "tuple") M = ok (.bl true) M) : RF x := fun M => need_no ⟨true, or_v (a := true) (b := true) (by
  show bindE (bindE (bindE (ok x M) fun d M1 => bindE (ok [] M1) fun ds M2 => ok (d :: ds) M2) typF) _ = _
  rw [bindE_v, bindE_v, bindE_v, h, bindE_v]
  exact ht M) (fun z => nomatch z), rfl⟩
theorem rf_long {ds : List D} (h : 7 < ds.length) : RF (.tup ds) := fun M => by
  refine need_no ⟨true, or_v (a := false) (b := true) (by simp [seqS, ifS, retS, raiseF, raiseS, consA, nilA, binD, callD, nameD, cD, bindE_v, thenS_v, bindE_x, thenS_x, unD, parS, asgS, tupD, int2F, eq_int, ne_int, intF0, negF, notF, nilS, brD, fnD, addE, subE, ix0, ix1, dropS, asgG, tupG, consG, nameG, nilG, lstD, andD, orD, tstD, ownS, appS, len_tup, len_lst, tup_tup, wipeE, set1, set2, typ_int, typ_tup, typ_non, typ_lst, isF, chainD, asT, truD, len_row, typ_row]) fun _ => ?_, rfl⟩
  have ch := chain_le (da := nameD 1) (db := callD lenF (consA (nameD 0) nilA)) (dc := nameD 2) (e := [some (.tup ds), some (.int 0), some (.int 7), none]) (M := M) (i := 0) (j := (ds.length : Int)) (k := 7) (by simp [seqS, ifS, retS, raiseF, raiseS, consA, nilA, binD, callD, nameD, cD, bindE_v, thenS_v, bindE_x, thenS_x, unD, parS, asgS, tupD, int2F, eq_int, ne_int, intF0, negF, notF, nilS, brD, fnD, addE, subE, ix0, ix1, dropS, asgG, tupG, consG, nameG, nilG, lstD, andD, orD, tstD, ownS, appS, len_tup, len_lst, tup_tup, wipeE, set1, set2, typ_int, typ_tup, typ_non, typ_lst, isF, chainD, asT, truD, len_row, typ_row]) (by simp [seqS, ifS, retS, raiseF, raiseS, consA, nilA, binD, callD, nameD, cD, bindE_v, thenS_v, bindE_x, thenS_x, unD, parS, asgS, tupD, int2F, eq_int, ne_int, intF0, negF, notF, nilS, brD, fnD, addE, subE, ix0, ix1, dropS, asgG, tupG, consG, nameG, nilG, lstD, andD, orD, tstD, ownS, appS, len_tup, len_lst, tup_tup, wipeE, set1, set2, typ_int, typ_tup, typ_non, typ_lst, isF, chainD, asT, truD, len_row, typ_row]) (by simp [seqS, ifS, retS, raiseF, raiseS, consA, nilA, binD, callD, nameD, cD, bindE_v, thenS_v, bindE_x, thenS_x, unD, parS, asgS, tupD, int2F, eq_int, ne_int, intF0, negF, notF, nilS, brD, fnD, addE, subE, ix0, ix1, dropS, asgG, tupG, consG, nameG, nilG, lstD, andD, orD, tstD, ownS, appS, len_tup, len_lst, tup_tup, wipeE, set1, set2, typ_int, typ_tup, typ_non, typ_lst, isF, chainD, asT, truD, len_row, typ_row])
  rw [decide_eq_true (by omega : (0 : Int) ≤ (ds.length : Int)), decide_eq_false (by omega : ¬ (ds.length : Int) ≤ 7)] at ch
  exact not_v ch
open Classical in
theorem rf_mix {s : Nat} {ds : List D} {z : D} (hs : s ≤ 7) (hl : ds.length = s) (hg : ∀ d ∈ ds, d = z ∨ ∃ a : Nat → Rat, d = rowD s fun j => qD (a j)) (hm : z ∈ ds) (hz : ∀ M, m__is_row [z, .int (s : Int)] M = ok (.bl false) M) : RF (.tup ds) := fun M => by
  refine need_bad (b := fun d => decide (d ≠ z)) (by omega) (fun d hd M => ?_) ⟨z, hm, decide_eq_false fun q => q rfl⟩ M
  rw [hl]
  by_cases c : d = z
  · rw [c, hz]
    show _ = ok (D.bl (decide (z ≠ z))) M
    rw [decide_eq_false fun q => q rfl]
  · obtain ⟨a, ha⟩ := (hg d hd).resolve_left c
    show _ = ok (D.bl (decide (d ≠ z))) M
    rw [decide_eq_true c, ha]
    exact isrow_ok
theorem rf_none {ds : List D} (hl : ds.length ≤ 7) (h0 : ds ≠ []) (h : ∀ d ∈ ds, ∀ M, m__is_row [d, .int (ds.length : Int)] M = ok (.bl false) M) : RF (.tup ds) := fun M => by
  refine need_bad (b := fun _ => false) hl h ?_ M
  cases ds with
  | nil => exact absurd rfl h0
  | cons d r => exact ⟨d, List.mem_cons_self, rfl⟩
theorem row_of (s : Nat) (a : Nat → Rat) : (rowD s fun j => qD (a j)) = .tup ((List.range s).map fun j => qD (a j)) := rfl
section
variable {s p : Nat} {A : Mx}
abbrev rowsD (s : Nat) (A : Mx) : List D := (List.range s).map fun i => rowD s fun j => qD (A i j)
abbrev rowL (s : Nat) (A : Mx) (p : Nat) : List D := (List.range s).map fun j => qD (A p j)
theorem rf_put (hs : s ≤ 7) (hp : p < s) {z : D} (hz : ∀ M, m__is_row [z, .int (s : Int)] M = ok (.bl false) M) : RF (.tup ((rowsD s A).take p ++ [z] ++ (rowsD s A).drop (p + 1))) := by
  refine rf_mix hs (by simp; omega) (fun d hd => ?_) (by simp) hz
  simp only [List.mem_append, List.mem_singleton] at hd
  rcases hd with (hd | hd) | hd
  · obtain ⟨i, _, rfl⟩ := List.mem_map.mp (List.mem_of_mem_take hd)
    exact .inr ⟨_, rfl⟩
  · exact .inl hd
  · obtain ⟨i, _, rfl⟩ := List.mem_map.mp (List.mem_of_mem_drop hd)
    exact .inr ⟨_, rfl⟩
theorem isrow_lst {ds : List D} {n : Int} {M : Store} : m__is_row [.lst ds, .int n] M = ok (.bl false) M := isrow_no fun _ => tupof_lst
theorem isrow_len {ds : List D} {n : Int} {M : Store} (h : ¬ (ds.length : Int) = n) : m__is_row [.tup ds, .int n] M = ok (.bl false) M := isrow_no fun _ => by
  rw [tupof_tup, decide_eq_false h]
theorem isrow_put {q : Nat} (hq : q < s) {x : D} (hx : BadE x) (M : Store) : m__is_row [.tup ((rowL s A p).take q ++ [x] ++ (rowL s A p).drop (q + 1)), .int (s : Int)] M = ok (.bl false) M := by
  have hl : ((rowL s A p).take q ++ [x] ++ (rowL s A p).drop (q + 1)).length = s := by simp; omega
  have := isrow_bad (ds := (rowL s A p).take q ++ [x] ++ (rowL s A p).drop (q + 1)) (q := q) (x := x) (by
    rw [List.append_assoc, List.getElem?_append_right (by simp; omega)]
    simp
    rw [show q - min q s = 0 by omega]
    rfl) hx (fun j hj => ⟨A p j, by
    rw [List.append_assoc, List.getElem?_append_left (by simp; omega), List.getElem?_take, if_pos hj, get_mapR (by omega)]⟩) M
  rwa [hl] at this
/-- a thing in the list of odd ones -/
abbrev oddL : List D := [.non, .int 1, .tup [.int 1, .int 0], .tup [.int 2, .int 4], .tup [.int 0, .int 2], .tup [.int 1, .int (-2)], .tup [.bl true, .int 1], .lst [.int 1, .int 1], .str "1", .tup [.int 1]]
theorem odd_bad {k : Int} (h0 : 0 ≤ k) (h : k < 10) : ∃ x, BadE x ∧ nlD 0 x = true ∧ ∀ M, ixF (.lst oddL) (.int k) M = ok x M := by
  have c : k = 0 ∨ k = 1 ∨ k = 2 ∨ k = 3 ∨ k = 4 ∨ k = 5 ∨ k = 6 ∨ k = 7 ∨ k = 8 ∨ k = 9 := by omega
  rcases c with z | z | z | z | z | z | z | z | z | z
  · exact ⟨_, bad_non, rfl, fun M => by rw [z]; exact ix_lst rfl⟩
  · exact ⟨_, bad_int, rfl, fun M => by rw [z]; exact ix_lst rfl⟩
  · exact ⟨_, bad_pair (u := 1) (l := 0) (by decide) (.inl (by decide)), rfl, fun M => by rw [z]; exact ix_lst rfl⟩
  · exact ⟨_, bad_pair (u := 2) (l := 4) (by decide) (.inr (by decide)), rfl, fun M => by rw [z]; exact ix_lst rfl⟩
  · exact ⟨_, bad_pair (u := 0) (l := 2) (by decide) (.inr (by decide)), rfl, fun M => by rw [z]; exact ix_lst rfl⟩
  · exact ⟨_, bad_pair (u := 1) (l := -2) (by decide) (.inl (by decide)), rfl, fun M => by rw [z]; exact ix_lst rfl⟩
  · exact ⟨_, bad_bl (c := true) (i := 1), rfl, fun M => by rw [z]; exact ix_lst rfl⟩
  · exact ⟨_, bad_lst (ds := [.int 1, .int 1]), rfl, fun M => by rw [z]; exact ix_lst rfl⟩
  · exact ⟨_, bad_str (i := "1"), rfl, fun M => by rw [z]; exact ix_lst rfl⟩
  · exact ⟨_, bad_len (ds := [.int 1]) (by decide), rfl, fun M => by rw [z]; exact ix_lst rfl⟩
end
end K62
namespace K62
open PySem L2 DL
theorem mulT8 {x : D} {M : Store} : mulTF (.tup [x]) (.int 8) M = ok (.tup (List.replicate 8 x)) M := by
  show (if (2 : Int) ≤ 8 ∧ (8 : Int) ≤ 1000 ∧ [x].length ≤ 1000 ∧ [x] ≠ [] then ok (D.tup (List.replicate (8 : Int).toNat [x]).flatten) M else none) = _
  rw [if_pos ⟨by decide, by decide, by simp, by simp⟩]
  rfl
theorem flat_rep {x : D} : ∀ n, (List.replicate n [x]).flatten = List.replicate n x
  | 0 => rfl
  | n + 1 => by
    rw [List.replicate_succ, List.flatten_cons, flat_rep n]
    rfl
theorem mulL {x : D} {s : Nat} {M : Store} (h : s ≤ 1000) : mulF (.lst [x]) (.int (s : Int)) M = ok (.lst (List.replicate s x)) M := by
  simp only [mulF, getW, getL]
  rw [if_pos ⟨by omega, by omega, sz_ok (by simp; omega)⟩, Int.toNat_natCast, flat_rep]
theorem nls_app {xs ys : List D} (h1 : nlDs 0 xs = true) (h2 : nlDs 0 ys = true) : nlDs 0 (xs ++ ys) = true := by
  induction xs with
  | nil => exact h2
  | cons x r ih =>
    have h' : (nlD 0 x && nlDs 0 r) = true := h1
    rw [Bool.and_eq_true] at h'
    show (nlD 0 x && nlDs 0 (r ++ ys)) = true
    rw [h'.1, ih h'.2]
    rfl
theorem nls_mem {xs ys : List D} (h : nlDs 0 xs = true) (hs : ∀ d ∈ ys, d ∈ xs) : nlDs 0 ys = true := nls_all fun d hd => by
  have : ∀ {xs : List D}, nlDs 0 xs = true → ∀ d ∈ xs, nlD 0 d = true := fun {xs} => by
    induction xs with
    | nil => intro _ d hd; cases hd
    | cons x r ih =>
      intro h d hd
      have h' : (nlD 0 x && nlDs 0 r) = true := h
      rw [Bool.and_eq_true] at h'
      (rcases List.mem_cons.mp hd with rfl | hd)
      · exact h'.1
      · exact ih h'.2 d hd
  exact this h d (hs d hd)
theorem nls_one {x : D} (h : nlD 0 x = true) : nlDs 0 [x] = true := by
  show (nlD 0 x && true) = true
  rw [h]
  rfl
theorem nls_rep {x : D} (h : nlD 0 x = true) (n : Nat) : nlDs 0 (List.replicate n x) = true := nls_all fun d hd => by
  rw [(List.mem_replicate.mp hd).2]
  exact h
theorem bent_ok {s : Nat} {A : Mx} {N : Int} (h1 : 1 ≤ s) (h5 : s ≤ 5) (n0 : 0 ≤ N) (M : Store) : ∃ x, m__law_bent [gridD s A, .int N] M = ok x M ∧ RF x := by
  obtain ⟨S, hS⟩ : ∃ i : Int, i = (s : Int) := ⟨_, rfl⟩
  obtain ⟨P, hP⟩ : ∃ i : Int, i = N % S := ⟨_, rfl⟩
  obtain ⟨Q, hQ⟩ : ∃ i : Int, i = N / 7 % S := ⟨_, rfl⟩
  have P0 : 0 ≤ P := by rw [hP]; exact Int.emod_nonneg _ (by omega)
  have P1 : P < S := by rw [hP]; exact Int.emod_lt_of_pos _ (by omega)
  have Q0 : 0 ≤ Q := by rw [hQ]; exact Int.emod_nonneg _ (by omega)
  have Q1 : Q < S := by rw [hQ]; exact Int.emod_lt_of_pos _ (by omega)
  obtain ⟨p, hp⟩ : ∃ p : Nat, P = (p : Int) := ⟨P.toNat, by omega⟩
  obtain ⟨q, hq⟩ : ∃ p : Nat, Q = (p : Int) := ⟨Q.toNat, by omega⟩
  have lp : p < s := by omega
  have lq : q < s := by omega
  obtain ⟨K, hK⟩ : ∃ i : Int, i = N / 49 % 10 := ⟨_, rfl⟩
  obtain ⟨W, hW⟩ : ∃ i : Int, i = N / 490 % 15 := ⟨_, rfl⟩
  obtain ⟨bad, bd1, bd2, bd3⟩ := odd_bad (k := K) (by omega) (by omega)
  have f1 : ∀ M, fmodF (.int N) (.int S) M = ok (.int P) M := fun M => by rw [fmd (by omega), hP]
  have f2 : ∀ M, fdivF (.int N) (.int 7) M = ok (.int (N / 7)) M := fun M => fdv (by decide) (by unfold Bd; decide)
  have f3 : ∀ M, fmodF (.int (N / 7)) (.int S) M = ok (.int Q) M := fun M => by rw [fmd (by omega), hQ]
  have f4 : ∀ M, fdivF (.int N) (.int 49) M = ok (.int (N / 49)) M := fun M => fdv (by decide) (by unfold Bd; decide)
  have f5 : ∀ M, fmodF (.int (N / 49)) (.int 10) M = ok (.int K) M := fun M => by rw [fmd (by decide), hK]
  have f6 : ∀ M, fdivF (.int N) (.int 490) M = ok (.int (N / 490)) M := fun M => fdv (by decide) (by unfold Bd; decide)
  have f7 : ∀ M, fmodF (.int (N / 490)) (.int 15) M = ok (.int W) M := fun M => by rw [fmd (by decide), hW]
  obtain ⟨rows, hrows⟩ : ∃ l, l = rowsD s A := ⟨_, rfl⟩
  obtain ⟨rl, hrl⟩ : ∃ l, l = rowL s A p := ⟨_, rfl⟩
  have lrows : rows.length = s := by rw [hrows]; simp
  have lrl : rl.length = s := by rw [hrl]; simp
  have nrows : nlDs 0 rows = true := by rw [hrows]; exact nls_map fun _ _ => nl_row fun _ _ => rfl
  have nrl : nlDs 0 rl = true := by rw [hrl]; exact nls_map fun _ _ => rfl
  obtain ⟨G, hG⟩ : ∃ l, l = D.tup rows := ⟨_, rfl⟩
  obtain ⟨RW, hRW⟩ : ∃ l, l = D.tup rl := ⟨_, rfl⟩
  have gl : ∀ M, lenF [G] M = ok (.int S) M := fun M => by rw [hG, len_tup, lrows, hS]
  have gi : ∀ M, ixF G (.int P) M = ok RW M := fun M => by
    rw [hG, hRW, hp, hrl, hrows]
    exact ix_tup (at_nat (get_mapR lp))
  obtain ⟨T1, hT1⟩ : ∃ l, l = D.tup (rows.take p) := ⟨_, rfl⟩
  obtain ⟨T2, hT2⟩ : ∃ l, l = D.tup (rows.drop (p + 1)) := ⟨_, rfl⟩
  obtain ⟨T3, hT3⟩ : ∃ l, l = D.tup (rows.take 1) := ⟨_, rfl⟩
  obtain ⟨R1, hR1⟩ : ∃ l, l = D.tup (rl.take q) := ⟨_, rfl⟩
  obtain ⟨R2, hR2⟩ : ∃ l, l = D.tup (rl.drop (q + 1)) := ⟨_, rfl⟩
  obtain ⟨R3, hR3⟩ : ∃ l, l = D.tup (rl.take 1) := ⟨_, rfl⟩
  obtain ⟨R4, hR4⟩ : ∃ l, l = D.tup (rl.drop 1) := ⟨_, rfl⟩
  have s1 : ∀ M, slpF G none (some P) none M = ok T1 M := fun M => by rw [hG, hT1, hp]; exact slp_take (by omega)
  have s2 : ∀ M, slpF G (some (P + 1)) none none M = ok T2 M := fun M => by rw [hG, hT2, show P + 1 = ((p + 1 : Nat) : Int) by omega]; exact slp_drop (by omega)
  have s3 : ∀ M, slpF G none (some 1) none M = ok T3 M := fun M => by rw [hG, hT3]; exact slp_take (k := 1) (by omega)
  have w1 : ∀ M, slpF RW none (some Q) none M = ok R1 M := fun M => by rw [hRW, hR1, hq]; exact slp_take (by omega)
  have w2 : ∀ M, slpF RW (some (Q + 1)) none none M = ok R2 M := fun M => by rw [hRW, hR2, show Q + 1 = ((q + 1 : Nat) : Int) by omega]; exact slp_drop (by omega)
  have w3 : ∀ M, slpF RW none (some 1) none M = ok R3 M := fun M => by rw [hRW, hR3]; exact slp_take (k := 1) (by omega)
  have w4 : ∀ M, slpF RW (some 1) none none M = ok R4 M := fun M => by rw [hRW, hR4]; exact slp_drop (k := 1) (by omega)
  obtain ⟨R5, hR5⟩ : ∃ l, l = D.tup (rl.take q ++ [bad]) := ⟨_, rfl⟩
  obtain ⟨Y0, hY0⟩ : ∃ l, l = D.tup (rl.take q ++ [bad] ++ rl.drop (q + 1)) := ⟨_, rfl⟩
  obtain ⟨Y2, hY2⟩ : ∃ l, l = D.tup (rl ++ rl.take 1) := ⟨_, rfl⟩
  obtain ⟨X5, hX5⟩ : ∃ l, l = D.tup (rows ++ rows.take 1) := ⟨_, rfl⟩
  obtain ⟨U, hU⟩ : ∃ U : D → D, U = fun z => D.tup (rows.take p ++ [z]) := ⟨_, rfl⟩
  obtain ⟨V, hV⟩ : ∃ U : D → D, U = fun z => D.tup (rows.take p ++ [z] ++ rows.drop (p + 1)) := ⟨_, rfl⟩
  have a1 : ∀ M, addGF R1 (.tup [bad]) M = ok R5 M := fun M => by rw [hR1, hR5]; exact addG_tup (by simp; omega)
  have a2 : ∀ M, addGF R5 R2 M = ok Y0 M := fun M => by rw [hR5, hR2, hY0]; exact addG_tup (by simp; omega)
  have a3 : ∀ M, addGF RW R3 M = ok Y2 M := fun M => by rw [hRW, hR3, hY2]; exact addG_tup (by simp; omega)
  have a4 : ∀ M, addGF G T3 M = ok X5 M := fun M => by rw [hG, hT3, hX5]; exact addG_tup (by simp; omega)
  have b1 : ∀ z M, addGF T1 (.tup [z]) M = ok (U z) M := fun z M => by rw [hT1, hU]; exact addG_tup (by simp; omega)
  have b2 : ∀ z M, addGF (U z) T2 M = ok (V z) M := fun z M => by rw [hT2, hU, hV]; exact addG_tup (by simp; omega)
  have l1 : ∀ M, lstcF [RW] M = ok (.lst rl) M := fun M => by rw [hRW]; rfl
  have l2 : ∀ M, lstcF [G] M = ok (.lst rows) M := fun M => by rw [hG]; rfl
  have m1 : ∀ M, mulF (.lst [.tup [.int 1, .int 1]]) (.int S) M = ok (.lst (List.replicate s (.tup [.int 1, .int 1]))) M := fun M => by rw [hS]; exact mulL (by omega)
  obtain ⟨X6, hX6⟩ : ∃ l, l = D.tup (List.replicate s (.tup [.int 1, .int 1])) := ⟨_, rfl⟩
  obtain ⟨Z6, hZ6⟩ : ∃ l, l = D.lst (List.replicate s (.tup [.int 1, .int 1])) := ⟨_, rfl⟩
  have t6 : ∀ M, tupcF [Z6] M = ok X6 M := fun M => by rw [hZ6, hX6]; exact tup_lst (by simp; omega)
  rw [← hZ6] at m1
  obtain ⟨E8, hE8⟩ : ∃ l, l = D.tup (List.replicate 8 (.tup [.int 1, .int 1])) := ⟨_, rfl⟩
  obtain ⟨X13, hX13⟩ : ∃ l, l = D.tup (List.replicate 8 E8) := ⟨_, rfl⟩
  have e1 : ∀ M, mulTF (.tup [.tup [.int 1, .int 1]]) (.int 8) M = ok E8 M := fun M => by rw [hE8]; exact mulT8
  have e2 : ∀ M, mulTF (.tup [E8]) (.int 8) M = ok X13 M := fun M => by rw [hX13]; exact mulT8
  -- the menu
  let ML : List D := [V Y0, V (.lst rl), V Y2, V R4, .lst rows, X5, X6, .non, .int 5, .str "", .lst [], .emp, .tup [.tup []], X13, .tup [G]]
  have hgrid : gridD s A = G := by rw [hG, hrows]; rfl
  have rfV : ∀ z, (∀ M, m__is_row [z, .int (s : Int)] M = ok (.bl false) M) → RF (V z) := fun z hz => by
    rw [hV, hrows]
    exact rf_put (by omega) lp hz
  have nV : ∀ z, nlD 0 z = true → nlD 0 (V z) = true := fun z hz => by
    rw [hV]
    exact nls_app (nls_app (nls_mem nrows fun d hd => List.mem_of_mem_take hd) (nls_one hz)) (nls_mem nrows fun d hd => List.mem_of_mem_drop hd)
  have nG : nlD 0 G = true := by rw [hG]; exact nrows
  have all : ∀ x ∈ ML, RF x ∧ nlD 0 x = true := by
    intro x hx
    simp only [ML, List.mem_cons, List.not_mem_nil, or_false] at hx
    rcases hx with rfl | rfl | rfl | rfl | rfl | rfl | rfl | rfl | rfl | rfl | rfl | rfl | rfl | rfl | rfl
    · refine ⟨rfV _ fun M => by rw [hY0, hrl]; exact isrow_put lq bd1 M, nV _ ?_⟩
      rw [hY0]
      exact nls_app (nls_app (nls_mem nrl fun d hd => List.mem_of_mem_take hd) (nls_one bd2)) (nls_mem nrl fun d hd => List.mem_of_mem_drop hd)
    · exact ⟨rfV _ fun M => isrow_lst, nV _ nrl⟩
    · refine ⟨rfV _ fun M => by rw [hY2]; exact isrow_len (by simp; omega), nV _ ?_⟩
      rw [hY2]
      exact nls_app nrl (nls_mem nrl fun d hd => List.mem_of_mem_take hd)
    · refine ⟨rfV _ fun M => by rw [hR4]; exact isrow_len (by simp; omega), nV _ ?_⟩
      rw [hR4]
      exact nls_mem nrl fun d hd => List.mem_of_mem_drop hd
    · exact ⟨rf_typ (t := "list") (fun _ => rfl) (fun _ => rfl), nrows⟩
    · refine ⟨?_, by rw [hX5]; exact nls_app nrows (nls_mem nrows fun d hd => List.mem_of_mem_take hd)⟩
      rw [hX5]
      refine rf_none (by rw [List.length_append, List.length_take, lrows]; omega) (by
        intro z
        have := congrArg List.length z
        rw [List.length_append, List.length_take, lrows] at this
        simp at this
        omega) (fun d hd M => ?_)
      have : d ∈ rows := by
        rcases List.mem_append.mp hd with h | h
        · exact h
        · exact List.mem_of_mem_take h
      rw [hrows] at this
      obtain ⟨i, _, rfl⟩ := List.mem_map.mp this
      rw [row_of]
      exact isrow_len (by rw [List.length_append, List.length_take, lrows]; simp; omega)
    · refine ⟨?_, by rw [hX6]; exact nls_rep rfl s⟩
      rw [hX6]
      refine rf_none (by simp; omega) (by
        intro z
        have := congrArg List.length z
        simp at this
        omega) (fun d hd M => ?_)
      obtain rfl := (List.mem_replicate.mp hd).2
      rw [List.length_replicate]
      by_cases c : s = 2
      · subst c
        exact isrow_bad (ds := [.int 1, .int 1]) (q := 0) (x := .int 1) rfl bad_int (fun j hj => absurd hj (Nat.not_lt_zero _)) M
      · exact isrow_len (by simp; omega)
    · exact ⟨rf_typ (t := "NoneType") (fun _ => rfl) (fun _ => rfl), rfl⟩
    · exact ⟨rf_typ (t := "int") (fun _ => rfl) (fun _ => rfl), rfl⟩
    · exact ⟨rf_typ (t := "str") (fun _ => rfl) (fun _ => rfl), rfl⟩
    · exact ⟨rf_typ (t := "list") (fun _ => rfl) (fun _ => rfl), rfl⟩
    · exact ⟨rf_typ (t := "dict") (fun _ => rfl) (fun _ => rfl), rfl⟩
    · refine ⟨rf_none (by decide) (by simp) (fun d hd M => ?_), rfl⟩
      obtain rfl := List.mem_singleton.mp hd
      exact isrow_len (by decide)
    · rw [hX13]
      refine ⟨rf_long (by simp), nls_rep ?_ 8⟩
      rw [hE8]
      exact nls_rep rfl 8
    · refine ⟨rf_none (by simp) (by simp) (fun d hd M => ?_), nls_one nG⟩
      obtain rfl := List.mem_singleton.mp hd
      rw [hG]
      by_cases c : s = 1
      · subst c
        rw [hrows]
        exact isrow_bad (ds := [rowD 1 fun j => qD (A 0 j)]) (q := 0) rfl (bad_len (ds := [qD (A 0 0)]) (by simp)) (fun j hj => absurd hj (Nat.not_lt_zero _)) M
      · exact isrow_len (by rw [lrows]; simp; omega)
  have wl : W.toNat < ML.length := by
    show W.toNat < 15
    omega
  obtain ⟨x, hx⟩ : ∃ x, ML[W.toNat]? = some x := ⟨_, List.getElem?_eq_getElem wl⟩
  have am := all x (List.mem_of_getElem? hx)
  refine ⟨x, ?_, am.1⟩
  rw [hgrid]
  have key : Wp (den__law_bent [some G, some (.int N), none, none, none, none, none, none, none] M) (fun f M' => f = .rt x ∧ ∃ X, M' = M ++ X) := by
    unfold den__law_bent
    refine wp_nx (e' := [some G, some (.int N), some (.int S), some (.lst oddL), none, none, none, none, none]) (M' := M) (by simp [seqS, ifS, retS, raiseF, raiseS, consA, nilA, binD, callD, nameD, cD, bindE_v, thenS_v, bindE_x, thenS_x, unD, parS, asgS, tupD, int2F, eq_int, ne_int, intF0, negF, notF, nilS, brD, fnD, addE, subE, ix0, ix1, dropS, asgG, tupG, consG, nameG, nilG, lstD, andD, orD, tstD, ownS, appS, len_tup, len_lst, tup_tup, wipeE, set1, set2, typ_int, typ_tup, typ_non, typ_lst, isF, chainD, asT, truD, len_row, typ_row, gl]) ?_
    refine wp_nx (e' := [some G, some (.int N), some (.int S), some (.lst oddL), some (.int P), some (.int Q), some bad, none, none]) (M' := M) (by simp [seqS, ifS, retS, raiseF, raiseS, consA, nilA, binD, callD, nameD, cD, bindE_v, thenS_v, bindE_x, thenS_x, unD, parS, asgS, tupD, int2F, eq_int, ne_int, intF0, negF, notF, nilS, brD, fnD, addE, subE, ix0, ix1, dropS, asgG, tupG, consG, nameG, nilG, lstD, andD, orD, tstD, ownS, appS, len_tup, len_lst, tup_tup, wipeE, set1, set2, typ_int, typ_tup, typ_non, typ_lst, isF, chainD, asT, truD, len_row, typ_row, parS3, f1, f2, f3, f4, f5, bd3]) ?_
    generalize oddL = OL
    refine wp_nx (e' := [some G, some (.int N), some (.int S), some (.lst OL), some (.int P), some (.int Q), some bad, some RW, none]) (M' := M) (by simp [seqS, ifS, retS, raiseF, raiseS, consA, nilA, binD, callD, nameD, cD, bindE_v, thenS_v, bindE_x, thenS_x, unD, parS, asgS, tupD, int2F, eq_int, ne_int, intF0, negF, notF, nilS, brD, fnD, addE, subE, ix0, ix1, dropS, asgG, tupG, consG, nameG, nilG, lstD, andD, orD, tstD, ownS, appS, len_tup, len_lst, tup_tup, wipeE, set1, set2, typ_int, typ_tup, typ_non, typ_lst, isF, chainD, asT, truD, len_row, typ_row, gi]) ?_
    refine wp_nx (e' := [some G, some (.int N), some (.int S), some (.lst OL), some (.int P), some (.int Q), some bad, some RW, some (.loc M.length)]) (M' := M ++ [Ob.lst [V Y0]]) (by simp [seqS, ifS, retS, raiseF, raiseS, consA, nilA, binD, callD, nameD, cD, bindE_v, thenS_v, bindE_x, thenS_x, unD, parS, asgS, tupD, int2F, eq_int, ne_int, intF0, negF, notF, nilS, brD, fnD, addE, subE, ix0, ix1, dropS, asgG, tupG, consG, nameG, nilG, lstD, andD, orD, tstD, ownS, appS, len_tup, len_lst, tup_tup, wipeE, set1, set2, typ_int, typ_tup, typ_non, typ_lst, isF, chainD, asT, truD, len_row, typ_row, slpD, someO, noneO, s1, s2, w1, w2, a1, a2, b1, b2, addG_int]) ?_
    refine wp_nx (e' := [some G, some (.int N), some (.int S), some (.lst OL), some (.int P), some (.int Q), some bad, some RW, some (.loc M.length)]) (M' := M ++ [Ob.lst [V Y0, V (.lst rl)]]) ?_ ?_
    · have := app_ok (dob := nameD 8) (da := (binD addGF (binD addGF (slpD (nameD 0) (noneO) (someO (nameD 4)) (noneO)) (tupD (consA (callD (lstcF) (consA (nameD 7) (nilA))) (nilA)))) (slpD (nameD 0) (someO (binD addGF (nameD 4) (cD (.int 1)))) (noneO) (noneO)))) (e := [some G, some (.int N), some (.int S), some (.lst OL), some (.int P), some (.int Q), some bad, some RW, some (.loc M.length)]) (M := M ++ [Ob.lst [V Y0]]) (n := M.length) (ds := [V Y0]) (d := V (.lst rl)) (M1 := M ++ [Ob.lst [V Y0]]) rfl (by simp [seqS, ifS, retS, raiseF, raiseS, consA, nilA, binD, callD, nameD, cD, bindE_v, thenS_v, bindE_x, thenS_x, unD, parS, asgS, tupD, int2F, eq_int, ne_int, intF0, negF, notF, nilS, brD, fnD, addE, subE, ix0, ix1, dropS, asgG, tupG, consG, nameG, nilG, lstD, andD, orD, tstD, ownS, appS, len_tup, len_lst, tup_tup, wipeE, set1, set2, typ_int, typ_tup, typ_non, typ_lst, isF, chainD, asT, truD, len_row, typ_row, slpD, someO, noneO, s1, s2, l1, b1, b2, addG_int]) get_mid (by simp)
      rw [set_mid] at this
      exact this
    have sL := sz_ok (n := 15) (by decide)
    refine wp_nx (e' := [some G, some (.int N), some (.int S), some (.lst OL), some (.int P), some (.int Q), some bad, some RW, some (.loc (M.length + 1))]) (M' := M ++ [Ob.lst [V Y0, V (.lst rl)]] ++ [Ob.lst [V Y0, V (.lst rl), V Y2, V R4, .lst rows]]) ?_ ?_
    · have g1 : (M ++ [Ob.lst [V Y0, V (.lst rl)]])[M.length]? = some (.lst [V Y0, V (.lst rl)]) := get_mid
      have gl1 : (M ++ [Ob.lst [V Y0, V (.lst rl)]]).length = M.length + 1 := by simp
      rw [← gl1]
      generalize M ++ [Ob.lst [V Y0, V (.lst rl)]] = M1 at *
      generalize M.length = L at *
      simp [seqS, ifS, retS, raiseF, raiseS, consA, nilA, binD, callD, nameD, cD, bindE_v, thenS_v, bindE_x, thenS_x, unD, parS, asgS, tupD, int2F, eq_int, ne_int, intF0, negF, notF, nilS, brD, fnD, addE, subE, ix0, ix1, dropS, asgG, tupG, consG, nameG, nilG, lstD, andD, orD, tstD, ownS, appS, len_tup, len_lst, tup_tup, wipeE, set1, set2, typ_int, typ_tup, typ_non, typ_lst, isF, chainD, asT, truD, len_row, typ_row, ownAddS, getW, getL, g1, slpD, someO, noneO, s1, s2, w3, w4, a3, l2, b1, b2, addG_int]
    refine wp_nx (e' := [some G, some (.int N), some (.int S), some (.lst OL), some (.int P), some (.int Q), some bad, some RW, some (.loc (M.length + 2))]) (M' := M ++ [Ob.lst [V Y0, V (.lst rl)]] ++ [Ob.lst [V Y0, V (.lst rl), V Y2, V R4, .lst rows]] ++ [Ob.lst ML]) ?_ ?_
    · have g1 : (M ++ [Ob.lst [V Y0, V (.lst rl)]] ++ [Ob.lst [V Y0, V (.lst rl), V Y2, V R4, .lst rows]])[M.length + 1]? = some (.lst [V Y0, V (.lst rl), V Y2, V R4, .lst rows]) := by
        have : (M ++ [Ob.lst [V Y0, V (.lst rl)]]).length = M.length + 1 := by simp
        rw [← this]
        exact get_mid
      have gl1 : (M ++ [Ob.lst [V Y0, V (.lst rl)]] ++ [Ob.lst [V Y0, V (.lst rl), V Y2, V R4, .lst rows]]).length = M.length + 2 := by simp
      rw [← gl1]
      generalize M ++ [Ob.lst [V Y0, V (.lst rl)]] ++ [Ob.lst [V Y0, V (.lst rl), V Y2, V R4, .lst rows]] = M1 at *
      generalize M.length + 1 = L at *
      simp [seqS, ifS, retS, raiseF, raiseS, consA, nilA, binD, callD, nameD, cD, bindE_v, thenS_v, bindE_x, thenS_x, unD, parS, asgS, tupD, int2F, eq_int, ne_int, intF0, negF, notF, nilS, brD, fnD, addE, subE, ix0, ix1, dropS, asgG, tupG, consG, nameG, nilG, lstD, andD, orD, tstD, ownS, appS, len_tup, len_lst, tup_tup, wipeE, set1, set2, typ_int, typ_tup, typ_non, typ_lst, isF, chainD, asT, truD, len_row, typ_row, ownAddS, getW, getL, g1, slpD, someO, noneO, s3, a4, m1, t6, e1, e2, empD, ML]
    · have g1 : (M ++ [Ob.lst [V Y0, V (.lst rl)]] ++ [Ob.lst [V Y0, V (.lst rl), V Y2, V R4, .lst rows]] ++ [Ob.lst ML])[M.length + 2]? = some (.lst ML) := by
        have : (M ++ [Ob.lst [V Y0, V (.lst rl)]] ++ [Ob.lst [V Y0, V (.lst rl), V Y2, V R4, .lst rows]]).length = M.length + 2 := by simp
        rw [← this]
        exact get_mid
      have q : ixF (.loc (M.length + 2)) (.int W) (M ++ [Ob.lst [V Y0, V (.lst rl)]] ++ [Ob.lst [V Y0, V (.lst rl), V Y2, V R4, .lst rows]] ++ [Ob.lst ML]) = ok x (M ++ [Ob.lst [V Y0, V (.lst rl)]] ++ [Ob.lst [V Y0, V (.lst rl), V Y2, V R4, .lst rows]] ++ [Ob.lst ML]) := by
        rw [show W = ((W.toNat : Nat) : Int) by omega]
        exact ix_loc g1 (at_nat hx)
      refine wp_of (.rt x) (M' := M ++ [Ob.lst [V Y0, V (.lst rl)]] ++ [Ob.lst [V Y0, V (.lst rl), V Y2, V R4, .lst rows]] ++ [Ob.lst ML]) ?_ ⟨rfl, [.lst [V Y0, V (.lst rl)]] ++ [Ob.lst [V Y0, V (.lst rl), V Y2, V R4, .lst rows]] ++ [Ob.lst ML], by simp⟩
      generalize (M ++ [Ob.lst [V Y0, V (.lst rl)]] ++ [Ob.lst [V Y0, V (.lst rl), V Y2, V R4, .lst rows]] ++ [Ob.lst ML]) = M3 at *
      simp [seqS, ifS, retS, raiseF, raiseS, consA, nilA, binD, callD, nameD, cD, bindE_v, thenS_v, bindE_x, thenS_x, unD, parS, asgS, tupD, int2F, eq_int, ne_int, intF0, negF, notF, nilS, brD, fnD, addE, subE, ix0, ix1, dropS, asgG, tupG, consG, nameG, nilG, lstD, andD, orD, tstD, ownS, appS, len_tup, len_lst, tup_tup, wipeE, set1, set2, typ_int, typ_tup, typ_non, typ_lst, isF, chainD, asT, truD, len_row, typ_row, f6, f7, q]
  obtain ⟨f, M', h1, rfl, X, rfl⟩ := key
  exact fv_rt (e0 := [some G, some (.int N), none, none, none, none, none, none, none]) X rfl h1 am.2
end K62
namespace K62
open PySem L2 DL
theorem wp_mv {g : DenG} {di : DenI} {body b : DenS} {e : DL.Env} {M M1 : Store} {p : DItems} {P : Flw → Store → Prop} (h : di e M = ok p M1) (k : Wp (seqS (forI g (fun _ M => ok p M) body) b e M1) P) : Wp (seqS (forI g di body) b e M) P := by
  have e1 : seqS (forI g di body) b e M = seqS (forI g (fun _ M => ok p M) body) b e M1 := by
    unfold seqS forI
    rw [h]
    try rfl
  rw [e1]
  exact k
theorem enum_mv {n : Nat} {da : DenE} {e : DL.Env} {f : Nat → D} {M M1 : Store} (ha : da e M = ok (rowD n f) M1) : enumD (consA da nilA) e M = ok ((List.range n).map fun (i : Nat) => .tup [.int (i : Int), f i], fun _ => True) M1 := by
  have h2 := enum_rows (n := n) (f := f) (da := fun _ M => ok (rowD n f) M) (e := e) (M := M1) rfl
  have h1 : enumD (consA da nilA) e M = enumD (consA (fun _ M => ok (rowD n f) M) nilA) e M1 := by
    unfold enumD
    simp only [consA, nilA, ha, bindE_v]
  rw [h1, h2]
theorem gRow {s k : Nat} (hk : k < s) (f : Nat → Rat) (d : Rat) : (((List.range s).map fun j => qD (f j)).take k ++ [qD d]) ++ List.replicate (s - 1 - k) (qD 0) = (List.range s).map fun j => qD (if j < k then f j else if j = k then d else 0) := by
  have l1 : (((List.range s).map fun j => qD (f j)).take k).length = k := by simp; omega
  have l2 : (((List.range s).map fun j => qD (f j)).take k ++ [qD d]).length = k + 1 := by rw [List.length_append, l1]; rfl
  apply List.ext_getElem?
  intro i
  by_cases hi : i < s
  · rw [get_mapR hi]
    by_cases c1 : i < k
    · rw [List.getElem?_append_left (by omega), List.getElem?_append_left (by omega), List.getElem?_take, if_pos c1, get_mapR hi, if_pos c1]
    · rw [if_neg c1]
      by_cases c2 : i = k
      · rw [List.getElem?_append_left (by omega), List.getElem?_append_right (by omega), l1, c2, Nat.sub_self, if_pos rfl]
        rfl
      · rw [List.getElem?_append_right (by omega), l2, List.getElem?_replicate, if_pos (by omega), if_neg c2]
  · rw [List.getElem?_eq_none (by rw [List.length_append, l2, List.length_replicate]; omega), List.getElem?_eq_none (by simp; omega)]
theorem okW_q {k j : Nat} {r : Rat} (h1 : Bd k r.num) (hk : k < 1500) (h2 : Bd j (r.den : Int)) (hj : j < 1500) : okW (qD r) = true := by
  show (okW (.int r.num) && (okW (.int (r.den : Int)) && true)) = true
  rw [okW_int h1 hk, okW_int h2 hj]
  rfl
theorem eq_q {r : Rat} {n : Bool} {M : Store} (h : okW (qD r) = true) : eqvF n (qD r) (qD r) M = ok (.bl (n != true)) M := eqv_selfw h (show (1 : Nat) ≤ 60 by decide)
/-- a whole number's sign put to a fraction -/
theorem qsg {r : Rat} {s : Int} (hs : s = 1 ∨ s = -1) : qD ((s : Rat) * r) = .tup [.int (r.num * s), .int (r.den : Int)] := by
  rcases hs with z | z
  · subst z
    have e : ((1 : Int) : Rat) * r = r := by
      have : ((1 : Int) : Rat) = 1 := rfl
      rw [this, Rat.one_mul]
    rw [e, Int.mul_one]
  · subst z
    have e : ((-1 : Int) : Rat) * r = -r := by
      have : ((-1 : Int) : Rat) = -1 := rfl
      rw [this]
      grind
    rw [e, Int.mul_neg, Int.mul_one]
    rfl
theorem set_rows {s p q : Nat} {B : Mx} (hp : p < s) (hq : q < s) : (((List.range s).map fun i => rowD s fun j => qD (B i j)).set p (rowD s fun j => qD (B q j))).set q (rowD s fun j => qD (B p j)) = (List.range s).map fun i => rowD s fun j => qD (sw p q B i j) := by
  rw [map_set hp, map_set hq]
  refine List.map_congr_left fun i hi => ?_
  unfold sw
  by_cases c1 : i = q
  · rw [if_pos c1]
    by_cases c2 : i = p
    · exact row_ext fun j _ => by rw [if_pos c2, ← c1, ← c2]
    · exact row_ext fun j _ => by rw [if_neg c2, if_pos c1]
  · rw [if_neg c1]
    by_cases c2 : i = p
    · rw [if_pos c2]
      exact row_ext fun j _ => by rw [if_pos c2]
    · rw [if_neg c2]
      exact row_ext fun j _ => by rw [if_neg c2, if_neg c1]
theorem great_ok {ns : List Int} {k0 : Nat} {M : Store} (hM : M[0]? = some (.lst [.int (k0 : Int)])) (hk : k0 ≤ 4000) (hn : ns.length ≤ 63) : ∃ k1 : Nat, k1 ≤ k0 + 60 ∧ m__law_great_right [.scr ns, .loc 0] M = ok (.bl true) (M.set 0 (.lst [.int (k1 : Int)])) := by
  have lt0 : 0 < M.length := get_lt hM
  let B : Nat → Store := fun y => M.set 0 (.lst [.int ((k0 + y : Nat) : Int)])
  have lB : ∀ y, (B y).length = M.length := fun y => List.length_set
  have gB : ∀ y, (B y)[0]? = some (.lst [.int ((k0 + y : Nat) : Int)]) := fun y => List.getElem?_set_self lt0
  have sB : ∀ y z (X : Store), (B y ++ X).set 0 (.lst [.int ((k0 + z : Nat) : Int)]) = B z ++ X := fun y z X => by
    rw [List.set_append_left _ _ (by rw [lB]; exact lt0)]
    show (M.set 0 _).set 0 _ ++ X = _
    rw [List.set_set]
  obtain ⟨c, c0, c1, hc⟩ := cell_ok hM (by omega) hn
  obtain ⟨s, hs⟩ : ∃ s : Nat, s = 6 + (c % 2).toNat := ⟨_, rfl⟩
  have s6 : 6 ≤ s := by omega
  have s7 : s ≤ 7 := by omega
  obtain ⟨S, hS⟩ : ∃ i : Int, i = (s : Int) := ⟨_, rfl⟩
  have hSc : 6 + c % 2 = S := by omega
  obtain ⟨so, hso⟩ : ∃ i : Int, i = c / 2 % 3 := ⟨_, rfl⟩
  have f1 : ∀ M, fmodF (.int c) (.int 2) M = ok (.int (c % 2)) M := fun M => fmd (by decide)
  have f2 : ∀ M, fdivF (.int c) (.int 2) M = ok (.int (c / 2)) M := fun M => fdv (by decide) (by unfold Bd; decide)
  have f3 : ∀ M, fmodF (.int (c / 2)) (.int 3) M = ok (.int so) M := fun M => by rw [hso]; exact fmd (by decide)
  have f9 : ∀ M, fmodF (.int c) (.int 9) M = ok (.int (c % 9)) M := fun M => fmd (by decide)
  obtain ⟨c9, hc9⟩ : ∃ i : Int, i = c % 9 := ⟨_, rfl⟩
  rw [← hc9] at f9
  have ex := entries_ok (ns := ns) (k0 := k0 + 1) (s := s) (S := so) (M := B 1 ++ [.lst []]) (by
    rw [List.getElem?_append_left (by rw [lB]; exact lt0)]
    exact gB 1) (by
    have : s * s ≤ 7 * 7 := Nat.mul_le_mul s7 s7
    omega) hn (by omega) (by omega) (by omega)
  obtain ⟨E, hE, hen⟩ := ex
  rw [show k0 + 1 + s * s = k0 + (1 + s * s) by omega, sB] at hen
  have ss : s * s ≤ 49 := Nat.mul_le_mul s7 s7
  obtain ⟨y1, hy1⟩ : ∃ y, y = 1 + s * s := ⟨_, rfl⟩
  rw [← hy1] at hen
  rw [← hS] at hen
  let dq : Nat → Rat := fun k => Rat.divInt (1 + c9) (1 + (k : Int))
  have dve : ∀ k, k < 7 → VE 0 (dq k) := fun k hk => low_ve (by omega) (by omega) (by omega) (by omega)
  have dlo : ∀ (k : Nat) M, k < 7 → m__law_low [.int (1 + c9), .int (1 + (k : Int))] M = ok (qD (dq k)) M := fun k M hk => low_ok (k := 5) (by omega) (by unfold Bd; omega) (by decide) M
  let G0 : Mx := fun i j => if j < i then E i j else if j = i then dq i else 0
  have vG : VG s G0 := by
    refine ⟨fun r c hr hc => ?_, fun r c hr hc => ?_⟩
    · show (if c < r then E r c else if c = r then dq r else 0).den ∣ 420
      split
      · exact (hE r c hr hc).d
      · split
        · exact (dve r (by omega)).d
        · exact Nat.one_dvd _
    · show Bd 100 (if c < r then E r c else if c = r then dq r else 0).num
      split
      · exact (hE r c hr hc).b
      · split
        · exact (dve r (by omega)).b
        · show (0 : Int).natAbs < _
          decide
  let R0 : Nat → D := fun i => rowD s fun j => qD (G0 i j)
  let MG : Nat → Nat → Store := fun y k => B y ++ [.lst ((List.range k).map R0)]
  have key : Wp (den__law_great_right [some (.scr ns), some (.loc 0), none, none, none, none, none, none, none, none, none, none, none] M) (fun f M1 => f = .rt (.bl true) ∧ ∃ k1 : Nat, k1 ≤ k0 + 60 ∧ ∃ X, M1 = M.set 0 (.lst [.int (k1 : Int)]) ++ X) := by
    unfold den__law_great_right
    refine wp_nx (e' := [some (.scr ns), some (.loc 0), some (.int c), none, none, none, none, none, none, none, none, none, none]) (M' := B 1) (by simp [seqS, ifS, retS, raiseF, raiseS, consA, nilA, binD, callD, nameD, cD, bindE_v, thenS_v, bindE_x, thenS_x, unD, parS, asgS, tupD, int2F, eq_int, ne_int, intF0, negF, notF, nilS, brD, fnD, addE, subE, ix0, ix1, dropS, asgG, tupG, consG, nameG, nilG, lstD, andD, orD, tstD, ownS, appS, len_tup, len_lst, tup_tup, wipeE, set1, set2, typ_int, typ_tup, typ_non, typ_lst, isF, chainD, asT, truD, len_row, typ_row, hc, B]) ?_
    refine wp_nx (e' := [some (.scr ns), some (.loc 0), some (.int c), some (.int S), some (qD 1), some (.int 1), none, none, none, none, none, none, none]) (M' := B 1) (by
      show _ = some (Flw.nx [some (.scr ns), some (.loc 0), some (.int c), some (.int S), some (.tup [.int 1, .int 1]), some (.int 1), none, none, none, none, none, none, none], _)
      simp [seqS, ifS, retS, raiseF, raiseS, consA, nilA, binD, callD, nameD, cD, bindE_v, thenS_v, bindE_x, thenS_x, unD, parS, asgS, tupD, int2F, eq_int, ne_int, intF0, negF, notF, nilS, brD, fnD, addE, subE, ix0, ix1, dropS, asgG, tupG, consG, nameG, nilG, lstD, andD, orD, tstD, ownS, appS, len_tup, len_lst, tup_tup, wipeE, set1, set2, typ_int, typ_tup, typ_non, typ_lst, isF, chainD, asT, truD, len_row, typ_row, parS3, f1, addG_int, hSc]) ?_
    refine wp_nx (e' := [some (.scr ns), some (.loc 0), some (.int c), some (.int S), some (qD 1), some (.int 1), some (.loc M.length), none, none, none, none, none, none]) (M' := B 1 ++ [.lst []]) (by
      rw [← lB 1]
      generalize qD 1 = q1
      simp [seqS, ifS, retS, raiseF, raiseS, consA, nilA, binD, callD, nameD, cD, bindE_v, thenS_v, bindE_x, thenS_x, unD, parS, asgS, tupD, int2F, eq_int, ne_int, intF0, negF, notF, nilS, brD, fnD, addE, subE, ix0, ix1, dropS, asgG, tupG, consG, nameG, nilG, lstD, andD, orD, tstD, ownS, appS, len_tup, len_lst, tup_tup, wipeE, set1, set2, typ_int, typ_tup, typ_non, typ_lst, isF, chainD, asT, truD, len_row, typ_row]) ?_
    refine wp_mv (enum_mv (n := s) (f := fun i => rowD s fun j => qD (E i j)) (M1 := B y1 ++ [.lst []]) (by
      generalize qD 1 = q1
      have hen' : m__law_entries [.scr ns, .loc 0, .int S, .int so] (B 1 ++ [.lst []]) = ok (rowD s fun i => rowD s fun j => qD (E i j)) (B y1 ++ [.lst []]) := hen
      generalize (rowD s fun i => rowD s fun j => qD (E i j)) = GE at *
      generalize B 1 ++ [Ob.lst []] = Mx at *
      generalize B y1 ++ [Ob.lst []] = My at *
      simp [seqS, ifS, retS, raiseF, raiseS, consA, nilA, binD, callD, nameD, cD, bindE_v, thenS_v, bindE_x, thenS_x, unD, parS, asgS, tupD, int2F, eq_int, ne_int, intF0, negF, notF, nilS, brD, fnD, addE, subE, ix0, ix1, dropS, asgG, tupG, consG, nameG, nilG, lstD, andD, orD, tstD, ownS, appS, len_tup, len_lst, tup_tup, wipeE, set1, set2, typ_int, typ_tup, typ_non, typ_lst, isF, chainD, asT, truD, len_row, typ_row, f2, f3, hen'])) ?_
    refine wp_for_nx _ (fun k e M' => ∃ a7 a8, e = [some (.scr ns), some (.loc 0), some (.int c), some (.int S), some (qD (prodN k dq)), some (.int 1), some (.loc M.length), a7, a8, none, none, none, none] ∧ M' = MG y1 k ∧ (prodN k dq).den ∣ 420 ^ k ∧ Bd (100 * k + 1) (prodN k dq).num) rfl (fun k d e M' hd hi => ?_) (fun _ _ _ => trivial) ⟨_, _, rfl, rfl, Nat.one_dvd _, by show (1 : Int).natAbs < _; decide⟩ (fun e' M' hi => ?_)
    · obtain ⟨a7, a8, rfl, rfl, dP, bP⟩ := hi
      obtain ⟨hk', rfl⟩ := map_getR hd
      have hk7 : k < 7 := by omega
      obtain ⟨K, hK⟩ : ∃ i : Int, i = (k : Int) := ⟨_, rfl⟩
      have lo := fun M => dlo k M hk7
      rw [← hK] at lo ⊢
      obtain ⟨RL, hRL⟩ : ∃ l, l = (List.range s).map fun j => qD (E k j) := ⟨_, rfl⟩
      have lRL : RL.length = s := by rw [hRL]; simp
      show True ∧ ∃ e1 M1, tupG 2 (consG (nameG 7) (consG (nameG 8) nilG)) (.tup [.int K, .tup ((List.range s).map fun j => qD (E k j))]) _ _ = _ ∧ _
      rw [← hRL]
      have t1 : ∀ M, slpF (.tup RL) none (some K) none M = ok (.tup (RL.take k)) M := fun M => by rw [hK]; exact slp_take (by omega)
      have t2 : ∀ M, mulTGF (.tup [.tup [.int 0, .int 1]]) (.int (S - 1 - K)) M = ok (.tup (List.replicate (s - 1 - k) (qD 0))) M := fun M => by
        rw [show S - 1 - K = ((s - 1 - k : Nat) : Int) by omega]
        exact mulTG_rep (by omega)
      have t3 : ∀ M, addGF (.tup (RL.take k)) (.tup [qD (dq k)]) M = ok (.tup (RL.take k ++ [qD (dq k)])) M := fun M => addG_tup (by simp; omega)
      have t4 : ∀ M, addGF (.tup (RL.take k ++ [qD (dq k)])) (.tup (List.replicate (s - 1 - k) (qD 0))) M = ok (R0 k) M := fun M => by
        rw [addG_tup (by simp; omega), hRL, gRow hk' (E k) (dq k)]
        rfl
      have g1 : (MG y1 k)[M.length]? = some (.lst ((List.range k).map R0)) := by
        rw [← lB y1]
        exact get_mid
      have g2 : (MG y1 (k + 1))[M.length]? = some (.lst ((List.range (k + 1)).map R0)) := by
        rw [← lB y1]
        exact get_mid
      have i1 : ixF (.loc M.length) (.int K) (MG y1 (k + 1)) = ok (R0 k) (MG y1 (k + 1)) := by
        rw [hK]
        exact ix_loc g2 (at_nat (get_mapR (Nat.lt_succ_self k)))
      have i2 : ∀ M, ixF (R0 k) (.int K) M = ok (qD (dq k)) M := fun M => by
        rw [ix_rowI hK hk']
        show ok (qD (if k < k then E k k else if k = k then dq k else 0)) M = _
        rw [if_neg (Nat.lt_irrefl k), if_pos rfl]
      have tm := times_ok bP (dve k hk7).b ((den_bd (by omega) dP).mono (by decide)) (show Bd 4000 ((dq k).den : Int) from Nat.lt_of_le_of_lt (Nat.le_of_dvd (by decide) (dve k hk7).d) (by decide)) (by omega)
      have dm := den_mul dP (dve k hk7).d
      have bm := bd_mulN bP (dve k hk7).b
      rw [← Nat.pow_succ] at dm
      have hpp : prodN k dq * dq k = prodN (k + 1) dq := rfl
      rw [hpp] at tm dm bm
      have mset : (MG y1 k).set M.length (.lst ((List.range k).map R0 ++ [R0 k])) = MG y1 (k + 1) := by
        show (B y1 ++ [Ob.lst _]).set M.length _ = B y1 ++ [Ob.lst _]
        rw [← lB y1, set_mid, range_snoc]
      obtain ⟨P1, hP1⟩ : ∃ x, x = qD (prodN k dq) := ⟨_, rfl⟩
      obtain ⟨P2, hP2⟩ : ∃ x, x = qD (prodN (k + 1) dq) := ⟨_, rfl⟩
      rw [← hP1, ← hP2] at tm
      rw [← hP1]
      generalize qD (dq k) = dd at *
      generalize MG y1 (k + 1) = Mb at *
      generalize MG y1 k = Ma at *
      generalize R0 k = rk at *
      generalize M.length = L at *
      refine ⟨trivial, [some (.scr ns), some (.loc 0), some (.int c), some (.int S), some P1, some (.int 1), some (.loc L), some (.int K), some (.tup RL), none, none, none, none], Ma, by simp [seqS, ifS, retS, raiseF, raiseS, consA, nilA, binD, callD, nameD, cD, bindE_v, thenS_v, bindE_x, thenS_x, unD, parS, asgS, tupD, int2F, eq_int, ne_int, intF0, negF, notF, nilS, brD, fnD, addE, subE, ix0, ix1, dropS, asgG, tupG, consG, nameG, nilG, lstD, andD, orD, tstD, ownS, appS, len_tup, len_lst, tup_tup, wipeE, set1, set2, typ_int, typ_tup, typ_non, typ_lst, isF, chainD, asT, truD, len_row, typ_row], ?_⟩
      have st := app_ok (dob := nameD 6) (da := (binD addGF (binD addGF (slpD (nameD 8) (noneO) (someO (nameD 7)) (noneO)) (tupD (consA (fnD m__law_low 2 [] (consA (binD addGF (cD (.int 1)) (binD fmodF (nameD 2) (cD (.int 9)))) (consA (binD addGF (cD (.int 1)) (nameD 7)) (nilA)))) (nilA)))) (binD mulTGF (tupD (consA (tupD (consA (cD (.int 0)) (consA (cD (.int 1)) (nilA)))) (nilA))) (binD subF (binD subF (nameD 3) (cD (.int 1))) (nameD 7))))) (e := [some (.scr ns), some (.loc 0), some (.int c), some (.int S), some P1, some (.int 1), some (.loc L), some (.int K), some (.tup RL), none, none, none, none]) (M := Ma) (n := L) (ds := (List.range k).map R0) (d := rk) (M1 := Ma) rfl (by
        generalize RL.take k ++ [dd] = q1 at *
        generalize RL.take k = q2 at *
        generalize List.replicate (s - 1 - k) (qD 0) = q3 at *
        simp [seqS, ifS, retS, raiseF, raiseS, consA, nilA, binD, callD, nameD, cD, bindE_v, thenS_v, bindE_x, thenS_x, unD, parS, asgS, tupD, int2F, eq_int, ne_int, intF0, negF, notF, nilS, brD, fnD, addE, subE, ix0, ix1, dropS, asgG, tupG, consG, nameG, nilG, lstD, andD, orD, tstD, ownS, appS, len_tup, len_lst, tup_tup, wipeE, set1, set2, typ_int, typ_tup, typ_non, typ_lst, isF, chainD, asT, truD, len_row, typ_row, slpD, someO, noneO, t1, f9, addG_int, lo, t2, t3, t4]) g1 (by simp; omega)
      rw [mset] at st
      refine wp_nx st ?_
      exact wp_of (M' := Mb) (.nx [some (.scr ns), some (.loc 0), some (.int c), some (.int S), some P2, some (.int 1), some (.loc L), some (.int K), some (.tup RL), none, none, none, none]) (by simp [seqS, ifS, retS, raiseF, raiseS, consA, nilA, binD, callD, nameD, cD, bindE_v, thenS_v, bindE_x, thenS_x, unD, parS, asgS, tupD, int2F, eq_int, ne_int, intF0, negF, notF, nilS, brD, fnD, addE, subE, ix0, ix1, dropS, asgG, tupG, consG, nameG, nilG, lstD, andD, orD, tstD, ownS, appS, len_tup, len_lst, tup_tup, wipeE, set1, set2, typ_int, typ_tup, typ_non, typ_lst, isF, chainD, asT, truD, len_row, typ_row, i1, i2, tm]) ⟨_, .inl rfl, _, _, by rw [hP2], rfl, dm, bm.mono (by omega)⟩
    · obtain ⟨a7, a8, rfl, rfl, dP, bP⟩ := hi
      rw [List.length_map, List.length_range] at dP bP ⊢
      have dG : det s G0 = prodN s dq := by
        rw [det_lower fun r c hr hc h => by
          show (if c < r then E r c else if c = r then dq r else 0) = 0
          rw [if_neg (by omega), if_neg (by omega)]]
        have : ∀ n, prodN n (fun i => G0 i i) = prodN n dq := fun n => by
          induction n with
          | zero => rfl
          | succ n ih =>
            show prodN n (fun i => G0 i i) * G0 n n = prodN n dq * dq n
            rw [ih]
            show _ * (if n < n then E n n else if n = n then dq n else 0) = _
            rw [if_neg (Nat.lt_irrefl n), if_pos rfl]
        exact this s
      obtain ⟨LI, hLI⟩ : ∃ x, x = prodN s dq := ⟨_, rfl⟩
      rw [← hLI] at dP bP dG ⊢
      obtain ⟨LD, hLD⟩ : ∃ x, x = qD LI := ⟨_, rfl⟩
      rw [← hLD]
      let MB : Nat → Mx → Store := fun y Bm => B y ++ [.lst ((List.range s).map fun i => rowD s fun j => qD (Bm i j))]
      refine wp_for_nx ((List.range s).map fun (j : Nat) => D.int (j : Int)) (fun j e M' => ∃ (N sg : Int) (Bm : Mx) (a7 a8 a9 a10 a11 a12 : Option D), e = [some (.scr ns), some (.loc 0), some (.int N), some (.int S), some LD, some (.int sg), some (.loc M.length), a7, a8, a9, a10, a11, a12] ∧ M' = MB (y1 + j) Bm ∧ 0 ≤ N ∧ (sg = 1 ∨ sg = -1) ∧ det s Bm = (sg : Rat) * LI ∧ VG s Bm) (it_r1 (by show ok (D.int S) _ = _; rw [hS]) (by omega)) (fun j d e M' hd hi => ?_) (fun _ _ _ => trivial) ⟨c, 1, G0, _, _, _, _, _, _, rfl, rfl, c0, .inl rfl, by
          rw [dG]
          have : ((1 : Int) : Rat) = 1 := rfl
          rw [this, Rat.one_mul], vG⟩ (fun e' M' hi => ?_)
      · obtain ⟨N, sg, Bm, a7, a8, a9, a10, a11, a12, rfl, rfl, N0, sg1, hdet, vB⟩ := hi
        obtain ⟨hj, rfl⟩ := map_getR hd
        obtain ⟨J, hJ⟩ : ∃ i : Int, i = (j : Int) := ⟨_, rfl⟩
        rw [← hJ]
        obtain ⟨x, x0, x1, hx⟩ := cell_ok (ns := ns) (k0 := k0 + (y1 + j)) (M := MB (y1 + j) Bm) (by
          show (B (y1 + j) ++ _)[0]? = _
          rw [List.getElem?_append_left (by rw [lB]; exact lt0)]
          exact gB _) (by omega) hn
        have hx2 : (MB (y1 + j) Bm).set 0 (.lst [.int ((k0 + (y1 + j) + 1 : Nat) : Int)]) = MB (y1 + (j + 1)) Bm := by
          rw [show k0 + (y1 + j) + 1 = k0 + (y1 + (j + 1)) by omega]
          exact sB _ _ _
        rw [hx2] at hx
        obtain ⟨P, hP⟩ : ∃ i : Int, i = N / 6 % S := ⟨_, rfl⟩
        obtain ⟨Q, hQ⟩ : ∃ i : Int, i = x % S := ⟨_, rfl⟩
        have P0 : 0 ≤ P := by rw [hP]; exact Int.emod_nonneg _ (by omega)
        have P1 : P < S := by rw [hP]; exact Int.emod_lt_of_pos _ (by omega)
        have Q0 : 0 ≤ Q := by rw [hQ]; exact Int.emod_nonneg _ (by omega)
        have Q1 : Q < S := by rw [hQ]; exact Int.emod_lt_of_pos _ (by omega)
        obtain ⟨p, hp⟩ : ∃ p : Nat, P = (p : Int) := ⟨P.toNat, by omega⟩
        obtain ⟨q, hq⟩ : ∃ p : Nat, Q = (p : Int) := ⟨Q.toNat, by omega⟩
        have lp : p < s := by omega
        have lq : q < s := by omega
        have h1 : ∀ M, fdivF (.int N) (.int 6) M = ok (.int (N / 6)) M := fun M => fdv (by decide) (by unfold Bd; decide)
        have h2 : ∀ M, fmodF (.int (N / 6)) (.int S) M = ok (.int P) M := fun M => by rw [hP]; exact fmd (by omega)
        have h3 : ∀ M, fmodF (.int x) (.int S) M = ok (.int Q) M := fun M => by rw [hQ]; exact fmd (by omega)
        have N6 : 0 ≤ N / 6 := Int.ediv_nonneg N0 (by decide)
        obtain ⟨N2, hN2⟩ : ∃ i : Int, i = N / 6 := ⟨_, rfl⟩
        rw [← hN2] at h1 h2 N6
        obtain ⟨sg2, hsg2⟩ : ∃ i : Int, i = if P = Q then sg else 0 - sg := ⟨_, rfl⟩
        let rw' : Nat → D := fun i => rowD s fun j => qD (Bm i j)
        have g0 : (MB (y1 + (j + 1)) Bm)[M.length]? = some (.lst ((List.range s).map rw')) := by
          rw [← lB (y1 + (j + 1))]
          exact get_mid
        have i1 : ixF (.loc M.length) (.int P) (MB (y1 + (j + 1)) Bm) = ok (rw' p) (MB (y1 + (j + 1)) Bm) := by rw [hp]; exact ix_loc g0 (at_nat (get_mapR lp))
        have i2 : ixF (.loc M.length) (.int Q) (MB (y1 + (j + 1)) Bm) = ok (rw' q) (MB (y1 + (j + 1)) Bm) := by rw [hq]; exact ix_loc g0 (at_nat (get_mapR lq))
        obtain ⟨Mc, hMc⟩ : ∃ x, x = (MB (y1 + (j + 1)) Bm).set M.length (.lst (((List.range s).map rw').set p (rw' q))) := ⟨_, rfl⟩
        have lt2 : M.length < (MB (y1 + (j + 1)) Bm).length := get_lt g0
        have gc : Mc[M.length]? = some (.lst (((List.range s).map rw').set p (rw' q))) := by rw [hMc]; exact List.getElem?_set_self lt2
        have hMd : Mc.set M.length (.lst ((((List.range s).map rw').set p (rw' q)).set q (rw' p))) = MB (y1 + (j + 1)) (sw p q Bm) := by
          rw [hMc, List.set_set, set_rows lp lq]
          show (B _ ++ [Ob.lst _]).set M.length _ = _
          rw [← lB (y1 + (j + 1)), set_mid]
        let Ev : Option D → Option D → Option D → Option D → Option D → Option D → Option D → Option D → DL.Env := fun n2 s5 a7 a8 a9 a10 a11 a12 => [some (.scr ns), some (.loc 0), n2, some (.int S), some LD, s5, some (.loc M.length), a7, a8, a9, a10, a11, a12]
        have u1 := subG_at (e := Ev (some (.int (N2 + J))) (some (.int sg2)) (some (.int J)) a8 (some (.int P)) (some (.int Q)) (some (rw' p)) (some (rw' q))) (M := MB (y1 + (j + 1)) Bm) (dob := nameD 6) (di := nameD 9) (d := rw' q) rfl rfl hp g0 (by simp; omega)
        have u2 := subG_at (e := Ev (some (.int (N2 + J))) (some (.int sg2)) (some (.int J)) a8 (some (.int P)) (some (.int Q)) (some (rw' p)) (some (rw' q))) (M := Mc) (dob := nameD 6) (di := nameD 10) (d := rw' p) rfl rfl hq gc (by simp; omega)
        rw [← hMc] at u1
        rw [hMd] at u2
        refine ⟨trivial, Ev (some (.int N)) (some (.int sg)) (some (.int J)) a8 a9 a10 a11 a12, MB (y1 + j) Bm, by simp [seqS, ifS, retS, raiseF, raiseS, consA, nilA, binD, callD, nameD, cD, bindE_v, thenS_v, bindE_x, thenS_x, unD, parS, asgS, tupD, int2F, eq_int, ne_int, intF0, negF, notF, nilS, brD, fnD, addE, subE, ix0, ix1, dropS, asgG, tupG, consG, nameG, nilG, lstD, andD, orD, tstD, ownS, appS, len_tup, len_lst, tup_tup, wipeE, set1, set2, typ_int, typ_tup, typ_non, typ_lst, isF, chainD, asT, truD, len_row, typ_row, Ev], ?_⟩
        refine wp_nx (e' := Ev (some (.int N)) (some (.int sg)) (some (.int J)) a8 (some (.int P)) (some (.int Q)) a11 a12) (M' := MB (y1 + (j + 1)) Bm) (by
          generalize MB (y1 + j) Bm = Ma at *
          generalize MB (y1 + (j + 1)) Bm = Mb at *
          generalize M.length = L at *
          simp [seqS, ifS, retS, raiseF, raiseS, consA, nilA, binD, callD, nameD, cD, bindE_v, thenS_v, bindE_x, thenS_x, unD, parS, asgS, tupD, int2F, eq_int, ne_int, intF0, negF, notF, nilS, brD, fnD, addE, subE, ix0, ix1, dropS, asgG, tupG, consG, nameG, nilG, lstD, andD, orD, tstD, ownS, appS, len_tup, len_lst, tup_tup, wipeE, set1, set2, typ_int, typ_tup, typ_non, typ_lst, isF, chainD, asT, truD, len_row, typ_row, Ev, h1, h2, h3, hx]) ?_
        refine wp_nx (e' := Ev (some (.int (N2 + J))) (some (.int sg)) (some (.int J)) a8 (some (.int P)) (some (.int Q)) a11 a12) (M' := MB (y1 + (j + 1)) Bm) (by simp [seqS, ifS, retS, raiseF, raiseS, consA, nilA, binD, callD, nameD, cD, bindE_v, thenS_v, bindE_x, thenS_x, unD, parS, asgS, tupD, int2F, eq_int, ne_int, intF0, negF, notF, nilS, brD, fnD, addE, subE, ix0, ix1, dropS, asgG, tupG, consG, nameG, nilG, lstD, andD, orD, tstD, ownS, appS, len_tup, len_lst, tup_tup, wipeE, set1, set2, typ_int, typ_tup, typ_non, typ_lst, isF, chainD, asT, truD, len_row, typ_row, Ev, h1, addG_int]) ?_
        refine wp_nx (e' := Ev (some (.int (N2 + J))) (some (.int sg2)) (some (.int J)) a8 (some (.int P)) (some (.int Q)) a11 a12) (M' := MB (y1 + (j + 1)) Bm) (by
          by_cases cc : P = Q
          · rw [hsg2, if_pos cc]
            have ceq : ∀ M, eqGF (.int P) (.int Q) M = ok (.bl true) M := fun M => by rw [eqG_int, decide_eq_true cc]
            simp [seqS, ifS, retS, raiseF, raiseS, consA, nilA, binD, callD, nameD, cD, bindE_v, thenS_v, bindE_x, thenS_x, unD, parS, asgS, tupD, int2F, eq_int, ne_int, intF0, negF, notF, nilS, brD, fnD, addE, subE, ix0, ix1, dropS, asgG, tupG, consG, nameG, nilG, lstD, andD, orD, tstD, ownS, appS, len_tup, len_lst, tup_tup, wipeE, set1, set2, typ_int, typ_tup, typ_non, typ_lst, isF, chainD, asT, truD, len_row, typ_row, Ev, ceq]
          · rw [hsg2, if_neg cc]
            simp [seqS, ifS, retS, raiseF, raiseS, consA, nilA, binD, callD, nameD, cD, bindE_v, thenS_v, bindE_x, thenS_x, unD, parS, asgS, tupD, int2F, eq_int, ne_int, intF0, negF, notF, nilS, brD, fnD, addE, subE, ix0, ix1, dropS, asgG, tupG, consG, nameG, nilG, lstD, andD, orD, tstD, ownS, appS, len_tup, len_lst, tup_tup, wipeE, set1, set2, typ_int, typ_tup, typ_non, typ_lst, isF, chainD, asT, truD, len_row, typ_row, Ev, eqG_int, cc]) ?_
        refine wp_nx (e' := Ev (some (.int (N2 + J))) (some (.int sg2)) (some (.int J)) a8 (some (.int P)) (some (.int Q)) (some (rw' p)) (some (rw' q))) (M' := MB (y1 + (j + 1)) Bm) (by
          simp [seqS, ifS, retS, raiseF, raiseS, consA, nilA, binD, callD, nameD, cD, bindE_v, thenS_v, bindE_x, thenS_x, unD, parS, asgS, tupD, int2F, eq_int, ne_int, intF0, negF, notF, nilS, brD, fnD, addE, subE, ix0, ix1, dropS, asgG, tupG, consG, nameG, nilG, lstD, andD, orD, tstD, ownS, appS, len_tup, len_lst, tup_tup, wipeE, set1, set2, typ_int, typ_tup, typ_non, typ_lst, isF, chainD, asT, truD, len_row, typ_row, Ev, i1, i2]) ?_
        refine wp_nx (e' := Ev (some (.int (N2 + J))) (some (.int sg2)) (some (.int J)) a8 (some (.int P)) (some (.int Q)) (some (rw' p)) (some (rw' q))) (M' := Mc) u1 ?_
        refine wp_of (M' := MB (y1 + (j + 1)) (sw p q Bm)) (.nx (Ev (some (.int (N2 + J))) (some (.int sg2)) (some (.int J)) a8 (some (.int P)) (some (.int Q)) (some (rw' p)) (some (rw' q)))) u2 ⟨_, .inl rfl, _, sg2, sw p q Bm, _, _, _, _, _, _, rfl, rfl, by omega, ?_, ?_, ?_⟩
        · rw [hsg2]
          split <;> omega
        · rw [hsg2]
          by_cases cc : P = Q
          · rw [if_pos cc, ← hdet]
            have pq : p = q := by omega
            exact det_congr fun r c hr hc => by
              unfold sw
              by_cases c1 : r = p
              · rw [if_pos c1, c1, pq]
              · rw [if_neg c1, if_neg (by omega)]
          · rw [if_neg cc, det_swap lp lq (by omega), hdet]
            have : ((0 - sg : Int) : Rat) = - (sg : Rat) := by rw [Int.zero_sub, Rat.intCast_neg]
            rw [this]
            grind
        · refine ⟨fun r c hr hc => ?_, fun r c hr hc => ?_⟩
          · unfold sw
            split
            · exact vB.d _ _ lq hc
            · split
              · exact vB.d _ _ lp hc
              · exact vB.d _ _ hr hc
          · unfold sw
            split
            · exact vB.b _ _ lq hc
            · split
              · exact vB.b _ _ lp hc
              · exact vB.b _ _ hr hc
      · obtain ⟨N, sg, Bm, a7, a8, a9, a10, a11, a12, rfl, rfl, N0, sg1, hdet, vB⟩ := hi
        (rw [List.length_map, List.length_range])
        have mo := fun M => minor_ok (M := M) vB s7
        rw [hdet, qsg sg1] at mo
        have l0 : ∀ M, ixF LD (.int 0) M = ok (.int LI.num) M := fun M => by rw [hLD]; exact qD_ix0
        have l1 : ∀ M, ixF LD (.int 1) M = ok (.int (LI.den : Int)) M := fun M => by rw [hLD]; exact qD_ix1
        have mm : ∀ M, mulTGF (.int LI.num) (.int sg) M = ok (.int (LI.num * sg)) M := fun M => mulB bP (show Bd 1 sg by unfold Bd; omega) (by omega)
        have okq : okW (.tup [.int (LI.num * sg), .int (LI.den : Int)]) = true := by
          rw [← qsg sg1]
          refine okW_q (k := 702) (j := 63) ?_ (by decide) ?_ (by decide)
          · rcases sg1 with z | z
            · rw [z]
              have : ((1 : Int) : Rat) = 1 := rfl
              rw [this, Rat.one_mul]
              exact bP.mono (by omega)
            · rw [z]
              have e : ((-1 : Int) : Rat) * LI = -LI := by
                have : ((-1 : Int) : Rat) = -1 := rfl
                rw [this]
                grind
              rw [e]
              show (-LI.num).natAbs < _
              rw [Int.natAbs_neg]
              exact bP.mono (by omega)
          · rcases sg1 with z | z
            · rw [z]
              have : ((1 : Int) : Rat) = 1 := rfl
              rw [this, Rat.one_mul]
              exact den_bd s7 dP
            · rw [z]
              have e : ((-1 : Int) : Rat) * LI = -LI := by
                have : ((-1 : Int) : Rat) = -1 := rfl
                rw [this]
                grind
              rw [e]
              exact den_bd s7 dP
        have eqq : ∀ M, eqGF (.tup [.int (LI.num * sg), .int (LI.den : Int)]) (.tup [.int (LI.num * sg), .int (LI.den : Int)]) M = ok (.bl true) M := fun M => eqv_selfw (n := false) okq (show (1 : Nat) ≤ 60 by decide)
        have g0 : (MB (y1 + s) Bm)[M.length]? = some (.lst ((List.range s).map fun i => rowD s fun j => qD (Bm i j))) := by
          rw [← lB (y1 + s)]
          exact get_mid
        have tl : tupcF [.loc M.length] (MB (y1 + s) Bm) = ok (gridD s Bm) (MB (y1 + s) Bm) := tup_loc g0 (by simp; omega)
        refine wp_of (M' := MB (y1 + s) Bm) (.rt (.bl true)) ?_ ⟨rfl, k0 + (y1 + s), by omega, [.lst ((List.range s).map fun i => rowD s fun j => qD (Bm i j))], rfl⟩
        generalize MB (y1 + s) Bm = Mz at *
        generalize gridD s Bm = GB at *
        generalize LI.num * sg = nn at *
        generalize LI.num = ln at *
        generalize (LI.den : Int) = ld at *
        generalize M.length = L at *
        simp [seqS, ifS, retS, raiseF, raiseS, consA, nilA, binD, callD, nameD, cD, bindE_v, thenS_v, bindE_x, thenS_x, unD, parS, asgS, tupD, int2F, eq_int, ne_int, intF0, negF, notF, nilS, brD, fnD, addE, subE, ix0, ix1, dropS, asgG, tupG, consG, nameG, nilG, lstD, andD, orD, tstD, ownS, appS, len_tup, len_lst, tup_tup, wipeE, set1, set2, typ_int, typ_tup, typ_non, typ_lst, isF, chainD, asT, truD, len_row, typ_row, tl, mo, l0, l1, mm, eqq]
  obtain ⟨f, M1, h1, rfl, k1, hk1, X, rfl⟩ := key
  exact ⟨k1, hk1, fv_rt2 (e0 := [some (.scr ns), some (.loc 0), none, none, none, none, none, none, none, none, none, none, none]) X rfl h1 List.length_set (set_ok rfl) rfl⟩
end K62
namespace K62
open PySem L2 DL
theorem sum_bd {m K : Nat} {f : Nat → Rat} (h : ∀ i, i < m → ∃ z : Int, f i = z ∧ z.natAbs ≤ K) : ∃ z : Int, sumN m f = z ∧ z.natAbs ≤ m * K := by
  induction m with
  | zero => exact ⟨0, rfl, by simp⟩
  | succ m ih =>
    obtain ⟨a, h1, h2⟩ := ih fun i hi => h i (by omega)
    obtain ⟨b, h3, h4⟩ := h m (by omega)
    refine ⟨a + b, ?_, ?_⟩
    · show sumN m f + f m = _
      rw [h1, h3, Rat.intCast_add]
    · rw [Nat.succ_mul]
      have := Int.natAbs_add_le a b
      omega
theorem det_bdI {b : Nat} : ∀ {n : Nat} {A : Mx}, (∀ r c, ∃ z : Int, A r c = z ∧ (z.natAbs ≤ 2 ^ b)) → ∃ z : Int, det n A = z ∧ z.natAbs ≤ fct n * 2 ^ (b * n)
  | 0, _, _ => ⟨1, rfl, by show (1 : Nat) ≤ 1 * 2 ^ (b * 0); rw [Nat.mul_zero]; decide⟩
  | n + 1, A, h => by
    have : ∃ z : Int, sumN (n + 1) (fun i => sgn (n - i) * A i n * det n (rm i A)) = z ∧ z.natAbs ≤ (n + 1) * (2 ^ b * (fct n * 2 ^ (b * n))) := by
      refine sum_bd fun i hi => ?_
      obtain ⟨d, d1, d2⟩ := det_bdI (n := n) (A := rm i A) fun r c => by
        unfold rm
        split
        · exact h _ _
        · exact h _ _
      obtain ⟨a, a1, a2⟩ := h i n
      have sg : ∃ s : Int, sgn (n - i) = s ∧ (s = 1 ∨ s = -1) := by
        unfold sgn
        split
        · exact ⟨1, rfl, .inl rfl⟩
        · exact ⟨-1, rfl, .inr rfl⟩
      obtain ⟨s, s1, s2⟩ := sg
      refine ⟨s * a * d, by rw [s1, a1, d1, Rat.intCast_mul, Rat.intCast_mul], ?_⟩
      rw [Int.natAbs_mul, Int.natAbs_mul]
      have : s.natAbs = 1 := by rcases s2 with z | z <;> rw [z] <;> rfl
      rw [this, Nat.one_mul]
      exact Nat.mul_le_mul a2 d2
    obtain ⟨z, h1, h2⟩ := this
    refine ⟨z, h1, Nat.le_trans h2 (Nat.le_of_eq ?_)⟩
    show (n + 1) * (2 ^ b * (fct n * 2 ^ (b * n))) = fct n * (n + 1) * 2 ^ (b * (n + 1))
    have e : 2 ^ (b * (n + 1)) = 2 ^ (b * n) * 2 ^ b := by rw [← Nat.pow_add]; rfl
    rw [e]
    generalize 2 ^ (b * n) = x
    generalize 2 ^ b = y
    generalize fct n = w
    generalize n + 1 = m
    simp only [Nat.mul_comm, Nat.mul_left_comm]
theorem det_bd {n : Nat} {A : Mx} (v : VG n A) (hn : n ≤ 7) : Bd 800 (det n A).num ∧ Bd 64 ((det n A).den : Int) := by
  have dl := dv_lt v n (Nat.le_refl _)
  obtain ⟨z, h1, h2⟩ := det_bdI (b := 110) (n := n) (A := fun r c => if r < n ∧ c < n then ((wI n (A r) c : Int) : Rat) else 0) fun r c => by
    by_cases q : r < n ∧ c < n
    · exact ⟨wI n (A r) c, if_pos q, Nat.le_of_lt (w_bd v q.1 q.2)⟩
    · exact ⟨0, if_neg q, by simp⟩
  have e : det n (fun r c => if r < n ∧ c < n then ((wI n (A r) c : Int) : Rat) else 0) = det n (cst fun r c => wI n (A r) c) := det_congr fun r c hr hc => if_pos ⟨hr, hc⟩
  rw [e, det_w] at h1
  have f7 : ∀ n, n < 8 → fct n ≤ 5040 := by decide
  have zb : Bd 800 z := by
    refine Nat.lt_of_le_of_lt h2 ?_
    have p1 : 2 ^ (110 * n) ≤ 2 ^ 770 := Nat.pow_le_pow_right (by decide) (by omega)
    exact Nat.lt_of_le_of_lt (Nat.mul_le_mul (f7 n (by omega)) p1) (by decide)
  have D0 : 0 < dvN n A n := dl.1
  have K0 : ((dvN n A n : Nat) : Rat) ≠ 0 := fun q => by
    have : dvN n A n = 0 := by exact_mod_cast q
    omega
  have e2 : det n A = Rat.divInt z ((dvN n A n : Nat) : Int) := by
    have e : (((dvN n A n : Nat) : Int) : Rat) = ((dvN n A n : Nat) : Rat) := rfl
    rw [Rat.divInt_eq_div, ← h1, Rat.div_def, e]
    have i1 := Rat.mul_inv_cancel _ K0
    grind
  refine ⟨by rw [e2]; exact dn_bd zb, ?_⟩
  have dd := (den_iff (a := det n A) D0).mpr ⟨z, by rw [← h1]; grind⟩
  have := Nat.le_of_dvd D0 dd
  have p2 : 2 ^ (9 * n + 1) ≤ 2 ^ 64 := Nat.pow_le_pow_right (by decide) (by omega)
  show (det n A).den < _
  omega
theorem okW_det {n : Nat} {A : Mx} (v : VG n A) (hn : n ≤ 7) : okW (qD (det n A)) = true := okW_q (det_bd v hn).1 (by decide) (det_bd v hn).2 (by decide)
theorem okW_grid {n : Nat} {A : Mx} (v : VG n A) : okW (gridD n A) = true := okW_row fun r hr => okW_row fun c hc => okW_q (v.b r c hr hc) (by decide) (show Bd 9 ((A r c).den : Int) from Nat.lt_of_le_of_lt (Nat.le_of_dvd (by decide) (v.d r c hr hc)) (by decide)) (by decide)
theorem sz_q {r : Rat} : szD' (qD r) = 2 := rfl
theorem sz_grid {n : Nat} {A : Mx} (hn : n ≤ 7) : szD' (gridD n A) ≤ 6000 := by
  have h1 : szD' (gridD n A) ≤ n * (n * 3 + 1) := sz_rowN fun _ _ => sz_rowN fun _ _ => Nat.le_of_eq sz_q
  have h2 : n * (n * 3 + 1) ≤ 7 * (7 * 3 + 1) := Nat.mul_le_mul hn (by omega)
  omega
theorem dp_grid {n : Nat} {A : Mx} : dpD (gridD n A) ≤ 60 := Nat.le_trans (dp_rowN (k := 2) fun _ _ => dp_rowN (k := 1) fun _ _ => Nat.le_refl 1) (by decide)
theorem repr_grid {n : Nat} {A : Mx} (v : VG n A) (hn : n ≤ 7) (M : Store) : reprGF [gridD n A] M = ok (.str (rpr (gridD n A))) M := reprG_w (okW_grid v) (sz_grid hn) dp_grid
theorem repr_two {r : Rat} (h : okW (qD r) = true) (M : Store) : reprGF [.lst [qD r, qD r]] M = ok (.str (rpr (.lst [qD r, qD r]))) M := reprG_w (by
  show (okW (qD r) && (okW (qD r) && true)) = true
  rw [h]
  rfl) (by
  show 2 + 1 + (2 + 1 + 0) ≤ 6000
  decide) (by
  show (2 : Nat) ≤ 60
  decide)
theorem ne_q {r : Rat} {M : Store} (h : okW (qD r) = true) : neGF (qD r) (qD r) M = ok (.bl false) M := eq_q (n := true) h
theorem repr_one (M : Store) : reprGF [.tup [.int 1, .int 1]] M = ok (.str "(1, 1)") M := by
  have e : (PyData.tuple [.int 1, .int 1]).shown = ("(1, 1)" : Str) := by decide +kernel
  show (if (PyData.tuple [.int 1, .int 1]).showable = true ∧ (PyData.tuple [.int 1, .int 1]).depth ≤ 60 ∧ (PyData.tuple [.int 1, .int 1]).shown.length ≤ sizeLine then ok (D.str (PyData.tuple [.int 1, .int 1]).shown) M else none) = _
  rw [e, if_pos ⟨by decide +kernel, by decide +kernel, by decide +kernel⟩]
theorem two_ix : ∀ n, n < 8 → 2 ≤ n → whole n (some 1) none (some (-1)) = false ∧ prtI n (some 1) none (some (-1)) = [1, 0] := by decide
theorem slp_two {ds : List D} {a b : D} (hl : ds.length < 8) (h0 : ds[0]? = some a) (h1 : ds[1]? = some b) (M : Store) : slpF (.tup ds) (some 1) none (some (-1)) M = ok (.tup [b, a]) M := by
  have := get_lt h1
  obtain ⟨q1, q2⟩ := two_ix ds.length hl (by omega)
  unfold slpF prtF prtT
  dsimp only
  rw [q1, q2, if_pos ⟨by decide, by decide⟩, if_neg (by decide)]
  rw [List.filterMap_cons, h1, List.filterMap_cons, h0]
  rfl
theorem swap_rows {s : Nat} {A : Mx} (h : 2 ≤ s) : [rowD s fun j => qD (A 1 j), rowD s fun j => qD (A 0 j)] ++ (rowsD s A).drop 2 = rowsD s (sw 0 1 A) := by
  apply List.ext_getElem?
  intro i
  by_cases hi : i < s
  · rw [get_mapR hi]
    match i with
    | 0 => exact congrArg some (row_ext fun j _ => by unfold sw; rw [if_pos rfl])
    | 1 => exact congrArg some (row_ext fun j _ => by unfold sw; rw [if_neg (by decide), if_pos rfl])
    | i + 2 =>
      rw [List.getElem?_append_right (by simp), List.length_cons, List.length_singleton, List.getElem?_drop, show 2 + (i + 2 - (1 + 1)) = i + 2 by omega, get_mapR hi]
      exact congrArg some (row_ext fun j _ => by unfold sw; rw [if_neg (by omega), if_neg (by omega)])
  · rw [List.getElem?_eq_none (by simp; omega), List.getElem?_eq_none (by simp; omega)]
theorem VG.sw {s : Nat} {A : Mx} (v : VG s A) (h : 2 ≤ s) : VG s (K62.sw 0 1 A) := by
  refine ⟨fun r c hr hc => ?_, fun r c hr hc => ?_⟩
  · unfold K62.sw
    split
    · exact v.d _ _ (by omega) hc
    · split
      · exact v.d _ _ (by omega) hc
      · exact v.d _ _ hr hc
  · unfold K62.sw
    split
    · exact v.b _ _ (by omega) hc
    · split
      · exact v.b _ _ (by omega) hc
      · exact v.b _ _ hr hc
theorem neg_q {r : Rat} : qD (-r) = .tup [.int (0 - r.num), .int (r.den : Int)] := by
  show D.tup [.int (-r).num, .int ((-r).den : Int)] = _
  have q1 : (-r).num = - r.num := rfl
  have q2 : (-r).den = r.den := rfl
  rw [q1, q2, Int.zero_sub]
end K62
namespace K62
open PySem L2 DL
abbrev cellS (k : Nat) : Store := [.lst [.int (k : Int)]]
theorem neG_str' {x : Str} {M : Store} : neGF (.str x) (.str x) M = ok (.bl false) M := by
  rw [neG_str, decide_eq_true rfl]
  rfl
theorem ne_emp {n : Nat} {f : Nat → D} {M : Store} : neGF (rowD n f) (.tup []) M = ok (.bl (decide (0 < n))) M := by
  show ok (D.bl (!((List.range n).map f).isEmpty)) M = _
  cases n with
  | zero => rfl
  | succ n =>
    rw [List.range_succ_eq_map]
    rfl
noncomputable abbrev BL : DenS := seqS (asgS 3 (fnD m__law_cell 2 [] (consA (nameD 0) (consA (nameD 1) (nilA))))) (seqS (asgS 4 (fnD m__law_entries 4 [] (consA (nameD 0) (consA (nameD 1) (consA (binD fmodF (nameD 3) (cD (.int 6))) (consA (binD fmodF (binD fdivF (nameD 3) (cD (.int 6))) (cD (.int 5))) (nilA))))))) (seqS (parS 5 6 (fnD m__law_minor 1 [] (consA (nameD 4) (nilA))) (callD (reprGF) (consA (nameD 4) (nilA)))) (seqS (ifS (orD (binD (neGF) (callD (reprGF) (consA (lstD (consA (fnD m_minor 1 [] (consA (nameD 4) (nilA))) (consA (fnKD m_minor 0 1 1 [0] nilA (consA (nameD 4) (nilA))) (nilA)))) (nilA))) (callD (reprGF) (consA (lstD (consA (nameD 5) (consA (nameD 5) (nilA)))) (nilA)))) (binD (neGF) (fnD m_minor 1 [] (consA (fnD m__law_turned 1 [] (consA (nameD 4) (nilA))) (nilA))) (nameD 5))) (retS (cD (.bl false))) (nilS)) (seqS (ifS (andD (binD (gtF) (callD (lenF) (consA (nameD 4) (nilA))) (cD (.int 1))) (binD (neGF) (fnD m_minor 1 [] (consA (binD addGF (slpD (nameD 4) (someO (cD (.int 1))) (noneO) (someO (unD negF (cD (.int 1))))) (slpD (nameD 4) (someO (cD (.int 2))) (noneO) (noneO))) (nilA))) (tupD (consA (binD subF (cD (.int 0)) (binD ixF (nameD 5) (cD (.int 0)))) (consA (binD ixF (nameD 5) (cD (.int 1))) (nilA)))))) (retS (cD (.bl false))) (nilS)) (ifS (orD (andD (binD (neGF) (nameD 4) (tupD (nilA))) (unD notF (tstD (fnD m__law_is_refused 1 [] (consA (fnD m__law_bent 2 [] (consA (nameD 4) (consA (binD fdivF (nameD 3) (cD (.int 30))) (nilA)))) (nilA)))))) (binD (neGF) (callD (reprGF) (consA (nameD 4) (nilA))) (nameD 6))) (retS (cD (.bl false))) (nilS))))))
theorem body_ok {ns : List Int} {k0 : Nat} {a3 a4 a5 a6 : Option D} {K : Option D} (hk : k0 ≤ 4000) (hn : ns.length ≤ 63) :
    Wp (BL [some (.scr ns), some (.loc 0), K, a3, a4, a5, a6] (cellS k0)) (fun f M' => ∃ (k1 : Nat) (b3 b4 b5 b6 : Option D), k1 ≤ k0 + 26 ∧ f = .nx [some (.scr ns), some (.loc 0), K, b3, b4, b5, b6] ∧ M' = cellS k1) := by
  obtain ⟨c, c0, c1, hc⟩ := cell_ok (ns := ns) (k0 := k0) (M := cellS k0) rfl (by omega) hn
  have hc' : m__law_cell [.scr ns, .loc 0] (cellS k0) = ok (.int c) (cellS (k0 + 1)) := hc
  obtain ⟨s, hs⟩ : ∃ s : Nat, (s : Int) = c % 6 := ⟨(c % 6).toNat, by omega⟩
  have s5 : s ≤ 5 := by omega
  obtain ⟨so, hso⟩ : ∃ i : Int, i = c / 6 % 5 := ⟨_, rfl⟩
  have f1 : ∀ M, fmodF (.int c) (.int 6) M = ok (.int (s : Int)) M := fun M => by rw [hs]; exact fmd (by decide)
  have f2 : ∀ M, fdivF (.int c) (.int 6) M = ok (.int (c / 6)) M := fun M => fdv (by decide) (by unfold Bd; decide)
  have f3 : ∀ M, fmodF (.int (c / 6)) (.int 5) M = ok (.int so) M := fun M => by rw [hso]; exact fmd (by decide)
  have f4 : ∀ M, fdivF (.int c) (.int 30) M = ok (.int (c / 30)) M := fun M => fdv (by decide) (by unfold Bd; decide)
  have ss : s * s ≤ 25 := Nat.mul_le_mul s5 s5
  obtain ⟨A, hA, hen⟩ := entries_ok (ns := ns) (k0 := k0 + 1) (s := s) (S := so) (M := cellS (k0 + 1)) rfl (by omega) hn (by omega) (by omega) (by omega)
  have hen' : m__law_entries [.scr ns, .loc 0, .int (s : Int), .int so] (cellS (k0 + 1)) = ok (gridD s A) (cellS (k0 + 1 + s * s)) := hen
  have v := VE.vg hA
  obtain ⟨M1, hM1⟩ : ∃ M, M = cellS (k0 + 1 + s * s) := ⟨_, rfl⟩
  obtain ⟨M0, hM0⟩ : ∃ M, M = cellS (k0 + 1) := ⟨_, rfl⟩
  have mi := fun M => minor_ok (M := M) v (by omega)
  have lm := law_minor_ok v (by omega)
  have rg := repr_grid v (by omega)
  have tu := fun M => turned_ok (A := A) (n := s) (by omega) M
  have vt : VG s (fun r c => A c r) := ⟨fun r c hr hc => v.d c r hc hr, fun r c hr hc => v.b c r hc hr⟩
  have mt := fun M => minor_ok (M := M) vt (by omega)
  rw [det_turn] at mt
  have okd := okW_det v (by omega)
  have r2 := repr_two okd
  have nq := fun M => ne_q (M := M) okd
  have ne0 := fun M => ne_emp (n := s) (f := fun i => rowD s fun j => qD (A i j)) (M := M)
  have ln : ∀ M, lenF [gridD s A] M = ok (.int (s : Int)) M := fun M => len_row
  have qn : qD (- det s A) = .tup [.int (0 - (det s A).num), .int ((det s A).den : Int)] := neg_q
  have bent : 1 ≤ s → ∀ M, ∃ x, m__law_bent [gridD s A, .int (c / 30)] M = ok x M ∧ RF x := fun h1 M => bent_ok h1 s5 (by omega) M
  have swp : 2 ≤ s → ∃ T1 T2, (∀ M, slpF (gridD s A) (some 1) none (some (-1)) M = ok T1 M) ∧ (∀ M, slpF (gridD s A) (some 2) none none M = ok T2 M) ∧ (∀ M, addGF T1 T2 M = ok (gridD s (sw 0 1 A)) M) := fun h2 => by
    refine ⟨.tup [rowD s fun j => qD (A 1 j), rowD s fun j => qD (A 0 j)], .tup ((rowsD s A).drop 2), fun M => slp_two (by simp; omega) (get_mapR (by omega)) (get_mapR (by omega)) M, fun M => slp_drop (k := 2) (by simp; omega), fun M => ?_⟩
    rw [addG_tup (by simp; omega), swap_rows h2]
    rfl
  have msw : 2 ≤ s → ∀ M, m_minor [gridD s (sw 0 1 A)] M = ok (qD (- det s A)) M := fun h2 M => by
    rw [minor_ok (v.sw h2) (by omega), det_swap (by omega) (by omega) (by decide)]
  have nsw : 2 ≤ s → ∀ M, neGF (qD (- det s A)) (qD (- det s A)) M = ok (.bl false) M := fun h2 M => by
    refine ne_q ?_
    have := okW_det (v.sw h2) (by omega)
    rwa [det_swap (by omega) (by omega) (by decide)] at this
  obtain ⟨S, hS⟩ : ∃ i : Int, i = (s : Int) := ⟨_, rfl⟩
  have d0 := fun M => qD_ix0 (r := det s A) (M := M)
  have d1 := fun M => qD_ix1 (r := det s A) (M := M)
  obtain ⟨G, hG⟩ : ∃ x, x = gridD s A := ⟨_, rfl⟩
  have ne0' : ∀ M, neGF G (.tup []) M = ok (.bl (decide (0 < s))) M := fun M => by rw [hG]; exact ne0 M
  have rgx : ∃ x : Str, ∀ M, reprGF [gridD s A] M = ok (.str x) M := ⟨_, rg⟩
  obtain ⟨RG, rg⟩ := rgx
  have r2x : ∃ x : Str, ∀ M, reprGF [.lst [qD (det s A), qD (det s A)]] M = ok (.str x) M := ⟨_, r2⟩
  obtain ⟨R2, r2⟩ := r2x
  obtain ⟨DD, hDD⟩ : ∃ x, x = qD (det s A) := ⟨_, rfl⟩
  obtain ⟨GT, hGT⟩ : ∃ x, x = gridD s fun r c => A c r := ⟨_, rfl⟩
  rw [← hM0, ← hM1, ← hG, ← hS] at hen'
  rw [← hM0] at hc'
  rw [← hG, ← hDD] at mi lm
  rw [← hG] at rg bent swp
  rw [← hG, ← hGT] at tu
  rw [← hGT, ← hDD] at mt
  rw [← hDD] at r2 nq d0 d1
  rw [← hG, ← hS] at ln
  rw [← hS] at f1
  have nS := fun M => neG_str' (x := R2) (M := M)
  have nG := fun M => neG_str' (x := RG) (M := M)
  let E : Option D → Option D → Option D → Option D → DL.Env := fun a b c d => [some (.scr ns), some (.loc 0), K, a, b, c, d]
  show Wp (seqS _ _ _ _) _
  refine wp_nx (e' := E (some (.int c)) a4 a5 a6) (M' := M0) (by simp [seqS, ifS, retS, raiseF, raiseS, consA, nilA, binD, callD, nameD, cD, bindE_v, thenS_v, bindE_x, thenS_x, unD, parS, asgS, tupD, int2F, eq_int, ne_int, intF0, negF, notF, nilS, brD, fnD, addE, subE, ix0, ix1, dropS, asgG, tupG, consG, nameG, nilG, lstD, andD, orD, tstD, ownS, appS, len_tup, len_lst, tup_tup, wipeE, set1, set2, typ_int, typ_tup, typ_non, typ_lst, isF, chainD, asT, truD, len_row, typ_row, hc', E]) ?_
  refine wp_nx (e' := E (some (.int c)) (some G) a5 a6) (M' := M1) (by simp [seqS, ifS, retS, raiseF, raiseS, consA, nilA, binD, callD, nameD, cD, bindE_v, thenS_v, bindE_x, thenS_x, unD, parS, asgS, tupD, int2F, eq_int, ne_int, intF0, negF, notF, nilS, brD, fnD, addE, subE, ix0, ix1, dropS, asgG, tupG, consG, nameG, nilG, lstD, andD, orD, tstD, ownS, appS, len_tup, len_lst, tup_tup, wipeE, set1, set2, typ_int, typ_tup, typ_non, typ_lst, isF, chainD, asT, truD, len_row, typ_row, f1, f2, f3, hen', E]) ?_
  refine wp_nx (e' := E (some (.int c)) (some G) (some DD) (some (.str RG))) (M' := M1) (by simp [seqS, ifS, retS, raiseF, raiseS, consA, nilA, binD, callD, nameD, cD, bindE_v, thenS_v, bindE_x, thenS_x, unD, parS, asgS, tupD, int2F, eq_int, ne_int, intF0, negF, notF, nilS, brD, fnD, addE, subE, ix0, ix1, dropS, asgG, tupG, consG, nameG, nilG, lstD, andD, orD, tstD, ownS, appS, len_tup, len_lst, tup_tup, wipeE, set1, set2, typ_int, typ_tup, typ_non, typ_lst, isF, chainD, asT, truD, len_row, typ_row, lm, rg, E]) ?_
  refine wp_nx (e' := E (some (.int c)) (some G) (some DD) (some (.str RG))) (M' := M1) ((if_f (or_v (a := false) (b := false) (by simp [seqS, ifS, retS, raiseF, raiseS, consA, nilA, binD, callD, nameD, cD, bindE_v, thenS_v, bindE_x, thenS_x, unD, parS, asgS, tupD, int2F, eq_int, ne_int, intF0, negF, notF, nilS, brD, fnD, addE, subE, ix0, ix1, dropS, asgG, tupG, consG, nameG, nilG, lstD, andD, orD, tstD, ownS, appS, len_tup, len_lst, tup_tup, wipeE, set1, set2, typ_int, typ_tup, typ_non, typ_lst, isF, chainD, asT, truD, len_row, typ_row, fnKD, pk, mi, r2, nS, E]) fun _ => by simp [seqS, ifS, retS, raiseF, raiseS, consA, nilA, binD, callD, nameD, cD, bindE_v, thenS_v, bindE_x, thenS_x, unD, parS, asgS, tupD, int2F, eq_int, ne_int, intF0, negF, notF, nilS, brD, fnD, addE, subE, ix0, ix1, dropS, asgG, tupG, consG, nameG, nilG, lstD, andD, orD, tstD, ownS, appS, len_tup, len_lst, tup_tup, wipeE, set1, set2, typ_int, typ_tup, typ_non, typ_lst, isF, chainD, asT, truD, len_row, typ_row, tu, mt, nq, E])).trans rfl) ?_
  refine wp_nx (e' := E (some (.int c)) (some G) (some DD) (some (.str RG))) (M' := M1) ?_ ?_
  · by_cases h2 : 2 ≤ s
    · obtain ⟨T1, T2, t1, t2, t3⟩ := swp h2
      have ms := msw h2
      have nw := nsw h2
      have hs1 : (1 : Int) < S := by omega
      rw [qn, Int.zero_sub] at ms nw
      generalize gridD s (sw 0 1 A) = GS at *
      generalize (det s A).num = dn at *
      generalize ((det s A).den : Int) = dd at *
      refine (if_f (and_v (a := true) (b := false) (by simp [seqS, ifS, retS, raiseF, raiseS, consA, nilA, binD, callD, nameD, cD, bindE_v, thenS_v, bindE_x, thenS_x, unD, parS, asgS, tupD, int2F, eq_int, ne_int, intF0, negF, notF, nilS, brD, fnD, addE, subE, ix0, ix1, dropS, asgG, tupG, consG, nameG, nilG, lstD, andD, orD, tstD, ownS, appS, len_tup, len_lst, tup_tup, wipeE, set1, set2, typ_int, typ_tup, typ_non, typ_lst, isF, chainD, asT, truD, len_row, typ_row, ln, gt_int, hs1, E]) fun _ => by simp [seqS, ifS, retS, raiseF, raiseS, consA, nilA, binD, callD, nameD, cD, bindE_v, thenS_v, bindE_x, thenS_x, unD, parS, asgS, tupD, int2F, eq_int, ne_int, intF0, negF, notF, nilS, brD, fnD, addE, subE, ix0, ix1, dropS, asgG, tupG, consG, nameG, nilG, lstD, andD, orD, tstD, ownS, appS, len_tup, len_lst, tup_tup, wipeE, set1, set2, typ_int, typ_tup, typ_non, typ_lst, isF, chainD, asT, truD, len_row, typ_row, slpD, someO, noneO, t1, t2, t3, ms, d0, d1, nw, E])).trans rfl
    · have hs1 : ¬ (1 : Int) < S := by omega
      refine (if_f (and_v (a := false) (b := false) (by simp [seqS, ifS, retS, raiseF, raiseS, consA, nilA, binD, callD, nameD, cD, bindE_v, thenS_v, bindE_x, thenS_x, unD, parS, asgS, tupD, int2F, eq_int, ne_int, intF0, negF, notF, nilS, brD, fnD, addE, subE, ix0, ix1, dropS, asgG, tupG, consG, nameG, nilG, lstD, andD, orD, tstD, ownS, appS, len_tup, len_lst, tup_tup, wipeE, set1, set2, typ_int, typ_tup, typ_non, typ_lst, isF, chainD, asT, truD, len_row, typ_row, ln, gt_int, hs1, E]) fun z => nomatch z)).trans rfl
  · refine wp_of (M' := M1) (.nx (E (some (.int c)) (some G) (some DD) (some (.str RG)))) ?_ ⟨k0 + 1 + s * s, _, _, _, _, by omega, rfl, hM1⟩
    refine (if_f (or_v (a := false) (b := false) ?_ fun _ => by simp [seqS, ifS, retS, raiseF, raiseS, consA, nilA, binD, callD, nameD, cD, bindE_v, thenS_v, bindE_x, thenS_x, unD, parS, asgS, tupD, int2F, eq_int, ne_int, intF0, negF, notF, nilS, brD, fnD, addE, subE, ix0, ix1, dropS, asgG, tupG, consG, nameG, nilG, lstD, andD, orD, tstD, ownS, appS, len_tup, len_lst, tup_tup, wipeE, set1, set2, typ_int, typ_tup, typ_non, typ_lst, isF, chainD, asT, truD, len_row, typ_row, rg, nG, E])).trans rfl
    by_cases h1 : 1 ≤ s
    · obtain ⟨x, b1, b2⟩ := bent h1 M1
      have b3 := refused_ok b2
      refine and_v (a := true) (b := false) (by
        have q := ne0' M1
        rw [decide_eq_true (by omega)] at q
        simp [seqS, ifS, retS, raiseF, raiseS, consA, nilA, binD, callD, nameD, cD, bindE_v, thenS_v, bindE_x, thenS_x, unD, parS, asgS, tupD, int2F, eq_int, ne_int, intF0, negF, notF, nilS, brD, fnD, addE, subE, ix0, ix1, dropS, asgG, tupG, consG, nameG, nilG, lstD, andD, orD, tstD, ownS, appS, len_tup, len_lst, tup_tup, wipeE, set1, set2, typ_int, typ_tup, typ_non, typ_lst, isF, chainD, asT, truD, len_row, typ_row, q, E]) fun _ => by simp [seqS, ifS, retS, raiseF, raiseS, consA, nilA, binD, callD, nameD, cD, bindE_v, thenS_v, bindE_x, thenS_x, unD, parS, asgS, tupD, int2F, eq_int, ne_int, intF0, negF, notF, nilS, brD, fnD, addE, subE, ix0, ix1, dropS, asgG, tupG, consG, nameG, nilG, lstD, andD, orD, tstD, ownS, appS, len_tup, len_lst, tup_tup, wipeE, set1, set2, typ_int, typ_tup, typ_non, typ_lst, isF, chainD, asT, truD, len_row, typ_row, f4, b1, b3, E]
    · refine and_v (a := false) (b := false) (by
        have q := ne0' M1
        rw [decide_eq_false (by omega)] at q
        simp [seqS, ifS, retS, raiseF, raiseS, consA, nilA, binD, callD, nameD, cD, bindE_v, thenS_v, bindE_x, thenS_x, unD, parS, asgS, tupD, int2F, eq_int, ne_int, intF0, negF, notF, nilS, brD, fnD, addE, subE, ix0, ix1, dropS, asgG, tupG, consG, nameG, nilG, lstD, andD, orD, tstD, ownS, appS, len_tup, len_lst, tup_tup, wipeE, set1, set2, typ_int, typ_tup, typ_non, typ_lst, isF, chainD, asT, truD, len_row, typ_row, q, E]) fun z => nomatch z
end K62
namespace K62
open PySem L2 DL
theorem empty_ok (M : Store) : m_minor [.tup []] M = ok (.tup [.int 1, .int 1]) M := by
  have v : VG 0 (fun _ _ => 0) := ⟨fun r _ h => absurd h (Nat.not_lt_zero r), fun r _ h => absurd h (Nat.not_lt_zero r)⟩
  exact minor_ok (n := 0) v (by decide)
noncomputable abbrev TL : DenS := seqS (asgS 3 (fnD m__law_cell 2 [] (consA (nameD 0) (consA (nameD 1) (nilA))))) (seqS (asgS 4 (fnD m__law_entries 4 [] (consA (nameD 0) (consA (nameD 1) (consA (binD addGF (cD (.int 6)) (callD (intcF) (consA (binD (eqGF) (binD fmodF (nameD 3) (cD (.int 8))) (cD (.int 0))) (nilA)))) (consA (binD fmodF (binD fdivF (nameD 3) (cD (.int 8))) (cD (.int 3))) (nilA))))))) (seqS (ifS (binD (neGF) (fnD m_minor 1 [] (consA (nameD 4) (nilA))) (fnD m__law_minor 1 [] (consA (nameD 4) (nilA)))) (retS (cD (.bl false))) (nilS)) (retS (andD (fnD m__law_great_right 2 [] (consA (nameD 0) (consA (nameD 1) (nilA)))) (binD (eqGF) (callD (reprGF) (consA (fnD m_minor 1 [] (consA (tupD (nilA)) (nilA))) (nilA))) (cD (.str "(1, 1)")))))))
theorem st2 {e : DL.Env} {G : D} {c c8 d8 q S so : Int} {b : Bool} {ns : List Int} {Ma Mb : Store} (e0 : e[0]? = some (some (.scr ns))) (e1 : e[1]? = some (some (.loc 0))) (e3 : e[3]? = some (some (.int c))) (g1 : ∀ M, fmodF (.int c) (.int 8) M = ok (.int c8) M) (g2 : ∀ M, eqGF (.int c8) (.int 0) M = ok (.bl b) M) (g3 : ∀ M, intcF [.bl b] M = ok (.int q) M) (g4 : ∀ M, fdivF (.int c) (.int 8) M = ok (.int d8) M) (g5 : ∀ M, fmodF (.int d8) (.int 3) M = ok (.int so) M) (hsq : (6 : Int) + q = S) (hen : m__law_entries [.scr ns, .loc 0, .int S, .int so] Ma = ok G Mb) :
    asgS 4 (fnD m__law_entries 4 [] (consA (nameD 0) (consA (nameD 1) (consA (binD addGF (cD (.int 6)) (callD (intcF) (consA (binD (eqGF) (binD fmodF (nameD 3) (cD (.int 8))) (cD (.int 0))) (nilA)))) (consA (binD fmodF (binD fdivF (nameD 3) (cD (.int 8))) (cD (.int 3))) (nilA)))))) e Ma = some (.nx (e.set 4 (some G)), Mb) := by simp [seqS, ifS, retS, raiseF, raiseS, consA, nilA, binD, callD, nameD, cD, bindE_v, thenS_v, bindE_x, thenS_x, unD, parS, asgS, tupD, int2F, eq_int, ne_int, intF0, negF, notF, nilS, brD, fnD, addE, subE, ix0, ix1, dropS, asgG, tupG, consG, nameG, nilG, lstD, andD, orD, tstD, ownS, appS, len_tup, len_lst, tup_tup, wipeE, set1, set2, typ_int, typ_tup, typ_non, typ_lst, isF, chainD, asT, truD, len_row, typ_row, e0, e1, e3, g1, g2, g3, g4, g5, addG_int, hsq, hen]
theorem st3 {e : DL.Env} {G DD : D} {Mb : Store} (h4 : e[4]? = some (some G)) (mi : ∀ M, m_minor [G] M = ok DD M) (lm : ∀ M, m__law_minor [G] M = ok DD M) (nq : ∀ M, neGF DD DD M = ok (.bl false) M) : ifS (binD (neGF) (fnD m_minor 1 [] (consA (nameD 4) (nilA))) (fnD m__law_minor 1 [] (consA (nameD 4) (nilA)))) (retS (cD (.bl false))) (nilS) e Mb = some (.nx e, Mb) := by simp [seqS, ifS, retS, raiseF, raiseS, consA, nilA, binD, callD, nameD, cD, bindE_v, thenS_v, bindE_x, thenS_x, unD, parS, asgS, tupD, int2F, eq_int, ne_int, intF0, negF, notF, nilS, brD, fnD, addE, subE, ix0, ix1, dropS, asgG, tupG, consG, nameG, nilG, lstD, andD, orD, tstD, ownS, appS, len_tup, len_lst, tup_tup, wipeE, set1, set2, typ_int, typ_tup, typ_non, typ_lst, isF, chainD, asT, truD, len_row, typ_row, h4, mi, lm, nq]
theorem tail_ok {ns : List Int} {k : Nat} {a2 a3 a4 a5 a6 : Option D} (hk : k ≤ 200) (hn : ns.length ≤ 63) : Wp (TL [some (.scr ns), some (.loc 0), a2, a3, a4, a5, a6] (cellS k)) (fun f M' => f = .rt (.bl true)) := by
  obtain ⟨c, c0, c1, hc⟩ := cell_ok (ns := ns) (k0 := k) (M := cellS k) rfl (by omega) hn
  have hc' : m__law_cell [.scr ns, .loc 0] (cellS k) = ok (.int c) (cellS (k + 1)) := hc
  obtain ⟨b, hb⟩ : ∃ b : Bool, b = decide (c % 8 = 0) := ⟨_, rfl⟩
  obtain ⟨s, hs⟩ : ∃ s : Nat, s = 6 + (if b = true then 1 else 0) := ⟨_, rfl⟩
  have s7 : s ≤ 7 := by rw [hs]; split <;> omega
  obtain ⟨so, hso⟩ : ∃ i : Int, i = c / 8 % 3 := ⟨_, rfl⟩
  have g1 : ∀ M, fmodF (.int c) (.int 8) M = ok (.int (c % 8)) M := fun M => fmd (by decide)
  have g2 : ∀ M, eqGF (.int (c % 8)) (.int 0) M = ok (.bl b) M := fun M => by rw [hb]; exact eqG_int
  have g3 : ∀ M, intcF [.bl b] M = ok (.int (if b = true then 1 else 0)) M := fun M => rfl
  have g4 : ∀ M, fdivF (.int c) (.int 8) M = ok (.int (c / 8)) M := fun M => fdv (by decide) (by unfold Bd; decide)
  have g5 : ∀ M, fmodF (.int (c / 8)) (.int 3) M = ok (.int so) M := fun M => by rw [hso]; exact fmd (by decide)
  obtain ⟨q, hq⟩ : ∃ q : Int, q = if b = true then 1 else 0 := ⟨_, rfl⟩
  rw [← hq] at g3
  have hsq : (6 : Int) + q = (s : Int) := by
    rw [hq, hs]
    cases b <;> rfl
  have ss : s * s ≤ 49 := Nat.mul_le_mul s7 s7
  obtain ⟨A, hA, hen⟩ := entries_ok (ns := ns) (k0 := k + 1) (s := s) (S := so) (M := cellS (k + 1)) rfl (by omega) hn (by omega) (by omega) (by omega)
  have hen' : m__law_entries [.scr ns, .loc 0, .int (s : Int), .int so] (cellS (k + 1)) = ok (gridD s A) (cellS (k + 1 + s * s)) := hen
  have v := VE.vg hA
  have mi := fun M => minor_ok (M := M) v s7
  have lm := law_minor_ok v s7
  have nq := fun M => ne_q (M := M) (okW_det v s7)
  obtain ⟨k1, hk1, hg⟩ := great_ok (ns := ns) (k0 := k + 1 + s * s) (M := cellS (k + 1 + s * s)) rfl (by omega) hn
  have hg' : m__law_great_right [.scr ns, .loc 0] (cellS (k + 1 + s * s)) = ok (.bl true) (cellS k1) := hg
  have em := fun M => empty_ok M
  have r1 := fun M => repr_one M
  have es : ∀ M, eqGF (.str "(1, 1)") (.str "(1, 1)") M = ok (.bl true) M := fun M => by rw [eqG_str, decide_eq_true rfl]
  generalize cellS (k + 1) = Ma at *
  generalize cellS (k + 1 + s * s) = Mb at *
  generalize hMk : cellS k1 = Mc at *
  generalize cellS k = Mk at *
  generalize gridD s A = G at *
  generalize qD (det s A) = DD at *
  generalize c % 8 = c8 at *
  generalize c / 8 = d8 at *
  generalize (s : Int) = S at *
  show Wp (seqS _ _ _ _) _
  refine wp_nx (e' := [some (.scr ns), some (.loc 0), a2, some (.int c), a4, a5, a6]) (M' := Ma) (by simp [seqS, ifS, retS, raiseF, raiseS, consA, nilA, binD, callD, nameD, cD, bindE_v, thenS_v, bindE_x, thenS_x, unD, parS, asgS, tupD, int2F, eq_int, ne_int, intF0, negF, notF, nilS, brD, fnD, addE, subE, ix0, ix1, dropS, asgG, tupG, consG, nameG, nilG, lstD, andD, orD, tstD, ownS, appS, len_tup, len_lst, tup_tup, wipeE, set1, set2, typ_int, typ_tup, typ_non, typ_lst, isF, chainD, asT, truD, len_row, typ_row, hc']) ?_
  refine wp_nx (e' := [some (.scr ns), some (.loc 0), a2, some (.int c), some G, a5, a6]) (M' := Mb) (st2 rfl rfl rfl g1 g2 g3 g4 g5 hsq hen') ?_
  refine wp_nx (e' := [some (.scr ns), some (.loc 0), a2, some (.int c), some G, a5, a6]) (M' := Mb) (st3 rfl mi lm nq) ?_
  exact wp_of (.rt (.bl true)) (M' := Mc) (by simp [seqS, ifS, retS, raiseF, raiseS, consA, nilA, binD, callD, nameD, cD, bindE_v, thenS_v, bindE_x, thenS_x, unD, parS, asgS, tupD, int2F, eq_int, ne_int, intF0, negF, notF, nilS, brD, fnD, addE, subE, ix0, ix1, dropS, asgG, tupG, consG, nameG, nilG, lstD, andD, orD, tstD, ownS, appS, len_tup, len_lst, tup_tup, wipeE, set1, set2, typ_int, typ_tup, typ_non, typ_lst, isF, chainD, asT, truD, len_row, typ_row, hg', em, r1, es]) rfl
theorem wp_imp {r : RS} {P Q : Flw → Store → Prop} (h : Wp r P) (k : ∀ f M, P f M → Q f M) : Wp r Q := by
  obtain ⟨f, M, a, b⟩ := h
  exact ⟨f, M, a, k f M b⟩
theorem law_true : ∀ ns : List Int, ns.length ≤ 63 → (∀ z ∈ ns, Builtin.Int.intBits z ≤ 1048576) → ∃ M, m_law [.scr ns] [] = some (.val (.bl true), M) := by
  intro ns hn _
  have l0 : ∀ M, lenF [.scr ns] M = ok (.int (ns.length : Int)) M := fun M => len_scr
  obtain ⟨l, hl⟩ : ∃ i : Int, i = (ns.length : Int) := ⟨_, rfl⟩
  rw [← hl] at l0
  obtain ⟨n, hN⟩ : ∃ n : Nat, (n : Int) = 3 + (if l / 4 < 4 then l / 4 else 4) := ⟨(3 + (if l / 4 < 4 then l / 4 else 4)).toNat, by split <;> omega⟩
  have n7 : n ≤ 7 := by
    have : (n : Int) ≤ 7 := by rw [hN]; split <;> omega
    omega
  have f1 : ∀ M, fdivF (.int l) (.int 4) M = ok (.int (l / 4)) M := fun M => fdv (by decide) (by unfold Bd; decide)
  have f2 : ∀ M, minF [.int 4, .int (l / 4)] M = ok (.int (if l / 4 < 4 then l / 4 else 4)) M := fun M => rfl
  have key : Wp (den_law [some (.scr ns), none, none, none, none, none, none] []) (fun f M' => f = .rt (.bl true) ∧ ∃ X, M' = [] ++ X) := by
    unfold den_law
    refine wp_nx (e' := [some (.scr ns), some (.loc 0), none, none, none, none, none]) (M' := cellS 0) (by simp [seqS, ifS, retS, raiseF, raiseS, consA, nilA, binD, callD, nameD, cD, bindE_v, thenS_v, bindE_x, thenS_x, unD, parS, asgS, tupD, int2F, eq_int, ne_int, intF0, negF, notF, nilS, brD, fnD, addE, subE, ix0, ix1, dropS, asgG, tupG, consG, nameG, nilG, lstD, andD, orD, tstD, ownS, appS, len_tup, len_lst, tup_tup, wipeE, set1, set2, typ_int, typ_tup, typ_non, typ_lst, isF, chainD, asT, truD, len_row, typ_row]) ?_
    refine wp_for_nx ((List.range n).map fun (j : Nat) => D.int (j : Int)) (fun j e M' => ∃ (k : Nat) (a2 a3 a4 a5 a6 : Option D), k ≤ 26 * j ∧ e = [some (.scr ns), some (.loc 0), a2, a3, a4, a5, a6] ∧ M' = cellS k) (it_r1 (by
      rw [hN]
      obtain ⟨q, hq⟩ : ∃ q, q = if l / 4 < 4 then l / 4 else 4 := ⟨_, rfl⟩
      rw [← hq] at f2 ⊢
      generalize l / 4 = l4 at *
      generalize cellS 0 = Mx
      simp [seqS, ifS, retS, raiseF, raiseS, consA, nilA, binD, callD, nameD, cD, bindE_v, thenS_v, bindE_x, thenS_x, unD, parS, asgS, tupD, int2F, eq_int, ne_int, intF0, negF, notF, nilS, brD, fnD, addE, subE, ix0, ix1, dropS, asgG, tupG, consG, nameG, nilG, lstD, andD, orD, tstD, ownS, appS, len_tup, len_lst, tup_tup, wipeE, set1, set2, typ_int, typ_tup, typ_non, typ_lst, isF, chainD, asT, truD, len_row, typ_row, l0, f1, f2, addG_int]) (by omega)) (fun j d e M' hd hi => ?_) (fun _ _ _ => trivial) ⟨0, _, _, _, _, _, by omega, rfl, rfl⟩ (fun e' M' hi => ?_)
    · obtain ⟨k, a2, a3, a4, a5, a6, hk, rfl, rfl⟩ := hi
      obtain ⟨hj, rfl⟩ := map_getR hd
      refine ⟨trivial, [some (.scr ns), some (.loc 0), some (.int (j : Int)), a3, a4, a5, a6], cellS k, by simp [seqS, ifS, retS, raiseF, raiseS, consA, nilA, binD, callD, nameD, cD, bindE_v, thenS_v, bindE_x, thenS_x, unD, parS, asgS, tupD, int2F, eq_int, ne_int, intF0, negF, notF, nilS, brD, fnD, addE, subE, ix0, ix1, dropS, asgG, tupG, consG, nameG, nilG, lstD, andD, orD, tstD, ownS, appS, len_tup, len_lst, tup_tup, wipeE, set1, set2, typ_int, typ_tup, typ_non, typ_lst, isF, chainD, asT, truD, len_row, typ_row], ?_⟩
      obtain ⟨f, M2, h1, k1, b3, b4, b5, b6, h2, rfl, rfl⟩ := body_ok (ns := ns) (k0 := k) (a3 := a3) (a4 := a4) (a5 := a5) (a6 := a6) (K := some (.int (j : Int))) (by omega) hn
      exact ⟨_, _, h1, _, .inl rfl, k1, _, _, _, _, _, by omega, rfl, rfl⟩
    · obtain ⟨k, a2, a3, a4, a5, a6, hk, rfl, rfl⟩ := hi
      rw [List.length_map, List.length_range] at hk
      exact wp_imp (tail_ok (by omega) hn) fun f M h => ⟨h, M, rfl⟩
  obtain ⟨f, M', h1, h2, X, h3⟩ := key
  rw [h2, h3] at h1
  exact ⟨[], fv_rt (e0 := [some (.scr ns), none, none, none, none, none, none]) X rfl h1 rfl⟩
end K62
namespace K62
open PySem L2 DL PyProof.Rows
theorem dend {P : Program} {w : World} {K : PySem.W.Frag} {h : Heap} {mg : Str → Option Value} {q : Program} {fa : Addr} (hP : ((P.main.file : Str) == ("/claim/cut.py" : Str)) = true) (hS : (P.main.scope.names.lookup ("super" : Str)).isSome = false) (X : K.In h) (G : h.Ns mainGlobals mg) (c : SaysZ fz mz vz K) (hfa : mg "law" = some (.ref fa))
    (hden : ∀ ns : List Int, ns.length ≤ 63 → (∀ z ∈ ns, Builtin.Int.intBits z ≤ 1048576) → ∃ M, m_law [.scr ns] [] = some (.val (.bl true), M)) :
    DEnd P w K q 6 63 "script" mg fa := by
  have t : TxOk P (txOf K mg) := txok hP hS X G c
  have e := hfa.symm.trans t.g_law
  cases e
  refine ⟨(txOf K mg).fx, _, [], m_law, rfl, ?_, ?_, ?_, fun base _ _ tb => ok_law t ⟨⟩, hden⟩
  · intro y hy
    cases hy
  · intro y hy
    cases hy
  · intro s v
    obtain ⟨oc, od, kV, doc, pm, an, cdv, ct, osl, hf, _⟩ := (F_law c).ex
    show BindsTo s (fdOf K (He.ga K "law")) _ _
    rw [hf]
    exact .of_eq rfl
end K62
open PySem PyProof.Rows
open PySem.W
set_option maxHeartbeats 0 in
theorem PySem.Challenge.cw_hollowrise_k62_minors_of_rows_holds : PySem.Challenge.rw_hollowrise_k62_minors_of_rows.Holds := by
  w_on; o_law
  refine HandSHeadRun.head_imp (r := OpenLaw.row PySem.Challenge.rw_hollowrise_k62_minors_of_rows) (q := K62.qz) (H := K62.hkz) (ob := DL.obZ 5 K62.fz K62.mz) (M := 30000) (loose := K62.nz) (d := HandSHeadRun.topDef (OpenLaw.row PySem.Challenge.rw_hollowrise_k62_minors_of_rows).prog 31) (kwd := []) (fun s => DL.obZ_eq s) K62.runz (by kernel_rfl) (by kernel_rfl) (by kernel_rfl) (by rfl) (by first | assumption | decide +kernel) (by decide +kernel) ⟨rfl, rfl, rfl, rfl, rfl, by decide +kernel⟩ ?hw ?hc
  case hw => w_witness2
  case hc =>
    refine DL.walk_Z (l := PySem.Challenge.rw_hollowrise_k62_minors_of_rows) (n := 63) (k := 6) (x := "script") rfl (by decide) (by kernel_rfl) ⟨rfl, by decide, by decide⟩ ?F
    intro w mg fa h Y G hmg0
    obtain ⟨K, KX, c⟩ := Y
    have hmgL : mg ("law" : PySem.Str) = some (.ref fa) := by
      have e : (HandSHeadRun.topDef (OpenLaw.row PySem.Challenge.rw_hollowrise_k62_minors_of_rows).prog 31).name = ("law" : PySem.Str) := by kernel_rfl
      rw [← e]
      exact hmg0
    exact ⟨K, KX, K62.dend (by kernel_rfl) (by kernel_rfl) KX G c hmgL  K62.law_true⟩
