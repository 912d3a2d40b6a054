import PyProof.Rows.All
import HandS.Base
import HandS.Call
import HandS.List
import HandS.Exc
import HandS.ExcOwn
import HandS.Lambda
import HandS.Comp
import HandS.TryOnly
import HandS.Gcd
import HandS.Wide
import HandS.IsInst
import PyProof.IsRules
import PyProof.TypeOfCall
import PyProof.ReprRoads
import PyProof.CallFns
import PyProof.SliceList
import HandS.Words
import HandS.WordsList
import HandS.WordsExc
import HandS.ExcIs
import KE.KTryMore
import HandS.EndTab
import HandS.Dict
import HandS.EndBits
import KE.KNest
import HandS.Iter
import HandS.ForSpec
import KE.KExcSuper
import HandS.HeadWalk
import HandS.CallRecv
import KE.KExcInit
import HandS.TupMul
import HandS.Conv
import PyProof.EqAt
import PyProof.ReprBulk
import PyProof.FitsInt
import HandS.Deep
import HandS.TupAny
import KE.GoesEnum
import KE.GoesNew
import HandS.Walk
import HandS.Zip
import HandS.SortInts
import HandS.CallLocal
import HandS.Defaults
import HandS.SortRule
import HandS.Head0
import HandS.Head1
import HandS.Head2
import HandS.Head3
import HandS.HeadHook1
import HandS.HeadHook2
import HandS.HeadHook4
import PySem.Challenge.RW_hollowrise_k02_fields_looked_at
import Wide.FinOn
import OpenK.AllK
import PyProof.EqKinds
import PyProof.TupleCall
import Open.SpecLaws
import KE.OsGo
set_option Elab.async false
set_option linter.all false
set_option maxRecDepth 100000
set_option maxHeartbeats 3900000
namespace DL
open PySem L2
inductive D where
  | non
  | bl (b : Bool)
  | int (i : Int)
  | str (x : Str)
  | tup (ds : List D)
  | lst (ds : List D)
  | scr (ns : List Int)
  | emp
  | loc (n : Nat)
  | exc (c : String) (fs : List (Str × D))
  | ty (n : String)
  | cls (c : String)
  | clo (f c : Addr) (q : Str) (σd : List (Option V)) (is : List Nat) (ds : List D)
  | ktp (ns : List Int)
  deriving Inhabited
/-- what has a number: a list, a dict with ints and texts as keys, one with tuples of these (l: while it is gone through) -/
inductive Ob where
  | lst (ds : List D)
  | dk (l : Bool) (kvs : List (Key × D))
  | dt (l : Bool) (kvs : List (List Key × D))
  deriving Inhabited
abbrev Store := List Ob
abbrev Env := List (Option D)
/-- a list of the text's own -/
def KL (K : PySem.W.Frag) (a : Addr) (xs : List V) : Prop :=
  ∃ (ob : Obj) (us : Array Value) (m : Nat), K.lookup a = some ob ∧ ob.cls = .type "list" ∧ ob.dict = none ∧ ob.data = .seq us m ∧ us.size ≤ sizeLine ∧ Vals xs us.toList
/-- a tuple of the text's own -/
def KT (K : PySem.W.Frag) (a : Addr) (xs : List V) : Prop :=
  ∃ (ob : Obj) (us : Array Value) (m : Nat), K.lookup a = some ob ∧ ob.cls = .type "tuple" ∧ ob.data = .seq us m ∧ us.size ≤ sizeLine ∧ Vals xs us.toList
/-- the fixed things: the text, the classes' places, the tables of code -/
structure Fx where
  K : PySem.W.Frag
  cl : String → Option Addr
  T : List (Addr × Str)
/-- an exception as an object: its class and its own dict's fields -/
def ExAt (H : Hp) (C : Addr) (a : Addr) (dd : Option Addr) : Prop := ∃ φ : Heap → Prop, H a = some (.ext φ) ∧ ∀ h, φ h → ∃ (oe : Obj) (vs : Array Value), h.get? a = some oe ∧ oe.cls = .ref C ∧ oe.dict = dd ∧ oe.data = .fields vs
mutual
def Rep (F : Fx) (L : List Addr) (H : Hp) : D → V → Prop
  | .non, v => v = .non
  | .bl b, v => v = .bl b
  | .int i, v => v = .int i
  | .str x, v => v = .str x
  | .tup ds, v => ∃ a vs, v = .ref a ∧ H a = some (.tup vs) ∧ Reps F L H ds vs
  | .lst ds, v => ∃ a vs, v = .ref a ∧ (H a = some (.lst vs) ∧ a ∉ L) ∧ Reps F L H ds vs
  | .scr ns, v => ∃ a, v = .ref a ∧ ((∃ o, H a = some (.frz o (.lst (ns.map V.int)))) ∨ KL F.K a (ns.map V.int))
  | .emp, v => ∃ a, v = .ref a ∧ H a = some (.dK []) ∧ a ∉ L
  | .loc n, v => ∃ a, v = .ref a ∧ L[n]? = some a
  | .ty n, v => v = .ty n
  | .cls c, v => ∃ C, v = .ref C ∧ F.cl c = some C
  | .ktp ns, v => ∃ a, v = .ref a ∧ KT F.K a (ns.map V.int)
  | .clo f c q σd is ds, v => (v = .ref f ∧ H c = some (LamX.CodeO c q)) ∧ ∃ vs, (∀ (j i : Nat), is[j]? = some i → ∃ w, vs[j]? = some w ∧ σd[i]? = some (some w)) ∧ Reps F L H ds vs
  | .exc c fs, v => ∃ a C dd, v = .ref a ∧ F.cl c = some C ∧ ExAt H C a dd ∧ a ∉ L ∧ (match dd with | none => fs = [] | some x => ∃ ws, H x = some (.xd ws) ∧ x ∉ L ∧ RepF F L H fs ws)
def Reps (F : Fx) (L : List Addr) (H : Hp) : List D → List V → Prop
  | [], vs => vs = []
  | d :: ds, vs => ∃ v r, vs = v :: r ∧ Rep F L H d v ∧ Reps F L H ds r
def RepF (F : Fx) (L : List Addr) (H : Hp) : List (Str × D) → List (Str × V) → Prop
  | [], ws => ws = []
  | (f, d) :: fs, ws => ∃ v r, ws = (f, v) :: r ∧ Rep F L H d v ∧ RepF F L H fs r
end
/-- pairs -/
def RepP {κ : Type} (F : Fx) (L : List Addr) (H : Hp) : List (κ × D) → List (κ × V) → Prop
  | [], vs => vs = []
  | (k, d) :: kvs, vs => ∃ v r, vs = (k, v) :: r ∧ Rep F L H d v ∧ RepP F L H kvs r
/-- it stands there, locked or not -/
def LkAt (H : Hp) (a : Addr) (l : Bool) (u : HO) : Prop := match l with
  | false => H a = some u
  | true => ∃ o, H a = some (.frz o u)
def ObR (F : Fx) (L : List Addr) (H : Hp) (a : Addr) : Ob → Prop
  | .lst ds => ∃ vs, H a = some (.lst vs) ∧ Reps F L H ds vs
  | .dk l kvs => ∃ vs, LkAt H a l (.dK vs) ∧ RepP F L H kvs vs
  | .dt l kvs => ∃ vs, LkAt H a l (.dT vs) ∧ RepP F L H kvs vs
/-- what the store keeps -/
def OwnO : HO → Prop
  | .lst _ => True
  | .dK _ => True
  | .dT _ => True
  | .frz _ u => match u with
    | .dK _ => True
    | .dT _ => True
    | _ => False
  | _ => False
theorem LkAt.any {H : Hp} {a : Addr} {l : Bool} {u : HO} (h : LkAt H a l u) : ∃ o, H a = some o ∧ (o = u ∨ ∃ ob, o = .frz ob u) := by
  cases l with
  | false => exact ⟨u, h, .inl rfl⟩
  | true =>
    obtain ⟨o, h⟩ := h
    exact ⟨_, h, .inr ⟨o, rfl⟩⟩
/-- the store as it lies -/
structure SM (F : Fx) (L : List Addr) (H : Hp) (M : Store) : Prop where
  len : L.length = M.length
  nd : L.Nodup
  obs : ∀ (n : Nat) (a : Addr) (o : Ob), L[n]? = some a → M[n]? = some o → ObR F L H a o
  tbs : LamX.Tabs F.T H
/-- no table -/
abbrev NoTb (o : HO) : Prop := ∀ ps, o ≠ .tbl ps
/-- one state after another: what was known stays, but for the store and the tables; the store's new places were free -/
structure Stp (L : List Addr) (H : Hp) (L' : List Addr) (H' : Hp) : Prop where
  ext : ∀ a o, H a = some o → a ∉ L → (∀ ps, o ≠ .tbl ps) → H' a = some o
  new : ∃ N, L' = L ++ N ∧ ∀ x ∈ N, ∀ o, H x = some o → ∃ ps, o = .tbl ps
  dom : ∀ a o, H a = some o → NoTb o → ∃ u, H' a = some u ∧ NoTb u
  frz : ∀ a o u, a ∈ L → H a = some (.frz o u) → H' a = some (.frz o u)
theorem Stp.refl (L : List Addr) (H : Hp) : Stp L H L H := ⟨fun _ _ e _ _ => e, ⟨[], (List.append_nil L).symm, fun x hx => absurd hx (by simp)⟩, fun a o e n => ⟨o, e, n⟩, fun _ _ _ _ e => e⟩
theorem Stp.trans {L L1 L2 : List Addr} {H H1 H2 : Hp} (a : Stp L H L1 H1) (b : Stp L1 H1 L2 H2) : Stp L H L2 H2 := by
  obtain ⟨N1, e1, f1⟩ := a.new
  obtain ⟨N2, e2, f2⟩ := b.new
  refine ⟨fun x o hx hn ht => b.ext x o (a.ext x o hx hn ht) ?_ ht, ⟨N1 ++ N2, by rw [e2, e1, List.append_assoc], fun x hx o ho => ?_⟩, fun x o hx ht => ?_, fun x o u hx e => b.frz x o u (by rw [e1]; exact List.mem_append_left _ hx) (a.frz x o u hx e)⟩
  · rw [e1]
    intro z
    rcases List.mem_append.mp z with z | z
    · exact hn z
    · obtain ⟨ps, q⟩ := f1 x z o hx
      exact ht ps q
  · rcases List.mem_append.mp hx with z | z
    · exact f1 x z o ho
    · apply Classical.byContradiction
      intro hc
      obtain ⟨u, h1, h2⟩ := a.dom x o ho (fun ps q => hc ⟨ps, q⟩)
      obtain ⟨ps, q⟩ := f2 x z u h1
      exact h2 ps q
  · obtain ⟨u, h1, h2⟩ := a.dom x o hx ht
    exact b.dom x u h1 h2
/-- a new object beside the store -/
theorem Stp.alloc {L : List Addr} {H : Hp} {p : Addr} {o : HO} (hp : H p = none) : Stp L H L (upd H p o) := by
  refine ⟨fun a u e _ _ => ?_, ⟨[], (List.append_nil L).symm, fun x hx => absurd hx (by simp)⟩, fun a u e n => ⟨u, ?_, n⟩, fun a o' u _ e => by rw [upd_ne (ne_of_none e hp)]; exact e⟩
  · rw [upd_ne (ne_of_none e hp)]
    exact e
  · rw [upd_ne (ne_of_none e hp)]
    exact e
/-- a new object of the store -/
theorem Stp.alloc' {L : List Addr} {H : Hp} {p : Addr} {o : HO} (hp : H p = none) : Stp L H (L ++ [p]) (upd H p o) := by
  refine ⟨(Stp.alloc hp).ext, ⟨[p], rfl, fun x hx u hu => ?_⟩, (Stp.alloc (L := L) hp).dom, (Stp.alloc (L := L) hp).frz⟩
  have e : x = p := by simpa using hx
  rw [e, hp] at hu
  cases hu
/-- an object of the store is changed -/
theorem Stp.put {L : List Addr} {H : Hp} {p : Addr} {o : HO} (hp : p ∈ L) (hz : ∀ o' u, H p ≠ some (.frz o' u)) (hn : NoTb o := by exact fun ps z => nomatch z) : Stp L H L (upd H p o) := by
  refine ⟨fun a u e n _ => ?_, ⟨[], (List.append_nil L).symm, fun x hx => absurd hx (by simp)⟩, fun a u e n => ?_, fun a o' u _ e => by rw [upd_ne (fun z => hz o' u (by rw [← z]; exact e))]; exact e⟩
  · rw [upd_ne (fun z => n (by rw [z]; exact hp))]
    exact e
  · by_cases h : a = p
    · rw [h, upd_same]
      exact ⟨o, rfl, hn⟩
    · rw [upd_ne h]
      exact ⟨u, e, n⟩
section
variable {F : Fx} {L L' : List Addr} {H H' : Hp} {M M' : Store}
theorem Stp.get (s : Stp L H L' H') {n : Nat} {a : Addr} (e : L[n]? = some a) : L'[n]? = some a := by
  obtain ⟨N, rfl, _⟩ := s.new
  rw [List.getElem?_append_left (List.getElem?_eq_some_iff.mp e).1]
  exact e
theorem Stp.out (s : Stp L H L' H') {a : Addr} {o : HO} (e : H a = some o) (n : a ∉ L) (ht : NoTb o := by exact fun ps z => nomatch z) : a ∉ L' := by
  obtain ⟨N, rfl, f⟩ := s.new
  intro z
  rcases List.mem_append.mp z with z | z
  · exact n z
  · obtain ⟨ps, q⟩ := f a z o e
    exact ht ps q
theorem SM.get (m : SM F L H M) {n : Nat} {a : Addr} (e : L[n]? = some a) : ∃ o, M[n]? = some o ∧ ObR F L H a o := by
  have h : n < M.length := by rw [← m.len]; exact (List.getElem?_eq_some_iff.mp e).1
  exact ⟨M[n], List.getElem?_eq_getElem h, m.obs n a _ e (List.getElem?_eq_getElem h)⟩
theorem SM.kind (m : SM F L H M) {a : Addr} (e : a ∈ L) : ∃ o, H a = some o ∧ OwnO o := by
  obtain ⟨n, hn⟩ := List.mem_iff_getElem?.mp e
  obtain ⟨o, _, r⟩ := m.get hn
  cases o with
  | lst ds =>
    obtain ⟨vs, h, _⟩ := r
    exact ⟨_, h, trivial⟩
  | dk l kvs =>
    obtain ⟨vs, h, _⟩ := r
    obtain ⟨o, h, rfl | ⟨ob, rfl⟩⟩ := h.any
    · exact ⟨_, h, trivial⟩
    · exact ⟨_, h, trivial⟩
  | dt l kvs =>
    obtain ⟨vs, h, _⟩ := r
    obtain ⟨o, h, rfl | ⟨ob, rfl⟩⟩ := h.any
    · exact ⟨_, h, trivial⟩
    · exact ⟨_, h, trivial⟩
/-- what is known to be of another kind is not of the store -/
theorem SM.not (m : SM F L H M) {a : Addr} {o : HO} (h : H a = some o) (n : ¬ OwnO o) : a ∉ L := fun z => by
  obtain ⟨u, e, q⟩ := m.kind z
  rw [h] at e
  cases e
  exact n q
/-- what is read of a thing that stays -/
theorem rd_stay (s : Stp L H L' H') {a : Addr} {u : HO} (h : Rd H a u) (n : a ∉ L) (ht : ∀ ps, u ≠ .tbl ps) : Rd H' a u := by
  rcases h with h | ⟨o, h⟩
  · exact .inl (s.ext a _ h n ht)
  · exact .inr ⟨o, s.ext a _ h n fun ps z => by cases z⟩
theorem tup_out (m : SM F L H M) {a : Addr} {vs : List V} (h : Rd H a (.tup vs)) : a ∉ L := by
  rcases h with h | ⟨o, h⟩
  · exact m.not h id
  · exact m.not h id
theorem sqt_stay (m : SM F L H M) (s : Stp L H L' H') {a : Addr} {vs : List V} (h : SqT F.K H a vs) : SqT F.K H' a vs := by
  rcases h with h | h
  · exact .inl (rd_stay s h (tup_out m h) fun ps z => by cases z)
  · exact .inr h
theorem exat_stay (s : Stp L H L' H') {C a : Addr} {dd : Option Addr} (h : ExAt H C a dd) (n : a ∉ L) : ExAt H' C a dd ∧ a ∉ L' := by
  obtain ⟨φ, e, q⟩ := h
  exact ⟨⟨φ, s.ext a _ e n fun ps z => (by cases z), q⟩, s.out e n⟩
mutual
theorem Rep.stay (m : SM F L H M) (s : Stp L H L' H') : ∀ (d : D) (v : V), Rep F L H d v → Rep F L' H' d v
  | .non, _, h => h
  | .bl _, _, h => h
  | .int _, _, h => h
  | .str _, _, h => h
  | .ty _, _, h => h
  | .cls _, _, h => h
  | .ktp _, _, h => h
  | .clo f c q σd is ds, _, h => by
    obtain ⟨⟨h1, h2⟩, vs, h3, h4⟩ := h
    refine ⟨⟨h1, s.ext c _ h2 (m.not h2 id) fun ps z => ?_⟩, vs, h3, Reps.stay m s ds vs h4⟩
    · unfold LamX.CodeO at z
      cases z
  | .tup ds, _, h => by
    obtain ⟨a, vs, e, t, r⟩ := h
    exact ⟨a, vs, e, s.ext a _ t (m.not t id) fun ps z => (by cases z), Reps.stay m s ds vs r⟩
  | .lst ds, _, h => by
    obtain ⟨a, vs, e, t, r⟩ := h
    exact ⟨a, vs, e, ⟨s.ext a _ t.1 t.2 fun ps z => (by cases z), s.out t.1 t.2⟩, Reps.stay m s ds vs r⟩
  | .scr ns, _, h => by
    obtain ⟨a, e, t⟩ := h
    refine ⟨a, e, ?_⟩
    rcases t with ⟨o, t⟩ | t
    · exact .inl ⟨o, s.ext a _ t (m.not t id) fun ps z => (by cases z)⟩
    · exact .inr t
  | .emp, _, h => by
    obtain ⟨a, e, t, n⟩ := h
    exact ⟨a, e, s.ext a _ t n fun ps z => (by cases z), s.out t n⟩
  | .loc n, _, h => by
    obtain ⟨a, e, t⟩ := h
    exact ⟨a, e, s.get t⟩
  | .exc c fs, _, h => by
    obtain ⟨a, C, dd, e, hc, x, n, k⟩ := h
    obtain ⟨x', n'⟩ := exat_stay s x n
    refine ⟨a, C, dd, e, hc, x', n', ?_⟩
    cases dd with
    | none => exact k
    | some y =>
      obtain ⟨ws, h1, h2, h3⟩ := k
      exact ⟨ws, s.ext y _ h1 h2 fun ps z => (by cases z), s.out h1 h2, RepF.stay m s fs ws h3⟩
theorem Reps.stay (m : SM F L H M) (s : Stp L H L' H') : ∀ (ds : List D) (vs : List V), Reps F L H ds vs → Reps F L' H' ds vs
  | [], _, h => h
  | d :: ds, _, h => by
    obtain ⟨v, r, e, h1, h2⟩ := h
    exact ⟨v, r, e, Rep.stay m s d v h1, Reps.stay m s ds r h2⟩
theorem RepF.stay (m : SM F L H M) (s : Stp L H L' H') : ∀ (fs : List (Str × D)) (ws : List (Str × V)), RepF F L H fs ws → RepF F L' H' fs ws
  | [], _, h => h
  | (f, d) :: fs, _, h => by
    obtain ⟨v, r, e, h1, h2⟩ := h
    exact ⟨v, r, e, Rep.stay m s d v h1, RepF.stay m s fs r h2⟩
end
end
theorem RepP.stay {κ : Type} {F : Fx} {L L' : List Addr} {H H' : Hp} {M : Store} (m : SM F L H M) (s : Stp L H L' H') : ∀ (kvs : List (κ × D)) (vs : List (κ × V)), RepP F L H kvs vs → RepP F L' H' kvs vs
  | [], _, h => h
  | (k, d) :: kvs, _, h => by
    obtain ⟨v, r, e, h1, h2⟩ := h
    exact ⟨v, r, e, Rep.stay m s d v h1, RepP.stay m s kvs r h2⟩
theorem LkAt.imp {H H' : Hp} {a : Addr} {l : Bool} {u : HO} (ho : OwnO u) (hf : ∀ o, OwnO (.frz o u)) (e : ∀ o, H a = some o → OwnO o → H' a = some o) (h : LkAt H a l u) : LkAt H' a l u := by
  cases l with
  | false => exact e _ h ho
  | true =>
    obtain ⟨o, h⟩ := h
    exact ⟨o, e _ h (hf o)⟩
theorem ObR.stay {F : Fx} {L L' : List Addr} {H H' : Hp} {M : Store} {a : Addr} (m : SM F L H M) (s : Stp L H L' H') (e : ∀ o, H a = some o → OwnO o → H' a = some o) : ∀ o : Ob, ObR F L H a o → ObR F L' H' a o
  | .lst ds, ⟨vs, h, r⟩ => ⟨vs, e _ h trivial, Reps.stay m s ds vs r⟩
  | .dk l ds, ⟨vs, h, r⟩ => ⟨vs, h.imp trivial (fun _ => trivial) e, RepP.stay m s ds vs r⟩
  | .dt l ds, ⟨vs, h, r⟩ => ⟨vs, h.imp trivial (fun _ => trivial) e, RepP.stay m s ds vs r⟩
/-- the names' values -/
def EnvR (F : Fx) (L : List Addr) (H : Hp) (e : Env) (σ : St) : Prop := ∀ (i : Nat) (d : D), e[i]? = some (some d) → ∃ v, σ[i]? = some (some v) ∧ Rep F L H d v
structure SR (F : Fx) (L : List Addr) (H : Hp) (M : Store) (e : Env) (σ : St) : Prop where
  l : σ.length = e.length
  m : SM F L H M
  e : EnvR F L H e σ
theorem EnvR.stay {F : Fx} {L L' : List Addr} {H H' : Hp} {M : Store} {e : Env} {σ : St} (m : SM F L H M) (s : Stp L H L' H') (h : EnvR F L H e σ) : EnvR F L' H' e σ := fun i d q => by
  obtain ⟨v, h1, h2⟩ := h i d q
  exact ⟨v, h1, Rep.stay m s d v h2⟩
theorem SR.stay {F : Fx} {L L' : List Addr} {H H' : Hp} {M M' : Store} {e : Env} {σ : St} (h : SR F L H M e σ) (s : Stp L H L' H') (m : SM F L' H' M') : SR F L' H' M' e σ := ⟨h.l, m, h.e.stay h.m s⟩
/-- an object beside the store leaves the store -/
theorem SM.alloc {F : Fx} {L : List Addr} {H : Hp} {M : Store} {p : Addr} {o : HO} (m : SM F L H M) (hp : H p = none) : SM F L (upd H p o) M := by
  have s : Stp L H L (upd H p o) := Stp.alloc hp
  refine ⟨m.len, m.nd, fun n a ob h1 h2 => ?_, m.tbs.ext fun b x e => by rw [upd_ne (ne_of_none e hp)]; exact e⟩
  exact ObR.stay m s (fun u hu _ => by rw [upd_ne (ne_of_none hu hp)]; exact hu) ob (m.obs n a ob h1 h2)
/-- an exception that leaves: its class, its fields by its own dict -/
def ExR (F : Fx) (L : List Addr) (H : Hp) (c : String) (fs : List (Str × D)) (cls : Value) (dd : Option Addr) : Prop :=
  ∃ C, F.cl c = some C ∧ cls = .ref C ∧ (match dd with | none => fs = [] | some x => ∃ ws, H x = some (.xd ws) ∧ x ∉ L ∧ RepF F L H fs ws)
/-- a result: a value, or an exception; and the store. none: nothing is said -/
inductive Out (α : Type) where
  | val (d : α)
  | exc (c : String) (fs : List (Str × D))
abbrev RD (α : Type) := Option (Out α × Store)
abbrev RE := RD D
abbrev DenE := Env → Store → RE
def ok {α : Type} (d : α) (M : Store) : RD α := some (.val d, M)
def bindE {α β : Type} (r : RD α) (f : α → Store → RD β) : RD β := match r with
  | some (.val d, M) => f d M
  | some (.exc c fs, M) => some (.exc c fs, M)
  | none => none
/-- what is wanted of a result; rp: how it lies -/
def PostG {α β : Type} (F : Fx) (rp : List Addr → Hp → α → β → Prop) (e : Env) (L : List Addr) (H : Hp) (σ : St) (W : WX) (Q : β → Hp → Prop) : RD α → Prop
  | some (.val d, M') => ∀ (L' : List Addr) (H' : Hp) (v : β), Stp L H L' H' → SR F L' H' M' e σ → rp L' H' d v → Q v H'
  | some (.exc c fs, M') => ∀ (L' : List Addr) (H' : Hp) (cls : Value) (dd : Option Addr), Stp L H L' H' → SR F L' H' M' e σ → ExR F L' H' c fs cls dd → W cls dd σ H'
  | none => False
abbrev Post (F : Fx) := PostG (α := D) (β := V) F (Rep F)
abbrev PostA (F : Fx) := PostG (α := List D) (β := List V) F (Reps F)
/-- the expression x is den; a test; arguments -/
def DE (F : Fx) (X : Cx) (W : WX) (x : Expr) (den : DenE) : Prop :=
  ∃ t, PE X x t ∧ ∀ (e : Env) (M : Store) (L : List Addr) (σ : St) (H : Hp) (Q : VK), SR F L H M e σ → Post F e L H σ W Q (den e M) → t σ H Q
def DT (F : Fx) (X : Cx) (W : WX) (x : Expr) (den : DenE) : Prop :=
  ∃ t, PT X x t ∧ ∀ (e : Env) (M : Store) (L : List Addr) (σ : St) (H : Hp) (Q : Bool → Hp → Prop), SR F L H M e σ → Post F e L H σ W (fun v H' => ∃ b, v = .bl b ∧ Q b H') (den e M) → t σ H Q
def DW (F : Fx) (X : Cx) (W : WX) (x : Expr) (den : DenE) : Prop :=
  ∃ t, PW X x t ∧ ∀ (e : Env) (M : Store) (L : List Addr) (σ : St) (H : Hp) (Q : Bool → Hp → Prop), SR F L H M e σ → Post F e L H σ W (fun v H' => ∃ b, v = .bl b ∧ Q b H') (den e M) → t σ H Q
def DA (F : Fx) (X : Cx) (W : WX) (xs : List Expr) (den : Env → Store → RD (List D)) : Prop :=
  ∃ t, PA X xs t ∧ ∀ (e : Env) (M : Store) (L : List Addr) (σ : St) (H : Hp) (Q : List V → Hp → Prop), SR F L H M e σ → PostA F e L H σ W Q (den e M) → t σ H Q
section
variable {α β γ δ : Type} {F : Fx} {rp : List Addr → Hp → α → β → Prop} {rq : List Addr → Hp → γ → δ → Prop} {e : Env} {L L1 : List Addr} {H H1 : Hp} {M : Store} {σ : St} {W : WX} {Q Q' : β → Hp → Prop} {P : δ → Hp → Prop}
/-- as Post, from a state further on -/
theorem PostG.go (s : Stp L H L1 H1) : ∀ {r : RD α}, PostG F rp e L H σ W Q r → PostG F rp e L1 H1 σ W Q r
  | some (.val d, M'), h => fun L' H' v s' r rv => h L' H' v (s.trans s') r rv
  | some (.exc c fs, M'), h => fun L' H' cls dd s' r rv => h L' H' cls dd (s.trans s') r rv
  | none, h => h
theorem PostG.imp (k : ∀ v H', Q v H' → Q' v H') : ∀ {r : RD α}, PostG F rp e L H σ W Q r → PostG F rp e L H σ W Q' r
  | some (.val d, M'), h => fun L' H' v s' r rv => k v H' (h L' H' v s' r rv)
  | some (.exc c fs, M'), h => h
  | none, h => h
/-- one behind the other -/
theorem PostG.bind {f : α → Store → RD γ} (k : ∀ d M1 L1 H1 v, Stp L H L1 H1 → SR F L1 H1 M1 e σ → rp L1 H1 d v → PostG F rq e L1 H1 σ W P (f d M1) → Q v H1) :
    ∀ {r : RD α}, PostG F rq e L H σ W P (bindE r f) → PostG F rp e L H σ W Q r
  | some (.val d, M1), h => fun L1 H1 v s r rv => k d M1 L1 H1 v s r rv (PostG.go s h)
  | some (.exc c fs, M1), h => h
  | none, h => h
theorem PostG.ok {d : α} {v : β} (h : PostG F rp e L H σ W Q (ok d M)) (r : SR F L H M e σ) (rv : rp L H d v) : Q v H := h L H v (Stp.refl L H) r rv
end
end DL
namespace DL
open PySem L2
def nameD (i : Nat) : DenE := fun e M => match e[i]? with
  | some (some d) => ok d M
  | _ => none
def cD (d : D) : DenE := fun _ M => ok d M
/-- the list behind a value -/
def getL (M : Store) : D → Option (List D)
  | .lst ds => some ds
  | .scr ns => some (ns.map D.int)
  | .loc n => match M[n]? with
    | some (.lst ds) => some ds
    | _ => none
  | _ => none
def truD (M : Store) : D → Option Bool
  | .non => some false
  | .bl b => some b
  | .int i => some (i != 0)
  | .str x => if x.length ≤ sizeLine then some ((x.length : Int) != 0) else none
  | .tup ds => some (!ds.isEmpty)
  | .lst ds => some (!ds.isEmpty)
  | .scr ns => some (!(ns.map D.int).isEmpty)
  | .emp => some false
  | .loc n => (getL M (.loc n)).map fun ds => !ds.isEmpty
  | _ => none
section
variable {F : Fx} {X : Cx} {W : WX} {L : List Addr} {H : Hp} {M : Store} {e : Env} {σ : St}
theorem de_name (i : Nat) {x : Str} {pos : Pos} (hN : X.N[i]? = some x := by rfl) (hv : Vis X.env.scope x := by first | exact Or.inl rfl | exact Or.inr (Or.inl rfl) | exact Or.inr (Or.inr rfl)) (h1 : (x == ("__debug__" : Str)) = false := by decide)
    (h2 : (x == ("__classdict__" : Str)) = false := by decide) : DE F X W (.Name x pos) (nameD i) := by
  refine ⟨tVar i, pe_var hN hv h1 h2, fun e M L σ H Q r p => ?_⟩
  unfold nameD at p
  split at p
  · rename_i d hd
    obtain ⟨v, a, b⟩ := r.e i d hd
    exact ⟨v, a, p.ok r b⟩
  · exact False.elim p
theorem de_int {i : Int} {j pos} : DE F X W (.Constant (.int i) j pos) (cD (.int i)) := ⟨_, pe_int, fun e M L σ H Q r p => p.ok r rfl⟩
theorem de_bl {b : Bool} {j pos} : DE F X W (.Constant (.bool b) j pos) (cD (.bl b)) := ⟨_, pe_bl, fun e M L σ H Q r p => p.ok r rfl⟩
theorem de_non {j pos} : DE F X W (.Constant .none j pos) (cD .non) := ⟨_, pe_non, fun e M L σ H Q r p => p.ok r rfl⟩
theorem de_str {x : Str} {j pos} : DE F X W (.Constant (.str x) j pos) (cD (.str x)) := ⟨_, pe_str, fun e M L σ H Q r p => p.ok r rfl⟩
/-- a list stands there -/
def isL (M : Store) (n : Nat) : Bool := match M[n]? with
  | some (.lst _) => true
  | _ => false
theorem isL_at {n : Nat} {ds : List D} (h : M[n]? = some (.lst ds)) : isL M n = true := by
  unfold isL
  rw [h]
theorem isL_out {n : Nat} (h : isL M n = true) : ∃ ds, M[n]? = some (.lst ds) := by
  unfold isL at h
  split at h
  · exact ⟨_, by assumption⟩
  · cases h
theorem SM.lst (m : SM F L H M) {n : Nat} {a : Addr} (e : L[n]? = some a) (h : isL M n = true) : ∃ vs, H a = some (.lst vs) := by
  obtain ⟨ds, h⟩ := isL_out h
  obtain ⟨o, h1, h2⟩ := m.get e
  rw [h] at h1
  cases h1
  obtain ⟨vs, h3, _⟩ := h2
  exact ⟨vs, h3⟩
/-- reading behind what is represented -/
theorem reps_len : ∀ {ds : List D} {vs : List V}, Reps F L H ds vs → ds.length = vs.length
  | [], _, h => by
    have h' : _ = [] := h
    rw [h']
    rfl
  | d :: ds, _, h => by
    obtain ⟨v, r, rfl, _, h2⟩ := h
    rw [List.length_cons, List.length_cons, reps_len h2]
theorem reps_get : ∀ {ds : List D} {vs : List V} {j : Nat} {d : D}, Reps F L H ds vs → ds[j]? = some d → ∃ v, vs[j]? = some v ∧ Rep F L H d v
  | [], _, _, _, _, q => by simp at q
  | a :: ds, _, 0, d, h, q => by
    obtain ⟨v, r, rfl, h1, h2⟩ := h
    have q' : a = d := by simpa using q
    subst q'
    exact ⟨v, rfl, h1⟩
  | a :: ds, _, j + 1, d, h, q => by
    obtain ⟨v, r, rfl, h1, h2⟩ := h
    obtain ⟨u, h3, h4⟩ := reps_get (j := j) h2 (by simpa using q)
    exact ⟨u, by simpa using h3, h4⟩
theorem reps_app : ∀ {ds es : List D} {vs ws : List V}, Reps F L H ds vs → Reps F L H es ws → Reps F L H (ds ++ es) (vs ++ ws)
  | [], _, _, _, h, k => by
    have h' : _ = [] := h
    rw [h']
    exact k
  | d :: ds, _, _, _, h, k => by
    obtain ⟨v, r, rfl, h1, h2⟩ := h
    exact ⟨v, r ++ _, rfl, h1, reps_app h2 k⟩
theorem reps_snoc {ds : List D} {vs : List V} {d : D} {v : V} (h : Reps F L H ds vs) (k : Rep F L H d v) : Reps F L H (ds ++ [d]) (vs ++ [v]) := reps_app h ⟨v, [], rfl, k, rfl⟩
theorem reps_set : ∀ {ds : List D} {vs : List V} {d : D} {v : V} (j : Nat), Reps F L H ds vs → Rep F L H d v → Reps F L H (ds.set j d) (vs.set j v)
  | [], _, _, _, j, h, _ => by
    have h' : _ = [] := h
    rw [h']
    exact (rfl : ([] : List V) = [])
  | a :: ds, _, d, v, 0, h, k => by
    obtain ⟨w, r, rfl, h1, h2⟩ := h
    exact ⟨v, r, rfl, k, h2⟩
  | a :: ds, _, d, v, j + 1, h, k => by
    obtain ⟨w, r, rfl, h1, h2⟩ := h
    exact ⟨w, _, rfl, h1, reps_set j h2 k⟩
theorem reps_ints : ∀ (ns : List Int), Reps F L H (ns.map D.int) (ns.map V.int)
  | [] => rfl
  | n :: ns => ⟨.int n, _, rfl, rfl, reps_ints ns⟩
/-- the list behind a represented value -/
theorem getL_sq (hm : SM F L H M) {d : D} {ds : List D} {v : V} (g : getL M d = some ds) (r : Rep F L H d v) : ∃ a vs, v = .ref a ∧ SqL F.K H a vs ∧ Reps F L H ds vs := by
  cases d with
  | lst es =>
    have g' : es = ds := Option.some.inj g
    subst g'
    obtain ⟨a, vs, e1, e2, e3⟩ := r
    exact ⟨a, vs, e1, .inl (.inl e2.1), e3⟩
  | scr ns =>
    have g' : ns.map D.int = ds := Option.some.inj g
    subst g'
    obtain ⟨a, e1, e2⟩ := r
    refine ⟨a, _, e1, ?_, reps_ints ns⟩
    rcases e2 with ⟨o, e2⟩ | e2
    · exact .inl (.inr ⟨o, e2⟩)
    · exact .inr e2
  | loc n =>
    obtain ⟨a, e1, e2⟩ := r
    obtain ⟨o, h1, h2⟩ := hm.get e2
    cases o with
    | lst es =>
      unfold getL at g
      dsimp only at g
      rw [h1] at g
      have g' : es = ds := Option.some.inj g
      subst g'
      obtain ⟨vs, h3, h4⟩ := h2
      exact ⟨a, vs, e1, .inl (.inl h3), h4⟩
    | dk _ _ => unfold getL at g; dsimp only at g; rw [h1] at g; cases g
    | dt _ _ => unfold getL at g; dsimp only at g; rw [h1] at g; cases g
  | non => exact nomatch g
  | bl b => exact nomatch g
  | int i => exact nomatch g
  | str x => exact nomatch g
  | tup es => exact nomatch g
  | emp => exact nomatch g
  | exc c fs => exact nomatch g
  | ty c => exact nomatch g
  | cls c => exact nomatch g
  | clo f c q σd is ds => exact nomatch g
  | ktp ns => exact nomatch g
theorem tru_of (hm : SM F L H M) {d : D} {v : V} {b : Bool} (g : truD M d = some b) (r : Rep F L H d v) : TruV F.K v H b := by
  have emp : ∀ {ds : List D} {vs : List V}, Reps F L H ds vs → (!ds.isEmpty) = !vs.isEmpty := fun {ds vs} h => by
    have l := reps_len h
    cases ds with
    | nil =>
      cases vs with
      | nil => rfl
      | cons y ys => simp at l
    | cons x xs =>
      cases vs with
      | nil => simp at l
      | cons y ys => rfl
  cases d with
  | non =>
    have r' : v = .non := r
    subst r'
    exact (Option.some.inj g).symm
  | bl c =>
    have r' : v = .bl c := r
    subst r'
    exact (Option.some.inj g).symm
  | int i =>
    have r' : v = .int i := r
    subst r'
    exact (Option.some.inj g).symm
  | str x =>
    have r' : v = .str x := r
    subst r'
    unfold truD at g
    dsimp only at g
    split at g
    · rename_i hx
      exact ⟨hx, (Option.some.inj g).symm⟩
    · cases g
  | tup ds =>
    obtain ⟨a, vs, rfl, e2, e3⟩ := r
    have e2 := (Or.inl (Or.inl e2) : SqT F.K H a vs)
    have g' : (!ds.isEmpty) = b := Option.some.inj g
    exact .inr (.inl ⟨vs, e2, by rw [← g', emp e3]⟩)
  | lst ds =>
    obtain ⟨a, vs, rfl, e2, e3⟩ := getL_sq (ds := ds) hm rfl r
    have g' : (!ds.isEmpty) = b := Option.some.inj g
    exact .inl ⟨vs, e2, by rw [← g', emp e3]⟩
  | scr ns =>
    obtain ⟨a, vs, rfl, e2, e3⟩ := getL_sq (ds := ns.map D.int) hm rfl r
    have g' : (!(ns.map D.int).isEmpty) = b := Option.some.inj g
    exact .inl ⟨vs, e2, by rw [← g', emp e3]⟩
  | emp =>
    obtain ⟨a, rfl, e2, _⟩ := r
    exact .inr (.inr ⟨[], e2, (Option.some.inj g).symm⟩)
  | loc n =>
    unfold truD at g
    dsimp only at g
    cases q : getL M (.loc n) with
    | none => rw [q] at g; cases g
    | some ds =>
      rw [q] at g
      obtain ⟨a, vs, rfl, e2, e3⟩ := getL_sq hm q r
      have g' : (!ds.isEmpty) = b := Option.some.inj g
      exact .inl ⟨vs, e2, by rw [← g', emp e3]⟩
  | exc c fs => cases g
  | ty c => cases g
  | cls c => cases g
  | clo f c q σd is ds => cases g
  | ktp ns => cases g
/-- a value as a test -/
def asT (d : D) (M : Store) : RE := match truD M d with
  | some b => ok (.bl b) M
  | none => none
theorem dt_val (hK : X.K = F.K := by rfl) {x : Expr} {da : DenE} (ha : DE F X W x da) (he : ∀ whole, isTrue x X.env whole = (do let v ← whole; standAt x.pos; holding [v] (truthy v)) := by intro _; rfl) : DT F X W x (fun e M => bindE (da e M) asT) := by
  obtain ⟨t, p1, p2⟩ := ha
  refine ⟨_, pt_truth p1 he, fun e M L σ H Q r p => ?_⟩
  refine p2 e M L σ H _ r (PostG.bind (fun d M1 L1 H1 v s1 r1 rv q => ?_) p)
  unfold asT at q
  split at q
  · rename_i b hb
    obtain ⟨b', e1, e2⟩ := q.ok r1 rfl
    cases e1
    exact ⟨b, by rw [hK]; exact tru_of r1.m hb rv, e2⟩
  · exact False.elim q
/-- an operator by its reading r does f -/
def OpOk (F : Fx) (r : R2) (f : D → D → Store → RE) : Prop := ∀ (d1 d2 : D) (M : Store) (L : List Addr) (H : Hp) (e : Env) (σ : St) (W : WX) (v1 v2 : V) (Q : VK), SR F L H M e σ → Rep F L H d1 v1 → Rep F L H d2 v2 → Post F e L H σ W Q (f d1 d2 M) → r v1 v2 H Q
def binD (f : D → D → Store → RE) (da db : DenE) : DenE := fun e M => bindE (da e M) fun d1 M1 => bindE (db e M1) fun d2 M2 => f d1 d2 M2
theorem bin_ok {x y : Expr} {da db : DenE} {ta tb : TE} {r : R2} {f : D → D → Store → RE} (hf : OpOk F r f)
    (ha : ∀ (e : Env) (M : Store) (L : List Addr) (σ : St) (H : Hp) (Q : VK), SR F L H M e σ → Post F e L H σ W Q (da e M) → ta σ H Q)
    (hb : ∀ (e : Env) (M : Store) (L : List Addr) (σ : St) (H : Hp) (Q : VK), SR F L H M e σ → Post F e L H σ W Q (db e M) → tb σ H Q)
    (e : Env) (M : Store) (L : List Addr) (σ : St) (H : Hp) (Q : VK) (sr : SR F L H M e σ) (p : Post F e L H σ W Q (binD f da db e M)) : tOp r ta tb σ H Q := by
  refine ha e M L σ H _ sr (PostG.bind (fun d1 M1 L1 H1 v1 s1 r1 rv1 q => ?_) p)
  refine hb e M1 L1 σ H1 _ r1 (PostG.bind (fun d2 M2 L2 H2 v2 s2 r2 rv2 q2 => ?_) q)
  exact hf d1 d2 M2 L2 H2 e σ W v1 v2 Q r2 (Rep.stay r1.m s2 d1 v1 rv1) rv2 q2
theorem de_bin {op : Operator} {r : R2} {f : D → D → Store → RE} {x y : Expr} {da db : DenE} {pos : Pos} (hf : OpOk F r f) (ho : OpR X (binaryOp op) r) (ha : DE F X W x da) (hb : DE F X W y db) : DE F X W (.BinOp x op y pos) (binD f da db) := by
  obtain ⟨ta, pa, qa⟩ := ha
  obtain ⟨tb, pb, qb⟩ := hb
  exact ⟨_, pe_op ho pa pb, bin_ok (x := x) (y := y) hf qa qb⟩
theorem de_cmp {op : CmpOp} {r : R2} {f : D → D → Store → RE} {x y : Expr} {da db : DenE} {pos : Pos} (hf : OpOk F r f) (ho : OpR X (compareOp op) r) (ha : DE F X W x da) (hb : DE F X W y db) (hm : behindInMarks op y = false) : DE F X W (.Compare x [op] [y] pos) (binD f da db) := by
  obtain ⟨ta, pa, qa⟩ := ha
  obtain ⟨tb, pb, qb⟩ := hb
  exact ⟨_, pe_cmpR ho pa pb hm, bin_ok (x := x) (y := y) hf qa qb⟩
theorem dt_cmp {op : CmpOp} {r : R2} {f : D → D → Store → RE} {x y : Expr} {da db : DenE} {pos : Pos} (hf : OpOk F r f) (ho : OpR X (compareOp op) r) (ha : DE F X W x da) (hb : DE F X W y db) (hm : behindInMarks op y = false) : DT F X W (.Compare x [op] [y] pos) (binD f da db) := by
  obtain ⟨ta, pa, qa⟩ := ha
  obtain ⟨tb, pb, qb⟩ := hb
  exact ⟨_, pt_cmpR ho pa pb hm, fun e M L σ H Q sr p => bin_ok (x := x) (y := y) hf qa qb e M L σ H _ sr p⟩
theorem orR {g : Value → Value → Sem Value} {r r' : R2} (h : OpR X g r) (h' : OpR X g r') : OpR X g (fun x y H Q => r x y H Q ∨ r' x y H Q) := by
  intro p₀ s₀ σ₀ H₀ x y v u Q₀ I₀ rx ry q
  rcases q with q | q
  · exact h p₀ s₀ σ₀ H₀ x y v u Q₀ I₀ rx ry q
  · exact h' p₀ s₀ σ₀ H₀ x y v u Q₀ I₀ rx ry q
def unD (f : D → Store → RE) (da : DenE) : DenE := fun e M => bindE (da e M) f
def UnOk (F : Fx) (r : V → Hp → VK → Prop) (f : D → Store → RE) : Prop := ∀ (d : D) (M : Store) (L : List Addr) (H : Hp) (e : Env) (σ : St) (W : WX) (v : V) (Q : VK), SR F L H M e σ → Rep F L H d v → Post F e L H σ W Q (f d M) → r v H Q
theorem de_un {op : UnaryOp} {r : V → Hp → VK → Prop} {f : D → Store → RE} {x : Expr} {da : DenE} {pos : Pos} (hf : UnOk F r f) (ho : UnR X (unaryOp op) r) (ha : DE F X W x da) : DE F X W (.UnaryOp op x pos) (unD f da) := by
  obtain ⟨ta, pa, qa⟩ := ha
  exact ⟨_, pe_un ho pa, fun e M L σ H Q sr p => qa e M L σ H _ sr (PostG.bind (fun d1 M1 L1 H1 v1 s1 r1 rv1 q => hf d1 M1 L1 H1 e σ W v1 Q r1 rv1 q) p)⟩
def negF : D → Store → RE
  | .int i, M => ok (.int (-i)) M
  | _, _ => none
theorem neg_ok : UnOk F (rU fun i => .int (-i)) negF := fun d M L H e σ W v Q sr rv p => by
  unfold negF at p
  split at p
  · rename_i i
    have q : v = .int i := rv
    subst q
    exact ⟨i, rfl, p.ok sr rfl⟩
  · exact False.elim p
/-- two ints -/
def intF (c : Int → Int → Bool) (g : Int → Int → D) : D → D → Store → RE
  | .int i, .int j, M => if c i j = true then ok (g i j) M else none
  | _, _, _ => none
theorem int_ok {C : Int → Int → Prop} {c : Int → Int → Bool} {g : Int → Int → V} {g' : Int → Int → D} (hc : ∀ i j, c i j = true → C i j) (hg : ∀ L H i j, Rep F L H (g' i j) (g i j)) : OpOk F (rI C g) (intF c g') := fun d1 d2 M L H e σ W v1 v2 Q sr r1 r2 p => by
  unfold intF at p
  split at p
  · rename_i i j
    have q1 : v1 = .int i := r1
    have q2 : v2 = .int j := r2
    subst q1 q2
    split at p
    · rename_i h
      exact ⟨i, j, rfl, rfl, hc i j h, p.ok sr (hg L H i j)⟩
    · exact False.elim p
  · exact False.elim p
def intF0 (g : Int → Int → D) : D → D → Store → RE
  | .int i, .int j, M => ok (g i j) M
  | _, _, _ => none
theorem int_ok0 {g : Int → Int → V} {g' : Int → Int → D} (hg : ∀ L H i j, Rep F L H (g' i j) (g i j)) : OpOk F (rI0 g) (intF0 g') := fun d1 d2 M L H e σ W v1 v2 Q sr r1 r2 p => by
  unfold intF0 at p
  split at p
  · rename_i i j
    have q1 : v1 = .int i := r1
    have q2 : v2 = .int j := r2
    subst q1 q2
    exact ⟨i, j, rfl, rfl, p.ok sr (hg L H i j)⟩
  · exact False.elim p
abbrev subF := intF0 fun i j => .int (i - j)
theorem sub_ok : OpOk F (rI0 fun i j => .int (i - j)) subF := int_ok0 fun _ _ _ _ => rfl
abbrev andF := intF0 fun i j => .int (Builtin.bitAnd i j)
theorem and_ok : OpOk F (rI0 fun i j => .int (Builtin.bitAnd i j)) andF := int_ok0 fun _ _ _ _ => rfl
abbrev ltF := intF0 fun i j => .bl (decide (i < j))
theorem lt_ok : OpOk F (rI0 fun i j => .bl (decide (i < j))) ltF := int_ok0 fun _ _ _ _ => rfl
abbrev leF := intF0 fun i j => .bl (decide (i ≤ j))
theorem le_ok : OpOk F (rI0 fun i j => .bl (decide (i ≤ j))) leF := int_ok0 fun _ _ _ _ => rfl
abbrev gtF := intF0 fun i j => .bl (decide (j < i))
theorem gt_ok : OpOk F (rI0 fun i j => .bl (decide (j < i))) gtF := int_ok0 fun _ _ _ _ => rfl
abbrev geF := intF0 fun i j => .bl (decide (j ≤ i))
theorem ge_ok : OpOk F (rI0 fun i j => .bl (decide (j ≤ i))) geF := int_ok0 fun _ _ _ _ => rfl
end
end DL
namespace DL
open PySem L2
section
variable {F : Fx} {X : Cx} {W : WX} {L : List Addr} {H : Hp} {M : Store} {e : Env} {σ : St}
theorem fresh_out (m : SM F L H M) {p : Addr} (hp : H p = none) : p ∉ L := fun z => by
  obtain ⟨o, q, _⟩ := m.kind z
  rw [hp] at q
  cases q
/-- a new list, a new tuple, as a value -/
theorem post_lst {Q : VK} {ds : List D} {vs : List V} {p : Addr} (h : Post F e L H σ W Q (ok (.lst ds) M)) (sr : SR F L H M e σ) (r : Reps F L H ds vs) (hp : H p = none) : Q (.ref p) (upd H p (.lst vs)) := by
  have s : Stp L H L (upd H p (.lst vs)) := Stp.alloc hp
  exact h L _ (.ref p) s (sr.stay s (sr.m.alloc hp)) ⟨p, vs, rfl, ⟨upd_same, fresh_out sr.m hp⟩, Reps.stay sr.m s ds vs r⟩
theorem post_tup {Q : VK} {ds : List D} {vs : List V} {p : Addr} (h : Post F e L H σ W Q (ok (.tup ds) M)) (sr : SR F L H M e σ) (r : Reps F L H ds vs) (hp : H p = none) : Q (.ref p) (upd H p (.tup vs)) := by
  have s : Stp L H L (upd H p (.tup vs)) := Stp.alloc hp
  exact h L _ (.ref p) s (sr.stay s (sr.m.alloc hp)) ⟨p, vs, rfl, upd_same, Reps.stay sr.m s ds vs r⟩
/-- the list behind a value that is no script -/
def getW (M : Store) : D → Option (List D)
  | .scr _ => none
  | d => getL M d
theorem getW_lst (hm : SM F L H M) {d : D} {ds : List D} {v : V} (g : getW M d = some ds) (r : Rep F L H d v) : ∃ a vs, v = .ref a ∧ H a = some (.lst vs) ∧ Reps F L H ds vs := by
  cases d with
  | lst es =>
    have g' : es = ds := Option.some.inj g
    subst g'
    obtain ⟨a, vs, e1, e2, e3⟩ := r
    exact ⟨a, vs, e1, e2.1, e3⟩
  | loc n =>
    obtain ⟨a, e1, e2⟩ := r
    obtain ⟨o, h1, h2⟩ := hm.get e2
    cases o with
    | lst es =>
      unfold getW getL at g
      dsimp only at g
      rw [h1] at g
      have g' : es = ds := Option.some.inj g
      subst g'
      obtain ⟨vs, h3, h4⟩ := h2
      exact ⟨a, vs, e1, h3, h4⟩
    | dk _ _ => unfold getW getL at g; dsimp only at g; rw [h1] at g; cases g
    | dt _ _ => unfold getW getL at g; dsimp only at g; rw [h1] at g; cases g
  | scr ns => exact nomatch g
  | non => exact nomatch g
  | bl b => exact nomatch g
  | int i => exact nomatch g
  | str x => exact nomatch g
  | tup es => exact nomatch g
  | emp => exact nomatch g
  | exc c fs => exact nomatch g
  | ty c => exact nomatch g
  | cls c => exact nomatch g
  | clo f c q σd is ds => exact nomatch g
  | ktp ns => exact nomatch g
def addF : D → D → Store → RE
  | .int i, .int j, M => ok (.int (i + j)) M
  | .str x, .str y, M => if x.length + y.length ≤ sizeLine then ok (.str (x ++ y)) M else none
  | .tup xs, .tup ys, M => if xs.length + ys.length ≤ sizeLine ∧ xs ≠ [] then ok (.tup (xs ++ ys)) M else none
  | x, y, M => match getW M x, getW M y with
    | some xs, some ys => if xs.length + ys.length ≤ sizeLine then ok (.lst (xs ++ ys)) M else none
    | _, _ => none
abbrev rAddD (K : PySem.W.Frag) : R2 := fun x y H Q => (rI0 (fun i j => .int (i + j)) x y H Q) ∨ ((∃ i j, x = .str i ∧ y = .str j ∧ i.length + j.length ≤ sizeLine ∧ Q (.str (i ++ j)) H) ∨ (rCat x y H Q ∨ rCatT K x y H Q))
theorem opr_add : OpR X (binaryOp .Add) (rAddD X.K) := orR op_add (orR op_add_str (orR op_cat op_catT))
theorem add_ok : OpOk F (rAddD F.K) addF := fun d1 d2 M L H e σ W v1 v2 Q sr r1 r2 p => by
  unfold addF at p
  split at p
  · rename_i i j
    have q1 : v1 = .int i := r1
    have q2 : v2 = .int j := r2
    subst q1 q2
    exact .inl ⟨i, j, rfl, rfl, p.ok sr rfl⟩
  · rename_i x y
    have q1 : v1 = .str x := r1
    have q2 : v2 = .str y := r2
    subst q1 q2
    split at p
    · rename_i hz
      exact .inr (.inl ⟨x, y, rfl, rfl, hz, p.ok sr rfl⟩)
    · exact False.elim p
  · rename_i xs ys
    obtain ⟨a, vs, rfl, a2, a3⟩ := r1
    obtain ⟨b, ws, rfl, b2, b3⟩ := r2
    have a2p := a2
    have a2 := (Or.inl (Or.inl a2) : SqT F.K H a vs)
    have b2 := (Or.inl (Or.inl b2) : SqT F.K H b ws)
    split at p
    · rename_i hz
      have l1 := reps_len a3
      have l2 := reps_len b3
      refine .inr (.inr (.inr ⟨a, b, vs, ws, rfl, rfl, a2, b2, fun z => hz.2 ?_, by rw [← l1, ← l2]; exact hz.1, fun z => ?_, fun z p' hp => ?_⟩))
      · rw [z] at l1
        exact List.length_eq_zero_iff.mp l1
      · have z2 : ys = [] := by
          rw [z] at l2
          exact List.length_eq_zero_iff.mp l2
        rw [z2, List.append_nil] at p
        exact p.ok sr ⟨a, vs, rfl, a2p, a3⟩
      · exact post_tup p sr (reps_app a3 b3) hp
    · exact False.elim p
  · split at p
    · rename_i xs ys h1 h2
      obtain ⟨a, vs, rfl, a2, a3⟩ := getW_lst sr.m h1 r1
      obtain ⟨b, ws, rfl, b2, b3⟩ := getW_lst sr.m h2 r2
      split at p
      · rename_i hz
        have l1 := reps_len a3
        have l2 := reps_len b3
        exact .inr (.inr (.inl ⟨a, b, vs, ws, rfl, rfl, a2, b2, by rw [← l1, ← l2]; exact hz, fun p' hp => post_lst p sr (reps_app a3 b3) hp⟩))
      · exact False.elim p
    · exact False.elim p
def mulF : D → D → Store → RE
  | .int i, .int j, M => if i.natAbs.log2 + j.natAbs.log2 < 1000000 then ok (.int (i * j)) M else none
  | x, .int k, M => match getW M x with
    | some xs => if -(2 ^ 63) ≤ k ∧ k < 2 ^ 63 ∧ xs.length * k.toNat ≤ sizeLine then ok (.lst (List.replicate k.toNat xs).flatten) M else none
    | none => none
  | _, _, _ => none
abbrev rMulD : R2 := fun x y H Q => (rI CMulW (fun i j => .int (i * j)) x y H Q) ∨ rRep x y H Q
theorem opr_mul : OpR X (binaryOp .Mult) rMulD := orR op_mulW op_rep
theorem reps_rep {ds : List D} {vs : List V} (h : Reps F L H ds vs) : ∀ n : Nat, Reps F L H (List.replicate n ds).flatten (List.replicate n vs).flatten
  | 0 => (rfl : ([] : List V) = [])
  | n + 1 => by
    simp only [List.replicate_succ, List.flatten_cons]
    exact reps_app h (reps_rep h n)
theorem mul_ok : OpOk F rMulD mulF := fun d1 d2 M L H e σ W v1 v2 Q sr r1 r2 p => by
  unfold mulF at p
  split at p
  · rename_i i j
    have q1 : v1 = .int i := r1
    have q2 : v2 = .int j := r2
    subst q1 q2
    split at p
    · rename_i hz
      exact .inl ⟨i, j, rfl, rfl, hz, p.ok sr rfl⟩
    · exact False.elim p
  · rename_i k _
    have q2 : v2 = .int k := r2
    subst q2
    split at p
    · rename_i xs h1
      obtain ⟨a, vs, rfl, a2, a3⟩ := getW_lst sr.m h1 r1
      split at p
      · rename_i hz
        exact .inr ⟨a, k, vs, rfl, rfl, a2, hz.1, hz.2.1, by rw [← reps_len a3]; exact hz.2.2, fun p' hp => post_lst p sr (reps_rep a3 _) hp⟩
      · exact False.elim p
    · exact False.elim p
  · exact False.elim p
def CDivG (_ j : Int) : Prop := j ≠ 0 ∧ j.natAbs.log2 < 9000
theorem opr_fdiv : OpR X (binaryOp .FloorDiv) (rI CDivG fun i j => .int (i.fdiv j)) := opI fun i j t u s₀ Q₀ E₀ hc q => PyProof.Rows.floordiv_int hc.1 q (.inl (PyProof.noPylong_of_log2 hc.2))
abbrev fdivF := intF (fun _ j => decide (j ≠ 0 ∧ j.natAbs.log2 < 9000)) fun i j => .int (i.fdiv j)
theorem fdiv_ok : OpOk F (rI CDivG fun i j => .int (i.fdiv j)) fdivF := int_ok (fun i j h => of_decide_eq_true (p := j ≠ 0 ∧ j.natAbs.log2 < 9000) h) fun _ _ _ _ => rfl
abbrev fmodF := intF (fun _ j => decide (j ≠ 0)) fun i j => .int (i.fmod j)
theorem fmod_ok : OpOk F (rI (fun _ j => j ≠ 0) fun i j => .int (i.fmod j)) fmodF := int_ok (fun i j h => of_decide_eq_true h) fun _ _ _ _ => rfl
def CPowG (i j : Int) : Prop := 0 ≤ j ∧ (i.natAbs.log2 + 1) * j.toNat ≤ 134217728
theorem opr_pow : OpR X (binaryOp .Pow) (rI CPowG fun i j => .int (i ^ j.toNat)) := opI fun i j t u s₀ Q₀ E₀ hc q => by
  refine PyProof.Rows.pow_int hc.1 ?_ q
  obtain ⟨n, rfl⟩ := Int.eq_ofNat_of_zero_le hc.1
  have h2 := hc.2
  rw [Int.toNat_natCast] at h2
  have h3 : Builtin.Int.intBits i ≤ i.natAbs.log2 + 1 := by
    unfold Builtin.Int.intBits
    split
    · exact Nat.zero_le _
    · exact Nat.le_refl _
  have h4 : Builtin.Int.intBits i * n ≤ 134217728 := Nat.le_trans (Nat.mul_le_mul_right n h3) h2
  exact_mod_cast h4
abbrev powF := intF (fun i j => decide (0 ≤ j ∧ (i.natAbs.log2 + 1) * j.toNat ≤ 134217728)) fun i j => .int (i ^ j.toNat)
theorem pow_ok : OpOk F (rI CPowG fun i j => .int (i ^ j.toNat)) powF := int_ok (fun i j h => of_decide_eq_true (p := 0 ≤ j ∧ (i.natAbs.log2 + 1) * j.toNat ≤ 134217728) h) fun _ _ _ _ => rfl
abbrev shrF := intF (fun _ j => decide (0 ≤ j)) fun i j => .int (i / 2 ^ j.toNat)
theorem shr_ok : OpOk F (rI (fun _ j => 0 ≤ j) fun i j => .int (i / 2 ^ j.toNat)) shrF := int_ok (fun i j h => of_decide_eq_true h) fun _ _ _ _ => rfl
mutual
def D.py : D → Option PyData
  | .non => some .none
  | .bl b => some (.bool b)
  | .int i => some (.int i)
  | .str x => some (.str x)
  | .tup ds => (D.pys ds).map .tuple
  | .lst ds => (D.pys ds).map .list
  | _ => none
def D.pys : List D → Option (List PyData)
  | [] => some []
  | d :: ds => match D.py d, D.pys ds with
    | some p, some ps => some (p :: ps)
    | _, _ => none
end
/-- a value read whole -/
def pyV (M : Store) : D → Option PyData
  | .loc n => (getL M (.loc n)).bind fun ds => (D.pys ds).map .list
  | .scr ns => some (.list (ns.map .int))
  | d => D.py d
mutual
theorem dp_of : ∀ {d : D} {v : V} {p : PyData}, Rep F L H d v → D.py d = some p → Dp F.K H v p
  | .non, _, _, r, h => by
    have q : _ = V.non := r
    have h' : PyData.none = _ := Option.some.inj h
    rw [q, ← h']
    exact .non
  | .bl b, _, _, r, h => by
    have q : _ = V.bl b := r
    have h' : PyData.bool b = _ := Option.some.inj h
    rw [q, ← h']
    exact .bl b
  | .int i, _, _, r, h => by
    have q : _ = V.int i := r
    have h' : PyData.int i = _ := Option.some.inj h
    rw [q, ← h']
    exact .int i
  | .str x, _, _, r, h => by
    have q : _ = V.str x := r
    have h' : PyData.str x = _ := Option.some.inj h
    rw [q, ← h']
    exact .str x
  | .tup ds, _, _, r, h => by
    obtain ⟨a, vs, rfl, e2, e3⟩ := r
    have e2 := (Or.inl (Or.inl e2) : SqT F.K H a vs)
    have h1 : (D.pys ds).map PyData.tuple = _ := h
    cases q : D.pys ds with
    | none => rw [q] at h1; cases h1
    | some ps =>
      rw [q] at h1
      have h' : PyData.tuple ps = _ := Option.some.inj h1
      rw [← h']
      exact .tup e2 (dps_of e3 q)
  | .lst ds, _, _, r, h => by
    obtain ⟨a, vs, rfl, e2, e3⟩ := r
    have h1 : (D.pys ds).map PyData.list = _ := h
    cases q : D.pys ds with
    | none => rw [q] at h1; cases h1
    | some ps =>
      rw [q] at h1
      have h' : PyData.list ps = _ := Option.some.inj h1
      rw [← h']
      exact .lst (.inl (.inl e2.1)) (dps_of e3 q)
  | .scr _, _, _, _, h => nomatch h
  | .emp, _, _, _, h => nomatch h
  | .loc _, _, _, _, h => nomatch h
  | .exc _ _, _, _, _, h => nomatch h
  | .ty _, _, _, _, h => nomatch h
  | .cls _, _, _, _, h => nomatch h
  | .clo _ _ _ _ _ _, _, _, _, h => nomatch h
  | .ktp _, _, _, _, h => nomatch h
theorem dps_of : ∀ {ds : List D} {vs : List V} {ps : List PyData}, Reps F L H ds vs → D.pys ds = some ps → DpAll F.K H vs ps
  | [], _, _, r, h => by
    have q : _ = [] := r
    have h' : [] = _ := Option.some.inj h
    rw [q, ← h']
    exact .nil
  | d :: ds, _, _, r, h => by
    obtain ⟨v, vs, rfl, r1, r2⟩ := r
    unfold D.pys at h
    split at h
    · rename_i p ps h1 h2
      have h' : p :: ps = _ := Option.some.inj h
      rw [← h']
      exact .cons (dp_of r1 h1) (dps_of r2 h2)
    · cases h
end
theorem dps_ints : ∀ ns : List Int, DpAll F.K H (ns.map V.int) (ns.map PyData.int)
  | [] => .nil
  | n :: ns => .cons (.int n) (dps_ints ns)
theorem dp_at (hm : SM F L H M) {d : D} {v : V} {p : PyData} (r : Rep F L H d v) (h : pyV M d = some p) : Dp F.K H v p := by
  cases d with
  | loc n =>
    have h1 : (getL M (.loc n)).bind (fun ds => (D.pys ds).map PyData.list) = some p := h
    cases q : getL M (.loc n) with
    | none => rw [q] at h1; cases h1
    | some ds =>
      rw [q] at h1
      obtain ⟨a, vs, rfl, e2, e3⟩ := getL_sq hm q r
      have h2 : (D.pys ds).map PyData.list = some p := h1
      cases q2 : D.pys ds with
      | none => rw [q2] at h2; cases h2
      | some ps =>
        rw [q2] at h2
        have h' : PyData.list ps = p := Option.some.inj h2
        rw [← h']
        exact .lst e2 (dps_of e3 q2)
  | scr ns =>
    obtain ⟨a, vs, rfl, e2, e3⟩ := getL_sq (ds := ns.map D.int) hm rfl r
    obtain ⟨a', e1', e2'⟩ := r
    cases e1'
    have h' : PyData.list (ns.map .int) = p := Option.some.inj h
    rw [← h']
    have sq : SqL F.K H a (ns.map V.int) := by
      rcases e2' with ⟨o, e2'⟩ | e2'
      · exact .inl (.inr ⟨o, e2'⟩)
      · exact .inr e2'
    exact .lst sq (dps_ints ns)
  | non => exact dp_of r h
  | bl b => exact dp_of r h
  | int i => exact dp_of r h
  | str x => exact dp_of r h
  | tup es => exact dp_of r h
  | lst es => exact dp_of r h
  | emp => exact dp_of r h
  | exc c fs => exact dp_of r h
  | ty c => exact dp_of r h
  | cls c => exact dp_of r h
  | clo f c q σd is ds => exact dp_of r h
  | ktp ns => exact dp_of r h
def eqvF (n : Bool) : D → D → Store → RE
  | .int i, .int j, M => ok (.bl (n != decide (i = j))) M
  | .str i, .str j, M => ok (.bl (n != decide (i = j))) M
  | x, y, M => match pyV M x, pyV M y with
    | some p, some q => if SeqAt.shaped p = true ∧ SeqAt.shaped q = true then ok (.bl (n != PyData.eqv p q)) M else none
    | _, _ => none
abbrev eqF := eqvF false
abbrev neF := eqvF true
abbrev rEqV (K : PySem.W.Frag) : R2 := fun x y H Q => rEq x y H Q ∨ rEqD K x y H Q
abbrev rNeV (K : PySem.W.Frag) : R2 := fun x y H Q => rNe x y H Q ∨ rNeD K x y H Q
theorem opr_eq (hu : X.A.units + 64 < cLine) : OpR X (compareOp .Eq) (rEqV X.K) := orR op_eq (op_eqD hu)
theorem opr_ne (hu : X.A.units + 64 < cLine) : OpR X (compareOp .NotEq) (rNeV X.K) := orR op_ne (op_neD hu)
theorem int_dec (i j : Int) : decide (V.int i = V.int j) = decide (i = j) := by
  by_cases h : i = j
  · rw [h, decide_eq_true rfl, decide_eq_true rfl]
  · rw [decide_eq_false h, decide_eq_false fun z => h (V.int.inj z)]
theorem str_dec (i j : Str) : decide (V.str i = V.str j) = decide (i = j) := by
  by_cases h : i = j
  · rw [h, decide_eq_true rfl, decide_eq_true rfl]
  · rw [decide_eq_false h, decide_eq_false fun z => h (V.str.inj z)]
theorem f_ne (b : Bool) : (false != b) = b := by cases b <;> rfl
theorem t_ne (b : Bool) : (true != b) = !b := by cases b <;> rfl
theorem eq_ok : OpOk F (rEqV F.K) eqF := fun d1 d2 M L H e σ W v1 v2 Q sr r1 r2 p => by
  unfold eqF eqvF at p
  split at p
  · rename_i i j
    have q1 : v1 = .int i := r1
    have q2 : v2 = .int j := r2
    subst q1 q2
    rw [f_ne, ← int_dec] at p
    exact .inl ⟨rfl, p.ok sr rfl⟩
  · rename_i i j
    have q1 : v1 = .str i := r1
    have q2 : v2 = .str j := r2
    subst q1 q2
    rw [f_ne, ← str_dec] at p
    exact .inl ⟨rfl, p.ok sr rfl⟩
  · split at p
    · rename_i a b h1 h2
      split at p
      · rename_i hs
        rw [f_ne] at p
        exact .inr ⟨a, b, dp_at sr.m r1 h1, dp_at sr.m r2 h2, hs.1, hs.2, p.ok sr rfl⟩
      · exact False.elim p
    · exact False.elim p
theorem ne_ok : OpOk F (rNeV F.K) neF := fun d1 d2 M L H e σ W v1 v2 Q sr r1 r2 p => by
  unfold neF eqvF at p
  split at p
  · rename_i i j
    have q1 : v1 = .int i := r1
    have q2 : v2 = .int j := r2
    subst q1 q2
    rw [t_ne, ← int_dec] at p
    exact .inl ⟨rfl, p.ok sr rfl⟩
  · rename_i i j
    have q1 : v1 = .str i := r1
    have q2 : v2 = .str j := r2
    subst q1 q2
    rw [t_ne, ← str_dec] at p
    exact .inl ⟨rfl, p.ok sr rfl⟩
  · split at p
    · rename_i a b h1 h2
      split at p
      · rename_i hs
        rw [t_ne] at p
        exact .inr ⟨a, b, dp_at sr.m r1 h1, dp_at sr.m r2 h2, hs.1, hs.2, p.ok sr rfl⟩
      · exact False.elim p
    · exact False.elim p
def isNone : D → Bool
  | .non => true
  | _ => false
theorem isNone_of {d : D} {v : V} (r : Rep F L H d v) : decide (v = .non) = isNone d := by
  cases d with
  | non =>
    have q : v = .non := r
    rw [q]
    rfl
  | bl b => rw [show v = .bl b from r]; rfl
  | int i => rw [show v = .int i from r]; rfl
  | str x => rw [show v = .str x from r]; rfl
  | ty n => rw [show v = .ty n from r]; rfl
  | cls c => obtain ⟨C, rfl, _⟩ := r; rfl
  | clo f c q σd is ds => obtain ⟨⟨rfl, _⟩, _⟩ := r; rfl
  | ktp ns => obtain ⟨a, rfl, _⟩ := r; rfl
  | tup ds => obtain ⟨a, vs, rfl, _⟩ := r; rfl
  | lst ds => obtain ⟨a, vs, rfl, _⟩ := r; rfl
  | scr ds => obtain ⟨a, rfl, _⟩ := r; rfl
  | emp => obtain ⟨a, rfl, _⟩ := r; rfl
  | loc n => obtain ⟨a, rfl, _⟩ := r; rfl
  | exc c fs => obtain ⟨a, C, dd, rfl, _⟩ := r; rfl
def isF (n : Bool) : D → D → Store → RE
  | x, .non, M => ok (.bl (n != isNone x)) M
  | .ty a, .ty b, M => ok (.bl (n != decide (a = b))) M
  | _, _, _ => none
abbrev rIsV (n : Bool) : R2 := fun x y H Q => (y = .non ∧ Q (.bl (n != decide (x = .non))) H) ∨ ∃ a b, x = .ty a ∧ y = .ty b ∧ Q (.bl (n != decide (a = b))) H
theorem beq_type (a b : String) : (Value.type a == .type b) = decide (a = b) := by
  by_cases h : a = b
  · rw [h, decide_eq_true rfl, beq_self_eq_true]
  · rw [decide_eq_false h, beq_eq_false_iff_ne.mpr fun z => h (Value.type.inj z)]
theorem opr_is : OpR X (compareOp .Is) (rIsV false) := by
  refine orR (r := fun x y H Q => y = .non ∧ Q (.bl (false != decide (x = .non))) H) (fun p₀ s₀ σ₀ H₀ x y v u Q₀ I₀ rx ry q => ?_) (fun p₀ s₀ σ₀ H₀ x y v u Q₀ I₀ rx ry q => ?_)
  · obtain ⟨q1, q2⟩ := q
    rw [f_ne] at q2
    exact op_isN p₀ s₀ σ₀ H₀ x y v u Q₀ I₀ rx ry ⟨q1, q2⟩
  · obtain ⟨a, b, rfl, rfl, q2⟩ := q
    cases rx
    cases ry
    rw [f_ne] at q2
    exact wpAny_is_plain rfl ⟨_, H₀, I₀, by rw [beq_type]; rfl, q2⟩
theorem opr_isnot : OpR X (compareOp .IsNot) (rIsV true) := by
  refine orR (r := fun x y H Q => y = .non ∧ Q (.bl (true != decide (x = .non))) H) (fun p₀ s₀ σ₀ H₀ x y v u Q₀ I₀ rx ry q => ?_) (fun p₀ s₀ σ₀ H₀ x y v u Q₀ I₀ rx ry q => ?_)
  · obtain ⟨q1, q2⟩ := q
    rw [t_ne] at q2
    exact op_notN p₀ s₀ σ₀ H₀ x y v u Q₀ I₀ rx ry ⟨q1, q2⟩
  · obtain ⟨a, b, rfl, rfl, q2⟩ := q
    cases rx
    cases ry
    rw [t_ne] at q2
    exact wpAny_isNot_plain rfl ⟨_, H₀, I₀, by rw [beq_type]; rfl, q2⟩
theorem is_ok {n : Bool} : OpOk F (rIsV n) (isF n) := fun d1 d2 M L H e σ W v1 v2 Q sr r1 r2 p => by
  unfold isF at p
  split at p
  · have q2 : v2 = .non := r2
    rw [← isNone_of r1] at p
    exact .inl ⟨q2, p.ok sr rfl⟩
  · rename_i a b
    have q1 : v1 = .ty a := r1
    have q2 : v2 = .ty b := r2
    exact .inr ⟨a, b, q1, q2, p.ok sr rfl⟩
  · exact False.elim p
end
end DL
namespace DL
open PySem L2
section
variable {F : Fx} {X : Cx} {W : WX} {L : List Addr} {H : Hp} {M : Store} {e : Env} {σ : St}
theorem reps_at {ds : List D} {vs : List V} {i : Int} {d : D} (r : Reps F L H ds vs) (h : atI ds i = some d) : ∃ v, atI vs i = some v ∧ Rep F L H d v := by
  unfold atI at h ⊢
  rw [← reps_len r]
  cases q : ixN ds.length i with
  | none => rw [q] at h; cases h
  | some j =>
    rw [q] at h
    exact reps_get r h
def ixF : D → D → Store → RE
  | .tup ds, .int i, M => match atI ds i with
    | some d => ok d M
    | none => none
  | .str z, .int i, M => if z.length ≤ sizeLine then (match atI z.cps.toList i with
    | some c => ok (.str ⟨#[c]⟩) M
    | none => none) else none
  | x, .int i, M => match getL M x with
    | some ds => (match atI ds i with
      | some d => ok d M
      | none => none)
    | none => none
  | _, _, _ => none
abbrev rIxD (K : PySem.W.Frag) : R2 := fun x y H Q => rIxT K x y H Q ∨ (rIxS x y H Q ∨ rIxL K x y H Q)
theorem ixr_all : IxR X (rIxD X.K) := ix_tup.or (ix_str.or ix_list)
theorem ix_ok : OpOk F (rIxD F.K) ixF := fun d1 d2 M L H e σ W v1 v2 Q sr r1 r2 p => by
  unfold ixF at p
  split at p
  · rename_i ds i
    have q2 : v2 = .int i := r2
    subst q2
    obtain ⟨a, vs, rfl, a2, a3⟩ := r1
    have a2 := (Or.inl (Or.inl a2) : SqT F.K H a vs)
    split at p
    · rename_i d hd
      obtain ⟨v, h1, h2⟩ := reps_at a3 hd
      exact .inl ⟨a, vs, i, v, rfl, rfl, a2, h1, p.ok sr h2⟩
    · exact False.elim p
  · rename_i z i
    have q1 : v1 = .str z := r1
    have q2 : v2 = .int i := r2
    subst q1 q2
    split at p
    · rename_i hz
      split at p
      · rename_i c hc
        exact .inr (.inl ⟨z, i, c, rfl, rfl, hz, hc, p.ok sr rfl⟩)
      · exact False.elim p
    · exact False.elim p
  · rename_i i _ _
    have q2 : v2 = .int i := r2
    subst q2
    split at p
    · rename_i ds h1
      obtain ⟨a, vs, rfl, a2, a3⟩ := getL_sq sr.m h1 r1
      split at p
      · rename_i d hd
        obtain ⟨v, h3, h4⟩ := reps_at a3 hd
        exact .inr (.inr ⟨a, vs, i, v, rfl, rfl, a2, h3, p.ok sr h4⟩)
      · exact False.elim p
    · exact False.elim p
  · exact False.elim p
theorem de_ix {x y : Expr} {da db : DenE} {pos : Pos} (ha : DE F X W x da) (hb : DE F X W y db) (hK : X.K = F.K := by rfl) (hs : PlainIx y := by exact fun _ _ => rfl) : DE F X W (.Subscript x y pos) (binD ixF da db) := by
  obtain ⟨ta, pa, qa⟩ := ha
  obtain ⟨tb, pb, qb⟩ := hb
  have h := @ixr_all X
  rw [hK] at h
  exact ⟨_, pe_ix h pa pb hs, bin_ok (x := x) (y := y) ix_ok qa qb⟩
/-- a part of a slice: nothing, or an int -/
def DO (F : Fx) (X : Cx) (W : WX) (x : Option Expr) (den : Env → Store → RD (Option Int)) : Prop :=
  ∃ t, PO X x t ∧ ∀ (e : Env) (M : Store) (L : List Addr) (σ : St) (H : Hp) (Q : Option Int → Hp → Prop), SR F L H M e σ → PostG F (fun _ _ d v => d = v) e L H σ W Q (den e M) → t σ H Q
theorem do_none : DO F X W none (fun _ M => ok none M) := ⟨_, po_none, fun e M L σ H Q sr p => p.ok sr rfl⟩
theorem do_some {x : Expr} {da : DenE} (ha : DE F X W x da) : DO F X W (some x) (fun e M => bindE (da e M) fun d M1 => match d with
    | .int i => ok (some i) M1
    | _ => none) := by
  obtain ⟨ta, pa, qa⟩ := ha
  refine ⟨_, po_some pa, fun e M L σ H Q sr p => qa e M L σ H _ sr (PostG.bind (fun d M1 L1 H1 v s1 r1 rv q => ?_) p)⟩
  split at q
  · rename_i i
    exact ⟨i, rv, q.ok r1 rfl⟩
  · exact False.elim q
def pickL {α : Type} (xs : List α) (lo hi st : Option Int) : List α := (sliceRange (sliceBounds lo hi st xs.length).1 (sliceBounds lo hi st xs.length).2.1 (sliceBounds lo hi st xs.length).2.2).filterMap (xs[·]?)
theorem reps_pick {ds : List D} {vs : List V} (r : Reps F L H ds vs) : ∀ l : List Nat, Reps F L H (l.filterMap (ds[·]?)) (l.filterMap (vs[·]?))
  | [] => (rfl : ([] : List V) = [])
  | n :: l => by
    have ih := reps_pick r l
    rw [List.filterMap_cons, List.filterMap_cons]
    cases q : ds[n]? with
    | none =>
      have q2 : vs[n]? = none := by
        rw [List.getElem?_eq_none_iff] at q ⊢
        rw [← reps_len r]
        exact q
      rw [q2]
      exact ih
    | some d =>
      obtain ⟨v, h1, h2⟩ := reps_get r q
      rw [h1]
      exact ⟨v, _, rfl, h2, ih⟩
theorem vals_pick {vs : List V} {us : List Value} (r : Vals vs us) : ∀ l : List Nat, Vals (l.filterMap (vs[·]?)) (l.filterMap (us.toArray[·]?))
  | [] => .nil
  | n :: l => by
    have ih := vals_pick r l
    rw [List.filterMap_cons, List.filterMap_cons]
    cases q : vs[n]? with
    | none =>
      have q2 : us.toArray[n]? = none := by
        rw [List.getElem?_toArray]
        exact r.none_of q
      rw [q2]
      exact ih
    | some d =>
      obtain ⟨u, h1, h2⟩ := r.get q
      have q2 : us.toArray[n]? = some u := by
        rw [List.getElem?_toArray]
        exact h1
      rw [q2]
      exact .cons h2 ih
/-- xs[lo:hi:st], a list; the step is not 0 -/
def slcF (d : D) (lo hi st : Option Int) (M : Store) : RE := match getL M d with
  | some ds => if st = some 0 then none else ok (.lst (pickL ds lo hi st)) M
  | none => none
theorem de_slice3 {x : Expr} {lo hi st : Option Expr} {da : DenE} {dl dh dt : Env → Store → RD (Option Int)} {pos p2 : Pos} (ha : DE F X W x da) (hl : DO F X W lo dl) (hh : DO F X W hi dh) (ht : DO F X W st dt) (hK : X.K = F.K := by rfl) :
    DE F X W (.Subscript x (.Slice lo hi st p2) pos) (fun e M => bindE (da e M) fun d M1 => bindE (dl e M1) fun l M2 => bindE (dh e M2) fun h M3 => bindE (dt e M3) fun t M4 => slcF d l h t M4) := by
  obtain ⟨ta, pa, qa⟩ := ha
  obtain ⟨tl, pl, ql⟩ := hl
  obtain ⟨th, ph, qh⟩ := hh
  obtain ⟨tt, pt, qt⟩ := ht
  refine ⟨fun σ H Q => ta σ H fun x H1 => tl σ H1 fun l H2 => th σ H2 fun u H3 => tt σ H3 fun t H4 => ∃ a vs, x = .ref a ∧ SqL X.K H4 a vs ∧ t ≠ some 0 ∧ ∀ p, H4 p = none → Q (.ref p) (upd H4 p (.lst (pickL vs l u t))), ⟨fun p₀ s₀ σ₀ H₀ Q₀ I₀ h₀ => ?_⟩, fun e M L σ H Q sr p => ?_⟩
  · refine PyProof.Rows.Subscript_ (thn (pa.run p₀ s₀ σ₀ H₀ _ I₀ h₀) fun v s1 ⟨x1, H1, I1, r1, q1⟩ => ?_)
    refine wpAny_Slice (thn (pl.run p₀ s1 σ₀ H1 _ I1 q1) fun vl s2 ⟨l, H2, I2, pl, q2⟩ => thn (ph.run p₀ s2 σ₀ H2 _ I2 q2) fun vu s3 ⟨u, H3, I3, pu, q3⟩ => ?_)
    refine thn (pt.run p₀ s3 σ₀ H3 _ I3 q3) fun vt s4 ⟨t, H4, I4, pst, q4⟩ => ?_
    obtain ⟨a, vs, rfl, hq, h0, hx⟩ := q4
    have rv : v = Value.ref a := r1
    subst rv
    have I5 : Inv X p₀ σ₀ H4 { s4 with heap := s4.heap.push { cls := .type "slice", data := .fields #[vl, vu, vt] } } := I4.kept (t' := s4.toks) fun b ob q => Heap.get?_push_of_some _ q
    obtain ⟨its, rz, hpl, hz⟩ := I5.list hq
    have hln := rz.length
    obtain ⟨ops, hops⟩ : ∃ ops, subscripted (.Slice lo hi st p2) false (.ref a) (.ref s4.heap.objs.size) = operate ops (getItem (.ref a) (.ref s4.heap.objs.size)) := by
      cases st with
      | none => exact ⟨_, rfl⟩
      | some y => exact ⟨_, rfl⟩
    refine PyProof.Rows.tail_any (ops := ops) hpl.isList.typeIs slot_list_getitem.lookup (wpAny_getItem_list_slice hpl.isList (Heap.IsSliceOf.new _ vl vu vt) pl pu pst h0 ?_ (by rw [List.size_toArray, ← hln]; exact hz)) hops
    have hsz : ({ s4 with heap := s4.heap.push { cls := .type "slice", data := .fields #[vl, vu, vt] } } : Shared).heap.objs.size ≤ _ := Nat.le_refl _
    have hf := I5.hok.fresh hsz
    have vp : Vals (pickL vs l u t) (slicePick its.toArray l u t).toList := by
      unfold pickL slicePick
      rw [List.size_toArray, ← hln]
      exact vals_pick rz _
    have lz : (pickL vs l u t).length ≤ sizeLine := by
      rw [vp.length]
      have h1 : (slicePick its.toArray l u t).toList.length ≤ its.toArray.size := slicePick_size_le its.toArray l u t
      have h2 : its.toArray.size = vs.length := by rw [List.size_toArray, hln]
      exact Nat.le_trans (Nat.le_trans h1 (Nat.le_of_eq h2)) hz
    refine ⟨.ref _, _, I5.laid (o := .lst (pickL vs l u t)) (t' := s4.toks) (fun b w q => Heap.get?_push_of_some _ q) hsz ⟨lz, _, 0, vp, ?_⟩, rfl, hx _ hf⟩
    exact Heap.get?_push_size _ (by rw [Array.toArray_toList] <;> rfl)
  · refine qa e M L σ H _ sr (PostG.bind (fun d1 M1 L1 H1 v1 s1 r1 rv1 q => ?_) p)
    refine ql e M1 L1 σ H1 _ r1 (PostG.bind (fun d2 M2 L2 H2 v2 s2 r2 rv2 q => ?_) q)
    refine qh e M2 L2 σ H2 _ r2 (PostG.bind (fun d3 M3 L3 H3 v3 s3 r3 rv3 q => ?_) q)
    refine qt e M3 L3 σ H3 _ r3 (PostG.bind (fun d4 M4 L4 H4 v4 s4 r4 rv4 q => ?_) q)
    subst rv2 rv3 rv4
    have rv := Rep.stay r3.m s4 d1 v1 (Rep.stay r2.m s3 d1 v1 (Rep.stay r1.m s2 d1 v1 rv1))
    unfold slcF at q
    split at q
    · rename_i ds hd
      obtain ⟨a, vs, rfl, a2, a3⟩ := getL_sq r4.m hd rv
      split at q
      · exact False.elim q
      · rename_i h0
        refine ⟨a, vs, rfl, by rw [hK]; exact a2, h0, fun p' hp => post_lst q r4 ?_ hp⟩
        unfold pickL
        rw [← reps_len a3]
        exact reps_pick a3 _
    · exact False.elim q
def brD {α : Type} (dt : DenE) (da db : Env → Store → RD α) : Env → Store → RD α := fun e M => bindE (dt e M) fun d M1 => match d with
  | .bl true => da e M1
  | .bl false => db e M1
  | _ => none
theorem de_ifExp {c x y : Expr} {dc da db : DenE} {pos : Pos} (hc : DT F X W c dc) (ha : DE F X W x da) (hb : DE F X W y db) : DE F X W (.IfExp c x y pos) (brD dc da db) := by
  obtain ⟨tc, pc, qc⟩ := hc
  obtain ⟨ta, pa, qa⟩ := ha
  obtain ⟨tb, pb, qb⟩ := hb
  refine ⟨_, pe_ifExp pc pa pb, fun e M L σ H Q sr p => qc e M L σ H _ sr (PostG.bind (fun d M1 L1 H1 v s1 r1 rv q => ?_) p)⟩
  split at q
  · refine ⟨true, rv, ?_⟩
    rw [if_pos rfl]
    exact qa e M1 L1 σ H1 Q r1 q
  · refine ⟨false, rv, ?_⟩
    rw [if_neg fun z => Bool.false_ne_true z]
    exact qb e M1 L1 σ H1 Q r1 q
  · exact False.elim q
def andD (da db : DenE) : DenE := brD da db (cD (.bl false))
def orD (da db : DenE) : DenE := brD da (cD (.bl true)) db
def notF : D → Store → RE
  | .bl b, M => ok (.bl (!b)) M
  | _, _ => none
theorem de_one {op} {x : Expr} {da : DenE} {pos : Pos} (ha : DE F X W x da) : DE F X W (.BoolOp op [x] pos) da := by
  obtain ⟨ta, pa, qa⟩ := ha
  exact ⟨ta, pe_one pa, qa⟩
theorem de_and {x y : Expr} {rest : List Expr} {da db : DenE} {pos : Pos} (ha : DE F X W x da) (hb : DE F X W (.BoolOp .And (y :: rest) pos) db) : DE F X W (.BoolOp .And (x :: y :: rest) pos) (andD da db) := by
  obtain ⟨ta, pa, qa⟩ := ha
  obtain ⟨tb, pb, qb⟩ := hb
  refine ⟨_, pe_and pa pb, fun e M L σ H Q sr p => qa e M L σ H _ sr (PostG.bind (fun d M1 L1 H1 v s1 r1 rv q => ?_) p)⟩
  split at q
  · refine ⟨true, rv, ?_⟩
    rw [if_pos rfl]
    exact qb e M1 L1 σ H1 Q r1 q
  · refine ⟨false, rv, ?_⟩
    rw [if_neg fun z => Bool.false_ne_true z]
    exact q.ok r1 rfl
  · exact False.elim q
theorem de_or {x y : Expr} {rest : List Expr} {da db : DenE} {pos : Pos} (ha : DE F X W x da) (hb : DE F X W (.BoolOp .Or (y :: rest) pos) db) : DE F X W (.BoolOp .Or (x :: y :: rest) pos) (orD da db) := by
  obtain ⟨ta, pa, qa⟩ := ha
  obtain ⟨tb, pb, qb⟩ := hb
  refine ⟨_, pe_or pa pb, fun e M L σ H Q sr p => qa e M L σ H _ sr (PostG.bind (fun d M1 L1 H1 v s1 r1 rv q => ?_) p)⟩
  split at q
  · refine ⟨true, rv, ?_⟩
    rw [if_pos rfl]
    exact q.ok r1 rfl
  · refine ⟨false, rv, ?_⟩
    rw [if_neg fun z => Bool.false_ne_true z]
    exact qb e M1 L1 σ H1 Q r1 q
  · exact False.elim q
theorem de_not {x : Expr} {da : DenE} {pos : Pos} (ha : DE F X W x da) : DE F X W (.UnaryOp .Not x pos) (unD notF da) := by
  obtain ⟨ta, pa, qa⟩ := ha
  refine ⟨_, pe_not pa, fun e M L σ H Q sr p => qa e M L σ H _ sr (PostG.bind (fun d M1 L1 H1 v s1 r1 rv q => ?_) p)⟩
  unfold notF at q
  split at q
  · rename_i b
    exact ⟨b, rv, q.ok r1 rfl⟩
  · exact False.elim q
/-- tests -/
theorem DW.dt {x : Expr} {da : DenE} (h : DW F X W x da) : DT F X W x da := by
  obtain ⟨t, p, q⟩ := h
  exact ⟨t, p.pt, q⟩
theorem dw_and1 {x : Expr} {da : DenE} {pos : Pos} (ha : DT F X W x da) : DW F X W (.BoolOp .And [x] pos) da := by
  obtain ⟨ta, pa, qa⟩ := ha
  exact ⟨ta, pw_and1 pa, qa⟩
theorem dw_or1 {x : Expr} {da : DenE} {pos : Pos} (ha : DT F X W x da) : DW F X W (.BoolOp .Or [x] pos) da := by
  obtain ⟨ta, pa, qa⟩ := ha
  exact ⟨ta, pw_or1 pa, qa⟩
theorem dw_and {x y : Expr} {rest : List Expr} {da db : DenE} {pos : Pos} (ha : DT F X W x da) (hb : DW F X W (.BoolOp .And (y :: rest) pos) db) : DW F X W (.BoolOp .And (x :: y :: rest) pos) (andD da db) := by
  obtain ⟨ta, pa, qa⟩ := ha
  obtain ⟨tb, pb, qb⟩ := hb
  refine ⟨_, pw_and pa pb, fun e M L σ H Q sr p => qa e M L σ H _ sr (PostG.bind (fun d M1 L1 H1 v s1 r1 rv q => ?_) p)⟩
  split at q
  · refine ⟨true, rv, ?_⟩
    rw [if_pos rfl]
    exact qb e M1 L1 σ H1 Q r1 q
  · refine ⟨false, rv, ?_⟩
    rw [if_neg fun z => Bool.false_ne_true z]
    obtain ⟨b, hb, hq⟩ := q.ok r1 rfl
    cases hb
    exact hq
  · exact False.elim q
theorem dw_or {x y : Expr} {rest : List Expr} {da db : DenE} {pos : Pos} (ha : DT F X W x da) (hb : DW F X W (.BoolOp .Or (y :: rest) pos) db) : DW F X W (.BoolOp .Or (x :: y :: rest) pos) (orD da db) := by
  obtain ⟨ta, pa, qa⟩ := ha
  obtain ⟨tb, pb, qb⟩ := hb
  refine ⟨_, pw_or pa pb, fun e M L σ H Q sr p => qa e M L σ H _ sr (PostG.bind (fun d M1 L1 H1 v s1 r1 rv q => ?_) p)⟩
  split at q
  · refine ⟨true, rv, ?_⟩
    rw [if_pos rfl]
    obtain ⟨b, hb, hq⟩ := q.ok r1 rfl
    cases hb
    exact hq
  · refine ⟨false, rv, ?_⟩
    rw [if_neg fun z => Bool.false_ne_true z]
    exact qb e M1 L1 σ H1 Q r1 q
  · exact False.elim q
theorem dt_not {x : Expr} {da : DenE} {pos : Pos} (ha : DT F X W x da) : DT F X W (.UnaryOp .Not x pos) (unD notF da) := by
  obtain ⟨ta, pa, qa⟩ := ha
  refine ⟨_, pt_not pa, fun e M L σ H Q sr p => qa e M L σ H _ sr (PostG.bind (fun d M1 L1 H1 v s1 r1 rv q => ?_) p)⟩
  unfold notF at q
  split at q
  · rename_i b
    obtain ⟨b', hb, hq⟩ := q.ok r1 rfl
    cases hb
    exact ⟨b, rv, hq⟩
  · exact False.elim q
abbrev DenA := Env → Store → RD (List D)
def nilA : DenA := fun _ M => ok [] M
def consA (da : DenE) (dr : DenA) : DenA := fun e M => bindE (da e M) fun d M1 => bindE (dr e M1) fun ds M2 => ok (d :: ds) M2
theorem da_nil : DA F X W [] nilA := ⟨_, pa_nil, fun e M L σ H Q sr p => p.ok sr (rfl : ([] : List V) = [])⟩
theorem da_cons {x : Expr} {xs : List Expr} {da : DenE} {dr : DenA} (ha : DE F X W x da) (hr : DA F X W xs dr) (hs : starEach (x :: xs) X.env = (false, eval x X.env) :: starEach xs X.env := by rfl) : DA F X W (x :: xs) (consA da dr) := by
  obtain ⟨ta, pa, qa⟩ := ha
  obtain ⟨tr, pr, qr⟩ := hr
  refine ⟨_, pa_cons pa pr hs, fun e M L σ H Q sr p => qa e M L σ H _ sr (PostG.bind (fun d M1 L1 H1 v s1 r1 rv q => ?_) p)⟩
  refine qr e M1 L1 σ H1 _ r1 (PostG.bind (fun ds M2 L2 H2 vs s2 r2 rvs q2 => ?_) q)
  exact q2.ok r2 ⟨v, vs, rfl, Rep.stay r1.m s2 d v rv, rvs⟩
def tupD (dr : DenA) : DenE := fun e M => bindE (dr e M) fun ds M1 => if ds.length ≤ 100000 then ok (.tup ds) M1 else none
def lstD (dr : DenA) : DenE := fun e M => bindE (dr e M) fun ds M1 => if ds.length ≤ 100000 then ok (.lst ds) M1 else none
theorem sz_ok {n : Nat} (h : n ≤ 100000) : n ≤ sizeLine := Nat.le_trans h (by decide)
theorem de_tup {xs : List Expr} {dr : DenA} {x1} {pos : Pos} (hr : DA F X W xs dr) : DE F X W (.Tuple xs x1 pos) (tupD dr) := by
  obtain ⟨tr, pr, qr⟩ := hr
  refine ⟨_, pe_tup pr, fun e M L σ H Q sr p => qr e M L σ H _ sr (PostG.bind (fun ds M1 L1 H1 vs s1 r1 rv q => ?_) p)⟩
  split at q
  · rename_i hl
    exact ⟨by rw [← reps_len rv]; exact sz_ok hl, fun p' hp => post_tup q r1 rv hp⟩
  · exact False.elim q
theorem de_lst {xs : List Expr} {dr : DenA} {pos : Pos} (hr : DA F X W xs dr) : DE F X W (.List xs pos) (lstD dr) := by
  obtain ⟨tr, pr, qr⟩ := hr
  refine ⟨_, pe_lst pr, fun e M L σ H Q sr p => qr e M L σ H _ sr (PostG.bind (fun ds M1 L1 H1 vs s1 r1 rv q => ?_) p)⟩
  split at q
  · rename_i hl
    exact ⟨by rw [← reps_len rv]; exact sz_ok hl, fun p' hp => post_lst q r1 rv hp⟩
  · exact False.elim q
def CallOk (F : Fx) (r : List V → Hp → VK → Prop) (f : List D → Store → RE) : Prop := ∀ (ds : List D) (M : Store) (L : List Addr) (H : Hp) (e : Env) (σ : St) (W : WX) (vs : List V) (Q : VK), SR F L H M e σ → Reps F L H ds vs → Post F e L H σ W Q (f ds M) → r vs H Q
def callD (f : List D → Store → RE) (dr : DenA) : DenE := fun e M => bindE (dr e M) f
theorem call_post {r : List V → Hp → VK → Prop} {f : List D → Store → RE} (hf : CallOk F r f) {dr : DenA} {t : TA}
    (hr : ∀ (e : Env) (M : Store) (L : List Addr) (σ : St) (H : Hp) (Q : List V → Hp → Prop), SR F L H M e σ → PostA F e L H σ W Q (dr e M) → t σ H Q)
    (e : Env) (M : Store) (L : List Addr) (σ : St) (H : Hp) (Q : VK) (sr : SR F L H M e σ) (p : Post F e L H σ W Q (callD f dr e M)) : tCB r t σ H Q :=
  hr e M L σ H _ sr (PostG.bind (fun ds M1 L1 H1 vs s1 r1 rv q => hf ds M1 L1 H1 e σ W vs Q r1 rv q) p)
theorem de_callB {x : Str} {p pos : Pos} {a : Expr} {as : List Expr} {dr : DenA} {id : String} {r : List V → Hp → VK → Prop} {f : List D → Store → RE} (hf : CallOk F r f) (hc : CallR X (.builtin id) r) (hm : X.mg x = none) (hr : DA F X W (a :: as) dr) (hg : Gl X x := by rfl) (hv : bootBuiltins x = some (.builtin id) := by decide +kernel) (hn : x ≠ "__name__" := by decide) (hdb : (x == ("__debug__" : Str)) = false := by decide)
    (he : starEach (a :: as) X.env = (false, eval a X.env) :: starEach as X.env := by rfl) (hpl : (backTo pos (starEach as X.env)).any (·.1) = false := by rfl) : DE F X W (.Call (.Name x p) (a :: as) [] pos) (callD f dr) := by
  obtain ⟨tr, pr, qr⟩ := hr
  exact ⟨_, pe_callB hc hg hm hv pr hn hdb he hpl, call_post hf qr⟩
theorem de_callTy {x : Str} {p pos : Pos} {a : Expr} {as : List Expr} {dr : DenA} {T : String} {r : List V → Hp → VK → Prop} {f : List D → Store → RE} (hf : CallOk F r f) (hc : CallR X (.type T) r) (hm : X.mg x = none) (hr : DA F X W (a :: as) dr) (hg : Gl X x := by rfl) (hv : bootBuiltins x = some (.type T) := by decide +kernel) (hn : x ≠ "__name__" := by decide) (hdb : (x == ("__debug__" : Str)) = false := by decide)
    (he : starEach (a :: as) X.env = (false, eval a X.env) :: starEach as X.env := by rfl) (hpl : (backTo pos (starEach as X.env)).any (·.1) = false := by rfl) : DE F X W (.Call (.Name x p) (a :: as) [] pos) (callD f dr) := by
  obtain ⟨tr, pr, qr⟩ := hr
  exact ⟨_, pe_callTy hc hg hm hv pr hn hdb he hpl, call_post hf qr⟩
theorem de_callG {x : Str} {p pos : Pos} {a : Expr} {as : List Expr} {dr : DenA} {id : String} {r : List V → Hp → VK → Prop} {f : List D → Store → RE} (hf : CallOk F r f) (hc : CallR X (.builtin id) r) (hm : X.mg x = some (.builtin id)) (hr : DA F X W (a :: as) dr) (hg : Gl X x := by rfl) (hdb : (x == ("__debug__" : Str)) = false := by decide)
    (he : starEach (a :: as) X.env = (false, eval a X.env) :: starEach as X.env := by rfl) (hpl : (backTo pos (starEach as X.env)).any (·.1) = false := by rfl) : DE F X W (.Call (.Name x p) (a :: as) [] pos) (callD f dr) := by
  obtain ⟨tr, pr, qr⟩ := hr
  exact ⟨_, pe_callBfun hc hg hm pr hdb he hpl, call_post hf qr⟩
/-- a built-in class by its name, as a value -/
theorem de_cls {x : Str} {T : String} {pos : Pos} (hm : X.mg x = none) (hg : Gl X x := by rfl) (hv : bootBuiltins x = some (.type T) := by decide +kernel) (hn : x ≠ "__name__" := by decide) (hd : (x == ("__debug__" : Str)) = false := by decide) : DE F X W (.Name x pos) (cD (.ty T)) :=
  ⟨_, pe_bltn (v := .ty T) hg hm hv rfl hn hd, fun e M L σ H Q sr p => p.ok sr rfl⟩
theorem reps1 {d : D} {vs : List V} (h : Reps F L H [d] vs) : ∃ v, vs = [v] ∧ Rep F L H d v := by
  obtain ⟨v, r, rfl, h1, h2⟩ := h
  have h3 : r = [] := h2
  exact ⟨v, by rw [h3], h1⟩
theorem reps2 {d d' : D} {vs : List V} (h : Reps F L H [d, d'] vs) : ∃ v v', vs = [v, v'] ∧ Rep F L H d v ∧ Rep F L H d' v' := by
  obtain ⟨v, r, rfl, h1, h2⟩ := h
  obtain ⟨v', rfl, h3⟩ := reps1 h2
  exact ⟨v, v', rfl, h1, h3⟩
def lenF : List D → Store → RE
  | [.tup ds], M => ok (.int (ds.length : Int)) M
  | [.str x], M => if x.length ≤ sizeLine then ok (.int (x.length : Int)) M else none
  | [.ktp ns], M => ok (.int (ns.length : Int)) M
  | [d], M => match getL M d with
    | some ds => ok (.int (ds.length : Int)) M
    | none => none
  | _, _ => none
abbrev rLenD (K : PySem.W.Frag) : List V → Hp → VK → Prop := fun xs H Q => ∃ x n, xs = [x] ∧ LenV K x H n ∧ Q (.int n) H
theorem len_ok : CallOk F (rLenD F.K) lenF := fun ds M L H e σ W vs Q sr rv p => by
  unfold lenF at p
  split at p
  · obtain ⟨v, rfl, a, ws, rfl, a2, a3⟩ := reps1 rv
    exact ⟨_, _, rfl, .inr ⟨ws, .inl (.inl a2), reps_len a3⟩, p.ok sr rfl⟩
  · rename_i x
    obtain ⟨v, rfl, h1⟩ := reps1 rv
    have q1 : v = .str x := h1
    subst q1
    split at p
    · rename_i hx
      exact ⟨_, _, rfl, ⟨hx, rfl⟩, p.ok sr rfl⟩
    · exact False.elim p
  · rename_i ns
    obtain ⟨v, rfl, a, rfl, a2⟩ := reps1 rv
    exact ⟨_, _, rfl, .inr ⟨_, .inr a2, (List.length_map ..).symm⟩, p.ok sr rfl⟩
  · split at p
    · rename_i ds h1
      obtain ⟨v, rfl, h2⟩ := reps1 rv
      obtain ⟨a, ws, rfl, a2, a3⟩ := getL_sq sr.m h1 h2
      exact ⟨_, _, rfl, .inl ⟨ws, a2, reps_len a3⟩, p.ok sr rfl⟩
    · exact False.elim p
  · exact False.elim p
def absF : List D → Store → RE
  | [.int i], M => ok (.int (if i < 0 then -i else i)) M
  | _, _ => none
theorem abs_ok : CallOk F (fun xs H Q => ∃ i, xs = [.int i] ∧ Q (.int (if i < 0 then -i else i)) H) absF := fun ds M L H e σ W vs Q sr rv p => by
  unfold absF at p
  split at p
  · rename_i i
    obtain ⟨v, rfl, h1⟩ := reps1 rv
    exact ⟨i, by rw [show v = .int i from h1], p.ok sr rfl⟩
  · exact False.elim p
def int2F (g : Int → Int → Int) : List D → Store → RE
  | [.int i, .int j], M => ok (.int (g i j)) M
  | _, _ => none
theorem int2_ok {g : Int → Int → Int} : CallOk F (fun xs H Q => ∃ i j, xs = [.int i, .int j] ∧ Q (.int (g i j)) H) (int2F g) := fun ds M L H e σ W vs Q sr rv p => by
  unfold int2F at p
  split at p
  · rename_i i j
    obtain ⟨v, v', rfl, h1, h2⟩ := reps2 rv
    exact ⟨i, j, by rw [show v = .int i from h1, show v' = .int j from h2], p.ok sr rfl⟩
  · exact False.elim p
abbrev minF := int2F fun i j => if j < i then j else i
abbrev gcdF := int2F fun i j => ((Nat.gcd i.natAbs j.natAbs : Nat) : Int)
theorem gcd_ok : CallOk F rGcd gcdF := fun ds M L H e σ W vs Q sr rv p => int2_ok ds M L H e σ W vs Q sr rv p
end
end DL
namespace DL
open PySem L2
/-- where a def's body stands: what is raised is wished as W; room for k calls; nothing is handled; no repr runs -/
structure Dc (X : Cx) (W : WX) (k : Nat) : Prop where
  tk : Takes X W
  room : Room k X.A
  calm : X.calm = true
  gd : X.A.guards = some []
  own : PassesOwn (model X.prog X.w) X.A X.env X.xe
theorem Dc.mono {X : Cx} {W : WX} {j k : Nat} (d : Dc X W k) (h : j ≤ k) : Dc X W j := ⟨d.tk, d.room.mono h, d.calm, d.gd, d.own⟩
theorem Dc.u64 {X : Cx} {W : WX} {k : Nat} (d : Dc X W k) : X.A.units + 64 < cLine := d.room.units
section
variable {F : Fx} {X : Cx} {W : WX} {L : List Addr} {H : Hp} {M : Store} {e : Env} {σ : St}
def tyN : D → Option String
  | .non => some "NoneType"
  | .bl _ => some "bool"
  | .int _ => some "int"
  | .str _ => some "str"
  | .tup _ => some "tuple"
  | .lst _ => some "list"
  | .scr _ => some "list"
  | .emp => some "dict"
  | .ktp _ => some "tuple"
  | _ => none
/-- with the store -/
def tyM (M : Store) : D → Option String
  | .loc n => match M[n]? with
    | some (Ob.lst _) => some "list"
    | _ => none
  | d => tyN d
/-- a value's class in the heap -/
inductive TyD (K : PySem.W.Frag) (H : Hp) : V → String → Prop
  | non : TyD K H .non "NoneType"
  | bl (b : Bool) : TyD K H (.bl b) "bool"
  | int (i : Int) : TyD K H (.int i) "int"
  | str (x : Str) : TyD K H (.str x) "str"
  | tup {a : Addr} {xs : List V} (q : SqT K H a xs) : TyD K H (.ref a) "tuple"
  | lst {a : Addr} {xs : List V} (q : SqL K H a xs) : TyD K H (.ref a) "list"
  | dic {a : Addr} {kvs : List (Key × V)} (q : H a = some (.dK kvs)) : TyD K H (.ref a) "dict"
theorem tyd_of (hm : SM F L H M) {d : D} {v : V} {T : String} (r : Rep F L H d v) (h : tyN d = some T) : TyD F.K H v T := by
  cases d with
  | non =>
    have q : v = .non := r
    cases Option.some.inj h
    rw [q]
    exact .non
  | bl b =>
    have q : v = .bl b := r
    cases Option.some.inj h
    rw [q]
    exact .bl b
  | int i =>
    have q : v = .int i := r
    cases Option.some.inj h
    rw [q]
    exact .int i
  | str x =>
    have q : v = .str x := r
    cases Option.some.inj h
    rw [q]
    exact .str x
  | tup ds =>
    obtain ⟨a, vs, rfl, e2, _⟩ := r
    cases Option.some.inj h
    exact .tup (.inl (.inl e2))
  | lst ds =>
    obtain ⟨a, vs, rfl, e2, _⟩ := getL_sq (ds := ds) hm rfl r
    cases Option.some.inj h
    exact .lst e2
  | scr ns =>
    obtain ⟨a, vs, rfl, e2, _⟩ := getL_sq (ds := ns.map D.int) hm rfl r
    cases Option.some.inj h
    exact .lst e2
  | loc n => cases h
  | emp =>
    obtain ⟨a, rfl, e2, _⟩ := r
    cases Option.some.inj h
    exact .dic e2
  | exc c fs => cases h
  | ty n => cases h
  | cls n => cases h
  | clo f c q σd is ds => cases h
  | ktp ns =>
    obtain ⟨a, rfl, a2⟩ := r
    cases Option.some.inj h
    exact .tup (.inr a2)
theorem tym_of (hm : SM F L H M) {d : D} {v : V} {T : String} (r : Rep F L H d v) (h : tyM M d = some T) : TyD F.K H v T := by
  by_cases hl : ∃ n, d = .loc n
  · obtain ⟨n, rfl⟩ := hl
    unfold tyM at h
    dsimp only at h
    split at h
    · rename_i ds hd
      cases Option.some.inj h
      obtain ⟨a, rfl, e2⟩ := r
      obtain ⟨o, h1, h2⟩ := hm.get e2
      rw [hd] at h1
      cases h1
      obtain ⟨vs, h3, _⟩ := h2
      exact .lst (.inl (.inl h3))
    · cases h
  · have e : tyM M d = tyN d := by
      cases d with
      | loc n => exact absurd ⟨n, rfl⟩ hl
      | _ => rfl
    rw [e] at h
    exact tyd_of hm r h
theorem TyD.x {K : PySem.W.Frag} {v : V} {T : String} (h : TyD K H v T) : TyX K H v (.type T) := by
  cases h with
  | non => exact .base .non
  | bl b => exact .base (.bl b)
  | int i => exact .base (.int i)
  | str x => exact .base (.str x)
  | tup q =>
    rcases q with (q | ⟨o, q⟩) | ⟨o, its, n, q1, q2, _⟩
    · exact .base (.tup q)
    · exact .fTuple q
    · exact .kTuple q1 q2
  | lst q =>
    rcases q with (q | ⟨o, q⟩) | ⟨o, its, n, q1, q2, _⟩
    · exact .base (.lst q)
    · exact .base (.frz q)
    · exact .kList q1 q2
  | dic q => exact .base (.dK q)
def rTyp (K : PySem.W.Frag) : List V → Hp → VK → Prop := fun vs H Q => ∃ v T, vs = [v] ∧ TyD K H v T ∧ Q (.ty T) H
theorem callr_type : CallR X (.type "type") (rTyp X.K) := by
  intro p₀ s₀ σ₀ H₀ vs us Q₀ I₀ r h
  obtain ⟨v, T, rfl, t, q⟩ := h
  obtain ⟨u, eu1, rx⟩ := vals1 r
  subst eu1
  have fin : EP X p₀ σ₀ Q₀ (.type T) s₀ := ⟨.ty T, H₀, I₀, rfl, q⟩
  cases t with
  | non =>
    have z : u = .none := rx
    subst z
    exact call_type_of (typeIs_none s₀) (by decide +kernel) fin
  | bl b =>
    have z : u = .bool b := rx
    subst z
    exact call_type_of (PySem.typeIs_bool s₀ b) (by decide +kernel) fin
  | int i =>
    obtain ⟨k, rfl⟩ := rx
    exact call_type_of (typeIs_int s₀ i k) (by decide +kernel) fin
  | str x =>
    obtain ⟨k, rfl⟩ := rx
    exact call_type_of (typeIs_str s₀ x k) (by decide +kernel) fin
  | tup q2 =>
    cases rx
    obtain ⟨its, rv, p2, _⟩ := I₀.tuple q2
    exact call_type_of p2.typeIs (by decide +kernel) fin
  | lst q2 =>
    cases rx
    obtain ⟨its, rv, p2, _⟩ := I₀.list q2
    exact call_type_of p2.isList.typeIs (by decide +kernel) fin
  | @dic a kvs q2 =>
    cases rx
    obtain ⟨_, _, ws, _, o, es, ep, h1, h2, _⟩ := (show ObjOk X.prog X.w H₀ s₀.heap a (.dK kvs) from I₀.hok a _ q2)
    exact call_type_of (Tx := "dict") ⟨o, h1, h2.1⟩ (by decide +kernel) fin
def typF : List D → Store → RE
  | [d], M => match tyM M d with
    | some T => ok (.ty T) M
    | none => none
  | _, _ => none
theorem typ_ok : CallOk F (rTyp F.K) typF := fun ds M L H e σ W vs Q sr rv p => by
  unfold typF at p
  split at p
  · obtain ⟨v, rfl, h1⟩ := reps1 rv
    split at p
    · rename_i T hT
      exact ⟨v, T, rfl, tym_of sr.m h1 hT, p.ok sr rfl⟩
    · exact False.elim p
  · exact False.elim p
def isiF : List D → Store → RE
  | [d, .ty S], M => match tyM M d with
    | some T => (match kitB T S with
      | some b => ok (.bl b) M
      | none => none)
    | none => none
  | _, _ => none
theorem isi_ok : CallOk F (rIsi F.K) isiF := fun ds M L H e σ W vs Q sr rv p => by
  unfold isiF at p
  split at p
  · rename_i d S
    obtain ⟨v, v', rfl, h1, h2⟩ := reps2 rv
    have z : v' = .ty S := h2
    subst z
    split at p
    · rename_i T hT
      split at p
      · rename_i b hb
        exact ⟨v, .ty S, .type T, .type S, b, rfl, .ty S, (tym_of sr.m h1 hT).x, kit_ty hb, p.ok sr rfl⟩
      · exact False.elim p
    · exact False.elim p
  · exact False.elim p
end
def PostF (F : Fx) (L : List Addr) (H : Hp) (Q : VK) (E : XK) : RE → Prop
  | some (.val d, M') => ∀ (L' : List Addr) (H' : Hp) (v : V), Stp L H L' H' → SM F L' H' M' → Rep F L' H' d v → Q v H'
  | some (.exc c fs, M') => ∀ (L' : List Addr) (H' : Hp) (cls : Value) (dd : Option Addr), Stp L H L' H' → SM F L' H' M' → ExR F L' H' c fs cls dd → E cls dd H'
  | none => False
abbrev DenF := List D → Store → RE
def spD (F : Fx) (den : DenF) : Sp := fun vs H Q E => ∃ L M ds, SM F L H M ∧ Reps F L H ds vs ∧ PostF F L H Q E (den ds M)
structure FnD (P : Program) (w : World) (F : Fx) (mg : Str → Option Value) (base : Heap) (k : Nat) (f : Addr) (fd : FuncData) (ps : List Str) (den : DenF) : Prop where
  run : ∀ (A : Around) (outer : List PySem.Env) (s : Shared) (H : Hp) (args : Args) (us : List Value) (vs : List V) (Q : VK) (E : XK), Room k A → A.guards = some [] → Env0 P w F.K mg base A outer s H → BindsTo s fd args (ps.zip us) → Vals vs us →
    vs.length = ps.length → spD F den vs H Q E → codeAny (model P w) A (.call (.ref f) args) (CR (L2.CX P w) outer P w H s Q E) s
theorem FnD.mono {P : Program} {w : World} {F : Fx} {mg : Str → Option Value} {base : Heap} {j k : Nat} {f : Addr} {fd : FuncData} {ps : List Str} {den : DenF} (h : FnD P w F mg base j f fd ps den) (hk : j ≤ k) : FnD P w F mg base k f fd ps den :=
  ⟨fun A outer s H args us vs Q E hr => h.run A outer s H args us vs Q E (hr.mono hk)⟩
section
variable {F : Fx} {X : Cx} {W : WX} {k : Nat} {f : Addr} {fd : FuncData} {ps : List Str} {den : DenF} {ds : List Value} {dvs : List V}
/-- f(..) with the defaults dvs behind -/
def tCallD (F : Fx) (W : WX) (den : DenF) (n : Nat) (dvs : List V) (t : TA) : TE := fun σ H Q => t σ H fun vs H1 => (vs ++ dvs).length = n ∧ spD F den (vs ++ dvs) H1 Q (WE W σ)
theorem run_fnD {p₀ : List (Addr × Obj)} {σ : St} {H : Hp} {s : Shared} {Q : VK} {us : List Value} {vs : List V} (hK : X.K = F.K) (h : FnD X.prog X.w F X.mg X.base k f fd ps den) (d : Dc X W k) (hb : Binds X.K fd ps ds) (hd : Vals dvs ds) (I : L2.Inv X p₀ σ H s) (r : Vals vs us)
    (hl : (vs ++ dvs).length = ps.length) (q : spD F den (vs ++ dvs) H Q (WE W σ)) : wpAny (model X.prog X.w) X.A (call (.ref f) us) (EP X p₀ σ Q) X.xe s := by
  have r2 := r.append hd
  have e0 := I.env0
  rw [hK] at e0
  refine wpAny_call (codeAny_mono (h.run X.A X.stack s H ⟨us, []⟩ (us ++ ds) (vs ++ dvs) Q (WE W σ) d.room d.gd e0 (hb s us I.kIn (by rw [← r2.length]; exact hl)) r2 hl q) fun res s' hq => ?_)
  cases res with
  | error y => exact passAt d.tk σ p₀ H s y s' I hq
  | ok fl =>
    cases fl with
    | ret u => exact I.after hq
    | next => exact (show False from hq).elim
    | brk => exact (show False from hq).elim
    | cont => exact (show False from hq).elim
theorem pe_callD {x : Str} {p pos : Pos} {a : Expr} {as : List Expr} {t : TA} (hK : X.K = F.K) (h : FnD X.prog X.w F X.mg X.base k f fd ps den) (d : Dc X W k) (hg : Gl X x) (hm : X.mg x = some (.ref f)) (hk : PySem.W.keepIn X.K (.ref f) = true) (hb : Binds X.K fd ps ds) (hd : Vals dvs ds)
    (ha : PA X (a :: as) t) (hdb : (x == ("__debug__" : Str)) = false := by decide) (he : starEach (a :: as) X.env = (false, eval a X.env) :: starEach as X.env := by rfl) (hpl : (backTo pos (starEach as X.env)).any (·.1) = false := by rfl) :
    PE X (.Call (.Name x p) (a :: as) [] pos) (tCallD F W den ps.length dvs t) := by
  refine ⟨fun p₀ s₀ σ₀ H₀ Q₀ I₀ h₀ => wpAny_Call_Name_kw (ld_glob I₀ hg hm ?_ hdb)⟩
  refine PySem.W.callWith_K (h₀ := X.base) I₀.ok.mod.kin hk (thn (ha.run pos p₀ s₀ σ₀ H₀ _ I₀ h₀) fun us s1 y => ?_) he hpl
  obtain ⟨vs, H1, I1, r, q1, q2⟩ := y
  exact ⟨I1.kIn, run_fnD hK h d hb hd I1 r q1 q2⟩
/-- the arguments as data, defaults dd behind -/
def fnD (den : DenF) (n : Nat) (dd : List D) (dr : DenA) : DenE := fun e M => bindE (dr e M) fun ds M1 => if (ds ++ dd).length = n then den (ds ++ dd) M1 else none
theorem post_fn {L1 : List Addr} {H1 : Hp} {M1 : Store} {e : Env} {σ : St} {Q : VK} (sr : SR F L1 H1 M1 e σ) : ∀ {r : RE}, Post F e L1 H1 σ W Q r → PostF F L1 H1 Q (WE W σ) r
  | some (.val d, M'), h => fun L' H' v s m rv => h L' H' v s (sr.stay s m) rv
  | some (.exc c fs, M'), h => fun L' H' cls dd s m rv => h L' H' cls dd s (sr.stay s m) rv
  | none, h => h
theorem call_fin {dr : DenA} {t : TA} {dd : List D} (hdd : ∀ L H, Reps F L H dd dvs)
    (hr : ∀ (e : Env) (M : Store) (L : List Addr) (σ : St) (H : Hp) (Q : List V → Hp → Prop), SR F L H M e σ → PostA F e L H σ W Q (dr e M) → t σ H Q)
    (n : Nat) (e : Env) (M : Store) (L : List Addr) (σ : St) (H : Hp) (Q : VK) (sr : SR F L H M e σ) (p : Post F e L H σ W Q (fnD den n dd dr e M)) : tCallD F W den n dvs t σ H Q := by
  refine hr e M L σ H _ sr (PostG.bind (fun ds1 M1 L1 H1 vs s1 r1 rv q => ?_) p)
  split at q
  · rename_i hn
    have ra := reps_app rv (hdd L1 H1)
    exact ⟨by rw [← reps_len ra]; exact hn, L1, M1, _, r1.m, ra, post_fn r1 q⟩
  · exact False.elim q
theorem de_call {x : Str} {p pos : Pos} {a : Expr} {as : List Expr} {dr : DenA} {dd : List D} (h : FnD X.prog X.w F X.mg X.base k f fd ps den) (d : Dc X W k) (hm : X.mg x = some (.ref f)) (hk : PySem.W.keepIn X.K (.ref f) = true) (hb : Binds X.K fd ps ds) (hd : Vals dvs ds) (hdd : ∀ L H, Reps F L H dd dvs)
    (hr : DA F X W (a :: as) dr) (hK : X.K = F.K := by rfl) (hg : Gl X x := by rfl) (hdb : (x == ("__debug__" : Str)) = false := by decide) (he : starEach (a :: as) X.env = (false, eval a X.env) :: starEach as X.env := by rfl) (hpl : (backTo pos (starEach as X.env)).any (·.1) = false := by rfl) :
    DE F X W (.Call (.Name x p) (a :: as) [] pos) (fnD den ps.length dd dr) := by
  obtain ⟨tr, pr, qr⟩ := hr
  exact ⟨_, pe_callD hK h d hg hm hk hb hd pr hdb he hpl, call_fin hdd qr ps.length⟩
end
inductive Flw where
  | nx (e : Env)
  | rt (d : D)
  | bk (e : Env)
  | ct (e : Env)
  | ex (c : String) (fs : List (Str × D)) (e : Env)
abbrev RS := Option (Flw × Store)
abbrev DenS := Env → Store → RS
def PostS (F : Fx) (L : List Addr) (H : Hp) (W : WX) (T : Ends) : RS → Prop
  | some (.nx e, M) => ∀ (L' : List Addr) (H' : Hp) (σ' : St), Stp L H L' H' → SR F L' H' M e σ' → T.nx σ' H'
  | some (.bk e, M) => ∀ (L' : List Addr) (H' : Hp) (σ' : St), Stp L H L' H' → SR F L' H' M e σ' → T.bk σ' H'
  | some (.ct e, M) => ∀ (L' : List Addr) (H' : Hp) (σ' : St), Stp L H L' H' → SR F L' H' M e σ' → T.ct σ' H'
  | some (.rt d, M) => ∀ (L' : List Addr) (H' : Hp) (v : V), Stp L H L' H' → SM F L' H' M → Rep F L' H' d v → T.rt v H'
  | some (.ex c fs e, M) => ∀ (L' : List Addr) (H' : Hp) (σ' : St) (cls : Value) (dd : Option Addr), Stp L H L' H' → SR F L' H' M e σ' → ExR F L' H' c fs cls dd → W cls dd σ' H'
  | none => False
def DS (F : Fx) (X : Cx) (W : WX) (st : Stmt) (den : DenS) : Prop :=
  ∃ t, PS X st t ∧ ∀ (e : Env) (M : Store) (L : List Addr) (σ : St) (H : Hp) (T : Ends), SR F L H M e σ → PostS F L H W T (den e M) → t T σ H
def DSs (F : Fx) (X : Cx) (W : WX) (sts : List Stmt) (den : DenS) : Prop :=
  ∃ t, PSs X sts t ∧ ∀ (e : Env) (M : Store) (L : List Addr) (σ : St) (H : Hp) (T : Ends), SR F L H M e σ → PostS F L H W T (den e M) → t T σ H
def thenS {α : Type} (r : RD α) (e : Env) (k : α → Store → RS) : RS := match r with
  | some (.val d, M) => k d M
  | some (.exc c fs, M) => some (.ex c fs e, M)
  | none => none
section
variable {F : Fx} {X : Cx} {W : WX} {L L1 : List Addr} {H H1 : Hp} {M : Store} {e : Env} {σ : St} {T : Ends}
theorem PostS.go (s : Stp L H L1 H1) : ∀ {r : RS}, PostS F L H W T r → PostS F L1 H1 W T r
  | some (.nx e, M), h => fun L' H' σ' s' r => h L' H' σ' (s.trans s') r
  | some (.bk e, M), h => fun L' H' σ' s' r => h L' H' σ' (s.trans s') r
  | some (.ct e, M), h => fun L' H' σ' s' r => h L' H' σ' (s.trans s') r
  | some (.rt d, M), h => fun L' H' v s' r rv => h L' H' v (s.trans s') r rv
  | some (.ex c fs e, M), h => fun L' H' σ' cls dd s' r x => h L' H' σ' cls dd (s.trans s') r x
  | none, h => h
theorem post_then {α β : Type} {rp : List Addr → Hp → α → β → Prop} {Q : β → Hp → Prop} {k : α → Store → RS} (kk : ∀ d M1 L1 H1 v, Stp L H L1 H1 → SR F L1 H1 M1 e σ → rp L1 H1 d v → PostS F L1 H1 W T (k d M1) → Q v H1) :
    ∀ {r : RD α}, PostS F L H W T (thenS r e k) → PostG F rp e L H σ W Q r
  | some (.val d, M1), h => fun L1 H1 v s r rv => kk d M1 L1 H1 v s r rv (PostS.go s h)
  | some (.exc c fs, M1), h => fun L' H' cls dd s' r x => h L' H' σ cls dd s' r x
  | none, h => h
theorem SR.set (sr : SR F L H M e σ) (i : Nat) {d : D} {v : V} (r : Rep F L H d v) : SR F L H M (e.set i (some d)) (σ.set i (some v)) := by
  refine ⟨by rw [List.length_set, List.length_set]; exact sr.l, sr.m, fun j d' q => ?_⟩
  by_cases hj : i = j
  · subst hj
    by_cases hl : i < e.length
    · rw [List.getElem?_set_self hl] at q
      cases q
      refine ⟨v, ?_, r⟩
      rw [List.getElem?_set_self (by rw [sr.l]; exact hl)]
    · rw [List.getElem?_eq_none (by rw [List.length_set]; omega)] at q
      cases q
  · rw [List.getElem?_set_ne hj] at q
    rw [List.getElem?_set_ne hj]
    exact sr.e j d' q
theorem SR.unset (sr : SR F L H M e σ) (i : Nat) (v : Option V) : SR F L H M (e.set i none) (σ.set i v) := by
  refine ⟨by rw [List.length_set, List.length_set]; exact sr.l, sr.m, fun j d' q => ?_⟩
  by_cases hj : i = j
  · subst hj
    by_cases hl : i < e.length
    · rw [List.getElem?_set_self hl] at q
      cases q
    · rw [List.getElem?_eq_none (by rw [List.length_set]; omega)] at q
      cases q
  · rw [List.getElem?_set_ne hj] at q
    rw [List.getElem?_set_ne hj]
    exact sr.e j d' q
def nilS : DenS := fun e M => some (.nx e, M)
def seqS (a b : DenS) : DenS := fun e M => match a e M with
  | some (.nx e', M') => b e' M'
  | r => r
theorem dss_nil : DSs F X W [] nilS := ⟨_, pss_nil, fun e M L σ H T sr p => p L H σ (Stp.refl L H) sr⟩
theorem dss_one {st : Stmt} {a : DenS} (ha : DS F X W st a) : DSs F X W [st] a := by
  obtain ⟨t, p, q⟩ := ha
  exact ⟨t, pss_one p, q⟩
theorem dss_cons {st : Stmt} {sts : List Stmt} {a b : DenS} (ha : DS F X W st a) (hb : DSs F X W sts b) : DSs F X W (st :: sts) (seqS a b) := by
  obtain ⟨t, pt, qt⟩ := ha
  obtain ⟨u, pu, qu⟩ := hb
  refine ⟨_, pss_cons pt pu, fun e M L σ H T sr p => ?_⟩
  refine qt e M L σ H _ sr ?_
  unfold seqS at p
  split at p
  · rename_i e' M' he
    rw [he]
    exact fun L' H' σ' s r => qu e' M' L' σ' H' T r (PostS.go s p)
  · rename_i r hr
    revert p
    cases q : a e M with
    | none => exact id
    | some y =>
      obtain ⟨fl, M'⟩ := y
      cases fl with
      | nx e' => exact absurd q (hr e' M')
      | bk e' => exact id
      | ct e' => exact id
      | rt d => exact id
      | ex c fs e' => exact id
def asgS (i : Nat) (da : DenE) : DenS := fun e M => thenS (da e M) e fun d M1 => some (.nx (e.set i (some d)), M1)
theorem ds_set (i : Nat) {x : Str} {y : Expr} {da : DenE} {pos pos' : Pos} (hN : X.N.Nodup) (ha : DE F X W y da) (hi : X.N[i]? = some x := by rfl) (hx : Loc X.env.scope x := by first | exact Or.inl rfl | exact Or.inr rfl) (hs : swapsWith y (some (.Name x pos')) pos.line X.env = pure false := by rfl)
    (hf : X.fn x = true ∨ X.env.scope.names.lookup x = some .local := by first | exact .inl rfl | exact .inr rfl) : DS F X W (.Assign [.Name x pos'] y pos) (asgS i da) := by
  obtain ⟨t, p, q⟩ := ha
  refine ⟨_, ps_set hN hi hx p hs hf, fun e M L σ H T sr pp => q e M L σ H _ sr (post_then (fun d M1 L1 H1 v s1 r1 rv q2 => ?_) pp)⟩
  exact q2 L1 H1 _ (Stp.refl L1 H1) (r1.set i rv)
def retS (da : DenE) : DenS := fun e M => thenS (da e M) e fun d M1 => some (.rt d, M1)
theorem ds_ret {y : Expr} {da : DenE} {pos : Pos} (ha : DE F X W y da) : DS F X W (.Return (some y) pos) (retS da) := by
  obtain ⟨t, p, q⟩ := ha
  refine ⟨_, ps_ret p, fun e M L σ H T sr pp => q e M L σ H _ sr (post_then (fun d M1 L1 H1 v s1 r1 rv q2 => ?_) pp)⟩
  exact q2 L1 H1 v (Stp.refl L1 H1) r1.m rv
def dropS (da : DenE) : DenS := fun e M => thenS (da e M) e fun _ M1 => some (.nx e, M1)
theorem ds_expr {y : Expr} {da : DenE} {pos : Pos} (ha : DE F X W y da) (hs : swapsWith y none pos.line X.env = pure false := by rfl) : DS F X W (.Expr y pos) (dropS da) := by
  obtain ⟨t, p, q⟩ := ha
  refine ⟨_, ps_expr p hs, fun e M L σ H T sr pp => q e M L σ H _ sr (post_then (fun d M1 L1 H1 v s1 r1 rv q2 => ?_) pp)⟩
  exact q2 L1 H1 σ (Stp.refl L1 H1) r1
def ifS (dc : DenE) (a b : DenS) : DenS := fun e M => thenS (dc e M) e fun d M1 => match d with
  | .bl true => a e M1
  | .bl false => b e M1
  | _ => none
theorem ds_if {c : Expr} {xs ys : List Stmt} {dc : DenE} {a b : DenS} {pos : Pos} (hc : DT F X W c dc) (ha : DSs F X W xs a) (hb : DSs F X W ys b) : DS F X W (.If c xs ys pos) (ifS dc a b) := by
  obtain ⟨tc, pc, qc⟩ := hc
  obtain ⟨ta, pa, qa⟩ := ha
  obtain ⟨tb, pb, qb⟩ := hb
  refine ⟨_, ps_if pc pa pb, fun e M L σ H T sr pp => qc e M L σ H _ sr (post_then (fun d M1 L1 H1 v s1 r1 rv q => ?_) pp)⟩
  split at q
  · refine ⟨true, rv, ?_⟩
    rw [if_pos rfl]
    exact qa e M1 L1 σ H1 T r1 q
  · refine ⟨false, rv, ?_⟩
    rw [if_neg fun z => Bool.false_ne_true z]
    exact qb e M1 L1 σ H1 T r1 q
  · exact False.elim q
end
end DL
namespace DL
open PySem L2
section
variable {F : Fx} {X : Cx} {W : WX} {L L1 : List Addr} {H H1 : Hp} {M : Store} {e : Env} {σ : St} {T : Ends} {k : Nat}
theorem drop_cons {α : Type} : ∀ {xs : List α} {j : Nat} {x : α}, xs[j]? = some x → xs.drop j = x :: xs.drop (j + 1)
  | [], _, _, h => by simp at h
  | a :: xs, 0, x, h => by
    have q : a = x := by simpa using h
    rw [q]
    rfl
  | a :: xs, j + 1, x, h => drop_cons (xs := xs) (j := j) (by simpa using h)
/-- a list that stays (a value; not one of the store) -/
def LstAt (K : PySem.W.Frag) (L : List Addr) (H : Hp) (a : Addr) (vs : List V) : Prop := (H a = some (.lst vs) ∧ a ∉ L) ∨ (∃ o, H a = some (.frz o (.lst vs))) ∨ KL K a vs
theorem LstAt.sq {K : PySem.W.Frag} {a : Addr} {vs : List V} (h : LstAt K L H a vs) : SqL K H a vs := by
  rcases h with ⟨h, _⟩ | ⟨o, h⟩ | h
  · exact .inl (.inl h)
  · exact .inl (.inr ⟨o, h⟩)
  · exact .inr h
theorem LstAt.stay {a : Addr} {vs : List V} (m : SM F L H M) (s : Stp L H L1 H1) (h : LstAt F.K L H a vs) : LstAt F.K L1 H1 a vs := by
  rcases h with ⟨h, n⟩ | ⟨o, h⟩ | h
  · exact .inl ⟨s.ext a _ h n fun ps z => (by cases z), s.out h n⟩
  · exact .inr (.inl ⟨o, s.ext a _ h (m.not h id) fun ps z => (by cases z)⟩)
  · exact .inr (.inr h)
def rngI (lo : Int) (n : Nat) : List D := (List.range n).map fun (j : Nat) => D.int (lo + (j : Int))
def small62 (i : Int) : Bool := decide (-(2 ^ 62) ≤ i ∧ i < 2 ^ 62)
theorem rng_len (lo : Int) (n : Nat) : (rngI lo n).length = n := by
  unfold rngI
  simp only [List.length_range, List.length_map]
def whileS (dt : DenE) (body : DenS) : Nat → DenS
  | 0, _, _ => none
  | n + 1, e, M => match dt e M with
    | some (.val (.bl true), M1) => (match body e M1 with
      | some (.nx e', M') => whileS dt body n e' M'
      | some (.ct e', M') => whileS dt body n e' M'
      | some (.bk e', M') => some (.nx e', M')
      | r => r)
    | some (.val (.bl false), M1) => some (.nx e, M1)
    | some (.exc c fs, M1) => some (.ex c fs e, M1)
    | _ => none
theorem ds_while {c : Expr} {body : List Stmt} {dt : DenE} {db : DenS} {pos : Pos} (fuel : Env → Store → Nat) (d : Dc X W k) (hc : DT F X W c dt) (hb : DSs F X W body db) : DS F X W (.While c body [] pos) (fun e M => whileS dt db (fuel e M) e M) := by
  obtain ⟨tc, pc, qc⟩ := hc
  obtain ⟨tb, pb, qb⟩ := hb
  refine ⟨_, ps_while d.own pc pb, fun e M L σ H T sr pp => ?_⟩
  refine ⟨fun n σ' H' => ∃ L' e' M', Stp L H L' H' ∧ SR F L' H' M' e' σ' ∧ PostS F L' H' W T (whileS dt db n e' M'), ⟨fuel e M, L, e, M, Stp.refl L H, sr, pp⟩, ?_⟩
  rintro n σ' H' ⟨L', e', M', s, r, p⟩
  cases n with
  | zero => exact False.elim p
  | succ n =>
    refine qc e' M' L' σ' H' _ r ?_
    unfold whileS at p
    revert p
    cases hd : dt e' M' with
    | none => exact id
    | some y =>
      obtain ⟨o, M1⟩ := y
      cases o with
      | exc c fs => exact fun p L2 H2 cls dd s2 r2 x => p L2 H2 σ' cls dd s2 r2 x
      | val dv =>
        intro p L2 H2 v s2 r2 rv
        revert p
        cases dv with
        | bl b =>
          cases b with
          | false =>
            intro p
            refine ⟨false, rv, ?_⟩
            rw [if_neg fun z => Bool.false_ne_true z]
            exact p L2 H2 σ' s2 r2
          | true =>
            intro p
            refine ⟨true, rv, ?_⟩
            rw [if_pos rfl]
            refine ⟨fun σ3 H3 => ∃ L' e' M', Stp L H L' H3 ∧ SR F L' H3 M' e' σ3 ∧ PostS F L' H3 W T (whileS dt db n e' M'), fun σ3 H3 z => ⟨n, Nat.lt_succ_self n, z⟩, qb e' M1 L2 σ' H2 _ r2 ?_⟩
            dsimp only at p
            revert p
            cases db e' M1 with
            | none => exact id
            | some y =>
              obtain ⟨fl, M3⟩ := y
              cases fl with
              | nx e3 => exact fun p L3 H3 σ3 s3 r3 => ⟨L3, e3, M3, (s.trans s2).trans s3, r3, PostS.go (s2.trans s3) p⟩
              | ct e3 => exact fun p L3 H3 σ3 s3 r3 => ⟨L3, e3, M3, (s.trans s2).trans s3, r3, PostS.go (s2.trans s3) p⟩
              | bk e3 => exact fun p => PostS.go s2 p
              | rt d3 => exact fun p => PostS.go s2 p
              | ex c fs e3 => exact fun p => PostS.go s2 p
        | non => exact fun p => False.elim p
        | int i => exact fun p => False.elim p
        | str i => exact fun p => False.elim p
        | tup i => exact fun p => False.elim p
        | lst i => exact fun p => False.elim p
        | scr i => exact fun p => False.elim p
        | emp => exact fun p => False.elim p
        | loc i => exact fun p => False.elim p
        | exc c i => exact fun p => False.elim p
        | ty i => exact fun p => False.elim p
        | cls i => exact fun p => False.elim p
        | clo f c q σd i ds => exact fun p => False.elim p
        | ktp ns => exact fun p => False.elim p
def ofBody (n : Nat) (den : DenS) : DenF := fun ds M => match den (ds.map some ++ List.replicate (n - ds.length) none) M with
  | some (.nx _, M') => ok .non M'
  | some (.rt d, M') => ok d M'
  | some (.ex c fs _, M') => some (.exc c fs, M')
  | _ => none
theorem start_env {ds : List D} {vs : List V} (n : Nat) (r : Reps F L H ds vs) (N : List Str) (hn : N.length = n) : EnvR F L H (ds.map some ++ List.replicate (n - ds.length) none) (L2.start N vs) ∧ (L2.start N vs).length = (ds.map some ++ List.replicate (n - ds.length) (none : Option D)).length := by
  have hl := reps_len r
  refine ⟨fun i d q => ?_, ?_⟩
  · by_cases hi : i < ds.length
    · rw [List.getElem?_append_left (by rw [List.length_map]; exact hi), List.getElem?_map] at q
      cases h : ds[i]? with
      | none => rw [h] at q; cases q
      | some d' =>
        rw [h] at q
        cases q
        obtain ⟨v, h1, h2⟩ := reps_get r h
        refine ⟨v, ?_, h2⟩
        unfold L2.start
        rw [List.getElem?_append_left (by rw [List.length_map, ← hl]; exact hi), List.getElem?_map, h1]
        rfl
    · rw [List.getElem?_append_right (by rw [List.length_map]; omega), List.getElem?_replicate] at q
      split at q
      · cases q
      · cases q
  · unfold L2.start
    rw [List.length_append, List.length_append, List.length_map, List.length_map, List.length_replicate, List.length_replicate, hn, hl]
theorem fn_mk0 {P : Program} {w : World} {mg : Str → Option Value} {base : Heap} {f : Addr} {fd : FuncData} {x qual : Str} {st : Stmt} {N ps : List Str} {den : DenS} {n : Nat} (Fn : Fun F.K x qual st f fd) (S : FnScope N ps (defScope st)) (hn : N.length = n)
    (body : ∀ (cdv : Value) (A : Around) (outer : List PySem.Env) (s : Shared) (H : Hp) (E : XK), fd.code = cdv → Dc (cxOf (L2.CX P w) P w F.K mg base N qual (defScope st) f cdv A outer s H E) (fun cls d _ H => E cls d H) k →
      DSs F (cxOf (L2.CX P w) P w F.K mg base N qual (defScope st) f cdv A outer s H E) (fun cls d _ H => E cls d H) (defBody st) den) : FnD P w F mg base (k + 1) f fd ps (ofBody n den) := by
  refine ⟨fun A outer s H args us vs Q E hr hg e0 hb hv hl sp => ?_⟩
  obtain ⟨oc, od, kV, doc, pm, an, cdv, ct, osl, rfl, lk, hcd⟩ := Fn.ex
  refine LamX.run_ofS lk hcd S hr e0 hb hv hl fun hr' => ?_
  have dc : Dc (cxOf (L2.CX P w) P w F.K mg base N qual (defScope st) f cdv A outer s H E) (fun cls d _ H => E cls d H) k := ⟨takes_of rfl rfl rfl rfl, hr', rfl, hg, passes_of rfl⟩
  obtain ⟨t, p1, p2⟩ := body cdv A outer s H E rfl dc
  obtain ⟨L, M, ds, m, r, p⟩ := sp
  obtain ⟨h1, h2⟩ := start_env n r N hn
  refine ⟨t, p1, p2 _ M L _ H _ ⟨h2, m, h1⟩ ?_⟩
  unfold ofBody at p
  revert p
  cases den (ds.map some ++ List.replicate (n - ds.length) none) M with
  | none => exact id
  | some y =>
    obtain ⟨fl, M'⟩ := y
    cases fl with
    | nx e' => exact fun p L' H' σ' s' r' => p L' H' .non s' r'.m rfl
    | rt d => exact id
    | ex c fs e' => exact fun p L' H' σ' cls dd s' r' x => p L' H' cls dd s' r'.m x
    | bk e' => exact False.elim
    | ct e' => exact False.elim
theorem fn_mk {P : Program} {w : World} {mg : Str → Option Value} {base : Heap} {f : Addr} {fd : FuncData} {x qual : Str} {st : Stmt} {N ps : List Str} {den : DenS} {n : Nat} (Fn : Fun F.K x qual st f fd) (S : FnScope N ps (defScope st)) (hn : N.length = n)
    (body : ∀ (cdv : Value) (A : Around) (outer : List PySem.Env) (s : Shared) (H : Hp) (E : XK), Dc (cxOf (L2.CX P w) P w F.K mg base N qual (defScope st) f cdv A outer s H E) (fun cls d _ H => E cls d H) k →
      DSs F (cxOf (L2.CX P w) P w F.K mg base N qual (defScope st) f cdv A outer s H E) (fun cls d _ H => E cls d H) (defBody st) den) : FnD P w F mg base (k + 1) f fd ps (ofBody n den) := fn_mk0 Fn S hn fun cdv A outer s H E _ dc => body cdv A outer s H E dc
/-- the code object told -/
theorem fn_mkC {P : Program} {w : World} {mg : Str → Option Value} {base : Heap} {f c : Addr} {fd : FuncData} {x qual : Str} {st : Stmt} {N ps : List Str} {den : DenS} {n : Nat} (Fn : Fun F.K x qual st f fd) (hc : fd.code = .ref c) (S : FnScope N ps (defScope st)) (hn : N.length = n)
    (body : ∀ (A : Around) (outer : List PySem.Env) (s : Shared) (H : Hp) (E : XK), Dc (cxOf (L2.CX P w) P w F.K mg base N qual (defScope st) f (.ref c) A outer s H E) (fun cls d _ H => E cls d H) k →
      DSs F (cxOf (L2.CX P w) P w F.K mg base N qual (defScope st) f (.ref c) A outer s H E) (fun cls d _ H => E cls d H) (defBody st) den) : FnD P w F mg base (k + 1) f fd ps (ofBody n den) := fn_mk0 Fn S hn fun cdv A outer s H E he dc => by
  have z : cdv = .ref c := he.symm.trans hc
  subst z
  exact body A outer s H E dc
end
end DL
namespace DL
open PySem L2
section
variable {F : Fx} {X : Cx} {W : WX} {L L1 : List Addr} {H H1 : Hp} {M : Store} {e : Env} {σ : St} {T : Ends} {k : Nat}
theorem nodup_at {α : Type} : ∀ {l : List α}, l.Nodup → ∀ {i j : Nat} {x : α}, l[i]? = some x → l[j]? = some x → i = j
  | [], _, _, _, _, q, _ => by simp at q
  | a :: l, n, 0, 0, _, _, _ => rfl
  | a :: l, n, 0, j + 1, x, h, q => by
    have e1 : a = x := by simpa using h
    have e2 : l[j]? = some x := by simpa using q
    rw [← e1] at e2
    exact absurd (List.mem_of_getElem? e2) (List.nodup_cons.mp n).1
  | a :: l, n, i + 1, 0, x, h, q => by
    have e1 : a = x := by simpa using q
    have e2 : l[i]? = some x := by simpa using h
    rw [← e1] at e2
    exact absurd (List.mem_of_getElem? e2) (List.nodup_cons.mp n).1
  | a :: l, n, i + 1, j + 1, x, h, q => by
    have z := nodup_at (l := l) (List.nodup_cons.mp n).2 (i := i) (j := j) (x := x) (by simpa using h) (by simpa using q)
    rw [z]
/-- the tables behind a step that touches none -/
theorem tbs_upd {p : Addr} {o : HO} (m : SM F L H M) (hp : ∀ ps, H p ≠ some (.tbl ps)) (hc : ∀ c q, H p ≠ some (LamX.CodeO c q)) : LamX.Tabs F.T (upd H p o) := by
  intro y hy
  obtain ⟨ps, h1, h2, h3⟩ := m.tbs y hy
  refine ⟨ps, ?_, h2, fun pos cv h => ?_⟩
  · rw [upd_ne (fun z => hp ps (by rw [← z]; exact h1))]
    exact h1
  · obtain ⟨c, e1, e2⟩ := h3 pos cv h
    refine ⟨c, e1, ?_⟩
    rw [upd_ne (fun z => hc c y.2 (by rw [← z]; exact e2))]
    exact e2
/-- a thing of the store is changed -/
theorem SM.putO (m : SM F L H M) {n : Nat} {a : Addr} {ob : Ob} {ho : HO} (hn : L[n]? = some a) (hz : ∀ o' u, H a ≠ some (.frz o' u)) (no : NoTb ho) (r : ∀ L' H', Stp L H L' H' → H' a = some ho → ObR F L' H' a ob) : SM F L (upd H a ho) (M.set n ob) ∧ Stp L H L (upd H a ho) := by
  have ha : a ∈ L := List.mem_of_getElem? hn
  have s : Stp L H L (upd H a ho) := Stp.put ha hz no
  obtain ⟨ws, hw, hwo⟩ := m.kind ha
  refine ⟨⟨by rw [List.length_set]; exact m.len, m.nd, fun j b o h1 h2 => ?_, tbs_upd m (fun ps z => ?_) fun c q z => ?_⟩, s⟩
  · by_cases hj : j = n
    · subst hj
      rw [h1] at hn
      cases hn
      have hl : j < M.length := by
        rw [← m.len]
        exact (List.getElem?_eq_some_iff.mp h1).1
      rw [List.getElem?_set_self hl] at h2
      cases h2
      exact r _ _ s upd_same
    · rw [List.getElem?_set_ne (Ne.symm hj)] at h2
      have ne : b ≠ a := fun z => hj (nodup_at m.nd h1 (by rw [z]; exact hn))
      exact ObR.stay m s (fun u hu _ => by rw [upd_ne ne]; exact hu) o (m.obs j b o h1 h2)
  · rw [hw] at z
    cases z
    exact hwo
  · rw [hw] at z
    unfold LamX.CodeO at z
    cases z
    exact hwo
/-- a list of the store is changed -/
theorem SM.put (m : SM F L H M) {n : Nat} {a : Addr} {ds : List D} {vs ws : List V} (hn : L[n]? = some a) (hz : H a = some (.lst ws)) (r : Reps F L H ds vs) : SM F L (upd H a (.lst vs)) (M.set n (.lst ds)) ∧ Stp L H L (upd H a (.lst vs)) := m.putO hn (fun o' u z => by rw [hz] at z; cases z) (fun ps z => nomatch z) fun L' H' s h => ⟨vs, h, Reps.stay m s ds vs r⟩
/-- a new thing of the store -/
theorem SM.ownO (m : SM F L H M) {p : Addr} {ob : Ob} {ho : HO} (hp : H p = none) (r : ∀ L' H', Stp L H L' H' → H' p = some ho → ObR F L' H' p ob) : SM F (L ++ [p]) (upd H p ho) (M ++ [ob]) ∧ Stp L H (L ++ [p]) (upd H p ho) := by
  have s : Stp L H (L ++ [p]) (upd H p ho) := Stp.alloc' hp
  refine ⟨⟨by rw [List.length_append, List.length_append, m.len]; rfl, List.nodup_append.mpr ⟨m.nd, by simp, fun x hx y hy z => ?_⟩, fun j b o h1 h2 => ?_, m.tbs.ext fun b x h => by rw [upd_ne (ne_of_none h hp)]; exact h⟩, s⟩
  · have hy' : y = p := by simpa using hy
    rw [z, hy'] at hx
    exact fresh_out m hp hx
  · by_cases hj : j < L.length
    · rw [List.getElem?_append_left hj] at h1
      rw [List.getElem?_append_left (by rw [← m.len]; exact hj)] at h2
      exact ObR.stay m s (fun u hu _ => by rw [upd_ne (ne_of_none hu hp)]; exact hu) o (m.obs j b o h1 h2)
    · rw [List.getElem?_append_right (by omega)] at h1
      rw [List.getElem?_append_right (by rw [← m.len]; omega)] at h2
      have hj0 : j - L.length = 0 := by
        have h3 := (List.getElem?_eq_some_iff.mp h1).1
        simp at h3
        omega
      rw [hj0] at h1
      rw [← m.len, hj0] at h2
      have e1 : p = b := by simpa using h1
      have e2 : ob = o := by simpa using h2
      subst e1 e2
      exact r _ _ s upd_same
/-- a new list of the store -/
theorem SM.own (m : SM F L H M) {p : Addr} {ds : List D} {vs : List V} (hp : H p = none) (r : Reps F L H ds vs) : SM F (L ++ [p]) (upd H p (.lst vs)) (M ++ [.lst ds]) ∧ Stp L H (L ++ [p]) (upd H p (.lst vs)) := m.ownO hp fun L' H' s h => ⟨vs, h, Reps.stay m s ds vs r⟩
abbrev DenG := D → DenS
def DG (F : Fx) (X : Cx) (W : WX) (tg : Expr) (den : DenG) : Prop :=
  ∃ t, PG X tg t ∧ ∀ (d : D) (v : V) (e : Env) (M : Store) (L : List Addr) (σ : St) (H : Hp) (T : Ends), SR F L H M e σ → Rep F L H d v → PostS F L H W T (den d e M) → t v σ H T.nx
def DGs (F : Fx) (X : Cx) (W : WX) (tgs : List Expr) (den : List D → DenS) : Prop :=
  ∃ t, PGs X tgs t ∧ ∀ (ds : List D) (vs : List V) (e : Env) (M : Store) (L : List Addr) (σ : St) (H : Hp) (T : Ends), SR F L H M e σ → Reps F L H ds vs → PostS F L H W T (den ds e M) → t vs σ H T.nx
def nameG (i : Nat) : DenG := fun d e M => some (.nx (e.set i (some d)), M)
theorem dg_name (i : Nat) {x : Str} {pos : Pos} (hN : X.N.Nodup) (hi : X.N[i]? = some x := by rfl) (hx : Loc X.env.scope x := by first | exact Or.inl rfl | exact Or.inr rfl) (hf : X.fn x = true ∨ X.env.scope.names.lookup x = some .local := by first | exact .inl rfl | exact .inr rfl) : DG F X W (.Name x pos) (nameG i) :=
  ⟨_, pg_name hN hi hx hf, fun d v e M L σ H T sr rv p => p L H _ (Stp.refl L H) (sr.set i rv)⟩
def nilG : List D → DenS
  | [], e, M => some (.nx e, M)
  | _, _, _ => none
def consG (g : DenG) (gs : List D → DenS) : List D → DenS
  | d :: ds, e, M => (match g d e M with
    | some (.nx e', M') => gs ds e' M'
    | _ => none)
  | _, _, _ => none
theorem dgs_nil : DGs F X W [] nilG := by
  refine ⟨_, pgs_nil, fun ds vs e M L σ H T sr rv p => ?_⟩
  cases ds with
  | nil => exact ⟨rv, p L H σ (Stp.refl L H) sr⟩
  | cons d ds => exact False.elim p
theorem dgs_cons {y : Expr} {ys : List Expr} {g : DenG} {gs : List D → DenS} (h1 : DG F X W y g) (h2 : DGs F X W ys gs) (hs : (assignEach (y :: ys) X.env).map (·.2) = assign y X.env :: (assignEach ys X.env).map (·.2) := by rfl) : DGs F X W (y :: ys) (consG g gs) := by
  obtain ⟨t, p1, q1⟩ := h1
  obtain ⟨u, p2, q2⟩ := h2
  refine ⟨_, pgs_cons p1 p2 hs, fun ds vs e M L σ H T sr rv p => ?_⟩
  cases ds with
  | nil => exact False.elim p
  | cons d ds =>
    obtain ⟨v, r, rfl, r1, r2⟩ := rv
    refine ⟨v, r, rfl, q1 d v e M L σ H { T with nx := fun σ' H' => u r σ' H' T.nx } sr r1 ?_⟩
    have p' : PostS F L H W T (match g d e M with
      | some (.nx e', M') => gs ds e' M'
      | _ => none) := p
    clear p
    revert p'
    cases g d e M with
    | none => exact id
    | some z =>
      obtain ⟨fl, M'⟩ := z
      cases fl with
      | nx e' => exact fun p L' H' σ' s r' => q2 ds r e' M' L' σ' H' T r' (Reps.stay sr.m s ds r r2) (PostS.go s p)
      | bk e' => exact False.elim
      | ct e' => exact False.elim
      | rt d' => exact False.elim
      | ex c fs e' => exact False.elim
def tupG (n : Nat) (gs : List D → DenS) : DenG := fun d e M => match d with
  | .tup ds => if ds.length = n then gs ds e M else none
  | .ktp ns => if ns.length = n then gs (ns.map D.int) e M else none
  | _ => none
theorem dg_tup {ys : List Expr} {kx : Nat} {pos : Pos} {n : Nat} {gs : List D → DenS} (hc : X.calm = true) (h : DGs F X W ys gs) (hK : X.K = F.K := by rfl) (hn : (assignEach ys X.env).length = n := by rfl) (hst : (assignEach ys X.env).findIdx? (·.1) = none := by rfl) : DG F X W (.Tuple ys kx pos) (tupG n gs) := by
  obtain ⟨t, p1, q1⟩ := h
  refine ⟨_, pg_tup hc p1 hn hst, fun d v e M L σ H T sr rv p => ?_⟩
  unfold tupG at p
  split at p
  · rename_i ds
    obtain ⟨a, vs, rfl, a2, a3⟩ := rv
    have a2 := (Or.inl (Or.inl a2) : SqT F.K H a vs)
    split at p
    · rename_i hl
      exact ⟨a, vs, rfl, by rw [hK]; exact a2, by rw [← reps_len a3]; exact hl, q1 ds vs e M L σ H T sr a3 p⟩
    · exact False.elim p
  · rename_i ns
    obtain ⟨a, rfl, a2⟩ := rv
    have a3 : SqT F.K H a (ns.map V.int) := .inr a2
    split at p
    · rename_i hl
      exact ⟨a, _, rfl, by rw [hK]; exact a3, by rw [List.length_map]; exact hl, q1 _ _ e M L σ H T sr (reps_ints ns) p⟩
    · exact False.elim p
  · exact False.elim p
/-- o[i] = .. -/
def subG (dob di : DenE) : DenG := fun d e M => thenS (dob e M) e fun o M1 => thenS (di e M1) e fun i M2 => match o, i with
  | .loc n, .int z => (match M2[n]? with
    | some (.lst ds) => (match ixN ds.length z with
      | some j => some (.nx e, M2.set n (.lst (ds.set j d)))
      | none => none)
    | _ => none)
  | _, _ => none
theorem dg_sub {o i : Expr} {dob di : DenE} {pos : Pos} (ho : DE F X W o dob) (hi : DE F X W i di) (ha : ∀ v, assign (.Subscript o i pos) X.env v = (do
      let o1 ← holding [v] (eval o X.env)
      let i1 ← holding [v, o1] (eval i X.env)
      standAt pos
      holding [v, o1, i1] (setItem o1 i1 v)
      release [v, o1, i1] []) := by intro _; rfl) : DG F X W (.Subscript o i pos) (subG dob di) := by
  obtain ⟨to, p1, q1⟩ := ho
  obtain ⟨ti, p2, q2⟩ := hi
  refine ⟨_, pg_sub p1 p2 set_list ha, fun d v e M L σ H T sr rv p => ?_⟩
  refine q1 e M L σ H _ sr (post_then (fun od M1 L1 H1 ov s1 r1 rov qa => ?_) p)
  refine q2 e M1 L1 σ H1 _ r1 (post_then (fun id' M2 L2 H2 iv s2 r2 riv q => ?_) qa)
  split at q
  · rename_i n z
    split at q
    · rename_i ds hds
      split at q
      · rename_i j hj
        obtain ⟨a, rfl, ha'⟩ := Rep.stay r1.m s2 _ _ rov
        have ziv : iv = .int z := riv
        subst ziv
        obtain ⟨o2, h1, h2⟩ := r2.m.get ha'
        rw [hds] at h1
        cases h1
        obtain ⟨vs, h3, h4⟩ := h2
        have rv2 := Rep.stay r1.m s2 _ _ (Rep.stay sr.m s1 _ _ rv)
        obtain ⟨m3, s3⟩ := SM.put r2.m ha' h3 (reps_set j h4 rv2)
        exact ⟨a, vs, z, j, rfl, rfl, h3, by rw [← reps_len h4]; exact hj, q L2 _ σ s3 (r2.stay s3 m3)⟩
      · exact False.elim q
    · exact False.elim q
  · exact False.elim q
def asgG (da : DenE) (g : DenG) : DenS := fun e M => thenS (da e M) e fun d M1 => g d e M1
theorem ds_asg {tg y : Expr} {da : DenE} {g : DenG} {pos : Pos} (ha : DE F X W y da) (hg : DG F X W tg g) (hs : swapsWithSole [tg] y pos.line X.env = pure false := by rfl) (hw : swappedStores [tg] y X.env = pure none := by rfl) (h1 : (assignEach [tg] X.env).map (·.2) = [assign tg X.env] := by rfl) : DS F X W (.Assign [tg] y pos) (asgG da g) := by
  obtain ⟨ta, p1, q1⟩ := ha
  obtain ⟨t, p2, q2⟩ := hg
  refine ⟨_, ps_asg p1 p2 hs hw h1, fun e M L σ H T sr pp => q1 e M L σ H _ sr (post_then (fun d M1 L1 H1 v s1 r1 rv q => ?_) pp)⟩
  exact q2 d v e M1 L1 σ H1 T r1 rv q
/-- a, b = x, y: two plain names -/
def parS (i j : Nat) (da db : DenE) : DenS := fun e M => thenS (da e M) e fun d M1 => thenS (db e M1) e fun d' M2 => some (.nx ((e.set i (some d)).set j (some d')), M2)
theorem ds_par (i j : Nat) {x y : Str} {a b : Expr} {da db : DenE} {px py pt pos : Pos} {kt k2 pt2} (hc : X.calm = true) (hN : X.N.Nodup) (ha : DE F X W a da) (hb : DE F X W b db) (hi : X.N[i]? = some x := by rfl) (hj : X.N[j]? = some y := by rfl) (hij : i ≠ j := by decide)
    (hx : X.env.scope.names.lookup x = some .local := by rfl) (hy : X.env.scope.names.lookup y = some .local := by rfl) (hw : swappedStores [.Tuple [.Name x px, .Name y py] kt pt] (.Tuple [a, b] k2 pt2) X.env = pure (some [x, y]) := by rfl)
    (hs : swapsWithSole [.Tuple [.Name x px, .Name y py] kt pt] (.Tuple [a, b] k2 pt2) pos.line X.env = pure false := by rfl) (h1 : starEach (a :: [b]) X.env = (false, eval a X.env) :: starEach [b] X.env := by rfl) (h2 : starEach (b :: []) X.env = (false, eval b X.env) :: starEach [] X.env := by rfl) :
    DS F X W (.Assign [.Tuple [.Name x px, .Name y py] kt pt] (.Tuple [a, b] k2 pt2) pos) (parS i j da db) := by
  obtain ⟨ta, p1, q1⟩ := ha
  obtain ⟨tb, p2, q2⟩ := hb
  refine ⟨_, ps_par hc hN hi hj hij hx hy (pa_cons p1 (pa_cons p2 pa_nil h2) h1) hw hs, fun e M L σ H T sr pp => q1 e M L σ H _ sr (post_then (fun d M1 L1 H1 v s1 r1 rv q => ?_) pp)⟩
  refine q2 e M1 L1 σ H1 _ r1 (post_then (fun d2 M2 L2 H2 v2 s2 r2 rv2 q => ?_) q)
  exact ⟨v, v2, rfl, q L2 H2 _ (Stp.refl L2 H2) ((r2.set i (Rep.stay r1.m s2 d v rv)).set j rv2)⟩
def ownS (i : Nat) (dr : DenA) : DenS := fun e M => thenS (dr e M) e fun ds M1 => if ds.length ≤ 100000 then some (.nx (e.set i (some (.loc M1.length))), M1 ++ [.lst ds]) else none
theorem ds_own (i : Nat) {x : Str} {ys : List Expr} {dr : DenA} {p2 pos pos' : Pos} (hN : X.N.Nodup) (hr : DA F X W ys dr) (hi : X.N[i]? = some x := by rfl) (hx : Loc X.env.scope x := by first | exact Or.inl rfl | exact Or.inr rfl) (hs : swapsWith (.List ys p2) (some (.Name x pos')) pos.line X.env = pure false := by rfl)
    (hf : X.fn x = true ∨ X.env.scope.names.lookup x = some .local := by first | exact .inl rfl | exact .inr rfl) : DS F X W (.Assign [.Name x pos'] (.List ys p2) pos) (ownS i dr) := by
  obtain ⟨t, p, q⟩ := hr
  refine ⟨_, ps_set hN hi hx (pe_lst p) hs hf, fun e M L σ H T sr pp => q e M L σ H _ sr (post_then (fun ds M1 L1 H1 vs s1 r1 rv q2 => ?_) pp)⟩
  split at q2
  · rename_i hl
    refine ⟨by rw [← reps_len rv]; exact sz_ok hl, fun p' hp => ?_⟩
    obtain ⟨m3, s3⟩ := SM.own r1.m hp rv
    have r3 := r1.stay s3 m3
    refine q2 _ _ _ s3 (r3.set i ⟨p', rfl, ?_⟩)
    rw [← r1.m.len, List.getElem?_append_right (Nat.le_refl _), Nat.sub_self]
    rfl
  · exact False.elim q2
/-- x.append(y) -/
def appS (dob da : DenE) : DenS := fun e M => thenS (dob e M) e fun o M1 => match o with
  | .loc n => if isL M1 n = true then thenS (da e M1) e fun d M2 => (match M2[n]? with
    | some (.lst ds) => if ds.length < 100000 then some (.nx e, M2.set n (.lst (ds ++ [d]))) else none
    | _ => none) else none
  | _ => none
theorem ds_app {o y : Expr} {dob da : DenE} {apos cpos pos : Pos} (ho : DE F X W o dob) (ha : DE F X W y da) (hb : attributeBase o "append" X.env (eval o X.env) = eval o X.env := by rfl)
    (hw : ((backTo cpos (starEach (y :: []) X.env)).all (fun x => !x.1) && (backToKw cpos (keywordEach [] X.env)).all (fun x => x.1.isSome) && decide ((y :: ([] : List Expr)).length + ([] : List Keyword).length + (if ([] : List Keyword).isEmpty then 0 else 1) < 30)) = true := by rfl)
    (hl : (apos.endLine == cpos.line) = true := by rfl) (h2 : starEach (y :: []) X.env = (false, eval y X.env) :: starEach [] X.env := by rfl) (hpl : (backTo cpos (starEach [] X.env)).any (·.1) = false := by rfl) (hs : swapsWith (.Call (.Attribute o "append" apos) [y] [] cpos) none pos.line X.env = pure false := by rfl) (hK : X.K = F.K := by rfl) :
    DS F X W (.Expr (.Call (.Attribute o "append" apos) [y] [] cpos) pos) (appS dob da) := by
  obtain ⟨to, p1, q1⟩ := ho
  obtain ⟨ta, p2, q2⟩ := ha
  refine ⟨_, ps_expr (pe_bm PySem.F.plainAttrs_list PySem.F.slot_list_append PySem.F.type_list_append mt_append p1 (pa_cons p2 pa_nil h2) hb hw hl h2 hpl) hs, fun e M L σ H T sr pp => q1 e M L σ H _ sr (post_then (fun od M1 L1 H1 ov s1 r1 rov q => ?_) pp)⟩
  split at q
  · rename_i n
    obtain ⟨a, rfl, ha'⟩ := rov
    split at q
    rotate_left
    · exact False.elim q
    rename_i hk
    obtain ⟨ws, hw'⟩ := r1.m.lst ha' hk
    refine ⟨.inl ⟨rfl, ws, .inl (.inl hw')⟩, q2 e M1 L1 σ H1 _ r1 (post_then (fun d M2 L2 H2 v s2 r2 rv q => ?_) q)⟩
    split at q
    · rename_i ds hds
      obtain ⟨o2, h1, h2⟩ := r2.m.get (s2.get ha')
      rw [hds] at h1
      cases h1
      obtain ⟨vs, h3, h4⟩ := h2
      split at q
      · rename_i hz
        obtain ⟨m3, s3⟩ := SM.put r2.m (s2.get ha') h3 (reps_snoc h4 rv)
        refine ⟨a, vs, v, rfl, rfl, h3, ?_, q L2 _ σ s3 (r2.stay s3 m3)⟩
        rw [← reps_len h4]
        exact Nat.lt_of_lt_of_le hz (by decide)
      · exact False.elim q
    · exact False.elim q
  · exact False.elim q
def raiseS (c : String) : DenS := fun e M => some (.ex c [] e, M)
end
end DL
namespace DL
open PySem L2
/-- an exception's object as it stands, told to the abstract heap -/
def exP (C a : Addr) (dd : Option Addr) : Heap → Prop := fun h => ∃ (oe : Obj) (vs : Array Value), h.get? a = some oe ∧ oe.cls = .ref C ∧ oe.dict = dd ∧ oe.data = .fields vs
section
variable {F : Fx} {X : Cx} {W : WX} {L L1 : List Addr} {H H1 : Hp} {M : Store} {e : DL.Env} {σ : St} {T : Ends} {k : Nat} {p₀ : List (Addr × Obj)} {s : Shared}
/-- an object that nothing told of is told -/
theorem inv_track {a : Addr} {oe : Obj} {vs : Array Value} {φ : Heap → Prop} (I : L2.Inv X p₀ σ H s) (ha : s.heap.get? a = some oe) (hd : oe.data = .fields vs) (na : H a = none) (nL : a ≠ X.env.locals) (n0 : X.s_0.heap.get? a = none) (np : ∀ p ∈ X.pn ++ p₀, p.1 ≠ a) (hφ : φ s.heap)
    (st : ∀ h1 h2 : Heap, φ h1 → (∀ o, h1.get? a = some o → h2.get? a = some o) → φ h2) : L2.Inv X p₀ σ (upd H a (.ext φ)) s := by
  have old : ∀ b o, X.s_0.heap.get? b = some o → b ≠ a := fun b o q z => by
    rw [z, n0] at q
    cases q
  have other : ∀ b (o : HO), H b = some o → upd H a (.ext φ) b = some o := fun b o q => by
    rw [upd_ne (ne_of_none q na)]
    exact q
  refine ⟨I.ok, I.os, I.bare, ⟨I.base.keep, I.base.slot, fun b o q n hx => ?_, I.base.there, fun b xs q => other b _ (I.base.tups b xs q), fun b o u q => other b _ (I.base.frzs b o u q), fun b ps q => ?_⟩, I.loc, I.cell, ?_, fun x c q => ?_, fun p hp => ?_, fun b o q => ?_, I.len⟩
  · rw [upd_ne (old b o q)]
    exact I.base.free b o q n hx
  · obtain ⟨more, z⟩ := I.base.tbls b ps q
    exact ⟨more, other b _ z⟩
  · rw [upd_ne (Ne.symm nL)]
    exact I.free
  · have ne : c ≠ a := fun z => by
      obtain ⟨v, oc, ho, hdc⟩ := I.cell x c q
      rw [z, ha] at ho
      cases ho
      rw [hd] at hdc
      cases hdc
    rw [upd_ne ne]
    exact I.freeC x c q
  · obtain ⟨q1, q2, q3⟩ := I.pin p hp
    refine ⟨q1, ?_, q3⟩
    rw [upd_ne (np p hp)]
    exact q2
  · by_cases hb : b = a
    · subst hb
      rw [upd_same] at q
      cases q
      exact ⟨hφ, ⟨oe, ha⟩, st⟩
    · rw [upd_ne hb] at q
      exact (I.hok b o q).stay (fun c u _ z => z) (fun c z => other c _ z) fun c xs z => other c _ z
theorem flying_keep {B h h' : Heap} {l : List PySem.Env} {a : Addr} {Z : Obj → Prop} (fl : HandSPX.FlyingZ B l a Z h) (kp : ∀ b o, h.get? b = some o → h'.get? b = some o) : HandSPX.FlyingZ B l a Z h' := by
  obtain ⟨k1, k2, k3, oe, vs, T', oT, ts, q1, q2, q3, q4, q5, q6, q7, q8, q9⟩ := fl
  exact ⟨fun b o q => kp b o (k1 b o q), k2, PySem.Heap.FunFrames.of_keeps (fun b o q _ => ⟨o, kp b o q, rfl⟩) k3, oe, vs, T', oT, ts, kp _ _ q1, q2, q3, q4, q5, q6, kp _ _ q7, q8, q9⟩
/-- the classes that a clause names, looked at -/
def Cla (X : Cx) (te : Expr) (ct : Value → Bool) : Prop := ∀ (a : Addr) (pn p₁ : List (Addr × Obj)) (σ : St) (H : Hp) (s : Shared) (cls : Value) (Q : Bool → Shared → Prop) (E : Value → Shared → Prop), L2.Inv (X.suite a pn) p₁ σ H s →
  (∃ oe, s.heap.get? a = some oe ∧ oe.cls = cls) → ct cls = true → (∀ s' : Shared, (∀ b o, s.heap.get? b = some o → s'.heap.get? b = some o) → s'.os = s.os → PyProof.Rows.AllBare s'.gens → Q true s') →
  wpAny (model X.prog X.w) (X.A.mark (some (.ref a))) (eval te X.env) (fun c s₁ => wpAny (model X.prog X.w) (X.A.mark (some (.ref a))) (excMatches (.ref a) c) Q E s₁) E s
theorem ld_cls {a : Addr} {pn p₁ : List (Addr × Obj)} {x : Str} {c : Value} {p : Pos} {Q : Value → Shared → Prop} {E : Value → Shared → Prop} (hc : Names X x c) (I : L2.Inv (X.suite a pn) p₁ σ H s) (q : Q c s) : wpAny (model X.prog X.w) (X.A.mark (some (.ref a))) (eval (.Name x p) X.env) Q E s := by
  obtain ⟨hg, hdb, hm | ⟨hm, hv, hn⟩⟩ := hc
  · exact ld_glob (X := X.suite a pn) I hg hm q hdb
  · exact ld_blt (X := X.suite a pn) I hg hm hv q hn hdb
theorem looks_at {M : Model} {h : Heap} {a : Addr} {oe : Obj} {cls : Value} (ha : h.get? a = some oe) (hc : oe.cls = cls) : PySem.W.Looks M h (typeOf (.ref a)) cls := fun A Q E s k q => wpAny_typeOf_ref (k _ _ ha) (by rw [hc]; exact q)
theorem cla_name {x : Str} {c : Value} {p : Pos} {ct : Value → Bool} (hc : Names X x c) (h : ∀ cls, ct cls = true → PySem.W.exmOne X.K cls c = some true) : Cla X (.Name x p) ct := by
  intro a pn p₁ σ H s cls Q E I hcls hct q
  obtain ⟨oe, h1, h2⟩ := hcls
  exact ld_cls hc I ((PySem.W.exm_one (M := model X.prog X.w) I.kIn (looks_at h1 h2) (h cls hct)).here (q s (fun _ _ z => z) rfl I.bare))
theorem cla_tup3 {x1 x2 x3 : Str} {C1 C2 C3 : Addr} {p1 p2 p3 p : Pos} {kx : Nat} {ct : Value → Bool} (n1 : Gl X x1 ∧ X.mg x1 = some (.ref C1)) (n2 : Gl X x2 ∧ X.mg x2 = some (.ref C2)) (n3 : Gl X x3 ∧ X.mg x3 = some (.ref C3)) (h : ∀ cls, ct cls = true → PySem.W.exmAny X.K cls [.ref C1, .ref C2, .ref C3] = some true)
    (d1 : (x1 == ("__debug__" : Str)) = false := by decide) (d2 : (x2 == ("__debug__" : Str)) = false := by decide) (d3 : (x3 == ("__debug__" : Str)) = false := by decide)
    (s1 : starEach [.Name x1 p1, .Name x2 p2, .Name x3 p3] X.env = (false, eval (.Name x1 p1) X.env) :: starEach [.Name x2 p2, .Name x3 p3] X.env := by rfl) (s2 : starEach [.Name x2 p2, .Name x3 p3] X.env = (false, eval (.Name x2 p2) X.env) :: starEach [.Name x3 p3] X.env := by rfl)
    (s3 : starEach [.Name x3 p3] X.env = (false, eval (.Name x3 p3) X.env) :: starEach [] X.env := by rfl) : Cla X (.Tuple [.Name x1 p1, .Name x2 p2, .Name x3 p3] kx p) ct := by
  intro a pn p₁ σ H s cls Q E I hcls hct q
  obtain ⟨oe, h1, h2⟩ := hcls
  refine wpAny_Tuple_spliced ?_
  rw [s1]
  show wpAny _ _ (spliced ((false, eval (.Name x1 p1) X.env) :: backTo p (starEach [.Name x2 p2, .Name x3 p3] X.env))) _ _ s
  refine Calls.spliced_cons (ld_cls ⟨n1.1, d1, .inl n1.2⟩ I ?_)
  rw [s2]
  show wpAny _ _ (spliced ((false, eval (.Name x2 p2) X.env) :: backTo p (starEach [.Name x3 p3] X.env))) _ _ s
  refine Calls.spliced_cons (ld_cls ⟨n2.1, d2, .inl n2.2⟩ I ?_)
  rw [s3]
  show wpAny _ _ (spliced ((false, eval (.Name x3 p3) X.env) :: backTo p (starEach [] X.env))) _ _ s
  refine Calls.spliced_cons (ld_cls ⟨n3.1, d3, .inl n3.2⟩ I ?_)
  refine Calls.spliced_nil ⟨by show 3 ≤ sizeLine; decide, ?_⟩
  have kp : ∀ b o, s.heap.get? b = some o → (s.heap.push { cls := .type "tuple", data := .seq [Value.ref C1, .ref C2, .ref C3].toArray }).get? b = some o := fun b o z => Heap.get?_push_of_some _ z
  have LM := PySem.W.exm_tup3 (M := model X.prog X.w) (h := s.heap.push { cls := .type "tuple", data := .seq [Value.ref C1, .ref C2, .ref C3].toArray }) (I.kIn.keeps kp) (looks_at (kp _ _ h1) h2) (Heap.get?_push_size _ rfl) (h cls hct)
  exact LM.here (q { s with heap := s.heap.push { cls := .type "tuple", data := .seq [Value.ref C1, .ref C2, .ref C3].toArray } } kp rfl I.bare)
/-- behind the body's exception: the suite with the error at i, then i is empty -/
def sufS (i : Nat) (su : DenS) (c : String) (fs : List (Str × D)) (e' : DL.Env) (M' : Store) : RS := match su (e'.set i (some (.exc c fs))) M' with
  | some (.nx e2, M2) => some (.nx (e2.set i none), M2)
  | some (.bk e2, M2) => some (.bk (e2.set i none), M2)
  | some (.ct e2, M2) => some (.ct (e2.set i none), M2)
  | some (.rt d, M2) => some (.rt d, M2)
  | _ => none
def tryS (i : Nat) (ct : String → Bool) (db su : DenS) : DenS := fun e M => match db e M with
  | some (.ex c fs e', M') => if ct c = true then sufS i su c fs e' M' else none
  | r => r
theorem ds_try {te : Expr} {n : Str} {b₀ : Stmt} {suite body : List Stmt} {pos pos' : Pos} {db su : DenS} {cv : Value → Bool} (i : Nat) (ct : String → Bool) (d : Dc X W k) (hs : X.stack = X.env :: X.outer) (hf : X.env.frame = some X.env.locals) (hex : X.ex = []) (hN : X.N.Nodup) (hi : X.N[i]? = some n) (hln : X.env.kindOf n = some .local)
    (hc : Cla X te cv) (hcv : ∀ c C, F.cl c = some C → ct c = true → cv (.ref C) = true)
    (hb : ∀ (W' : WX) (pn : List (Addr × Obj)) (xe : Value → Shared → Prop), Dc (X.tr pn xe) W' k → DSs F (X.tr pn xe) W' body db)
    (hsu : ∀ (a : Addr) (pn : List (Addr × Obj)), DSs F (X.suite a pn) (fun _ _ _ _ => False) (b₀ :: suite) su) :
    DS F X W (.Try body [.ExceptHandler (some te) (some n) (b₀ :: suite) pos'] [] [] pos) (tryS i ct db su) := by
  refine ⟨fun T σ H => ∃ (e : DL.Env) (M : Store) (L : List Addr), SR F L H M e σ ∧ PostS F L H W T (tryS i ct db su e M), ⟨fun p₁ s₁ σ₁ H₁ T₁ I₁ h₁ => ?_⟩, fun e M L σ H T sr pp => ⟨e, M, L, sr, pp⟩⟩
  obtain ⟨e, M, L, sr, pp⟩ := h₁
  have okk := I₁.ok
  have hfr : X.A.frames = some (X.env :: X.outer) := by rw [okk.frames, hs]
  have lcn : Loc X.env.scope n := .inl hln
  -- the wish about the body's exceptions
  let W' : WX := fun cls dd σ' H' => ∃ (c : String) (fs : List (Str × D)) (e' : DL.Env) (M' : Store) (L' : List Addr), SR F L' H' M' e' σ' ∧ ExR F L' H' c fs cls dd ∧ ct c = true ∧ PostS F L' H' W T₁ (sufS i su c fs e' M')
  let xe' : Value → Shared → Prop := fun u s1 => wpAny (model X.prog X.w) X.A (noteFrame u X.env) (fun _ s2 => wpAny (model X.prog X.w) X.A (setFlight u none) (fun _ s3 => wpAny (model X.prog X.w) X.A (handleBy u X.env [.ExceptHandler (some te) (some n) (b₀ :: suite) pos']) (SP X p₁ T₁) X.xe s3) X.xe s2) X.xe s1
  have tk' : Takes (X.tr (X.pn ++ p₁) xe') W' := by
    intro u s' xx
    obtain ⟨a, B, sI, pins', σ', H', cls, dd, rfl, J', nb, up, sky, na, os, ag, c, fs, e', M', L', sr', hx', hct, pp'⟩ := xx
    have J : L2.Inv X p₁ σ' H' sI := J'.ofTry okk
    have sky' : Sky B (X.env :: X.outer) a (Zc cls dd) X.env.locals s'.heap := by rw [← hs]; exact sky
    show wpAny _ X.A (noteFrame (.ref a) X.env) _ _ _
    have Bn : B.get? a = none := by
      rcases sky' with ⟨_, z, _⟩ | z | z
      · exact z
      · exact z.2.1
      · exact z.2.1
    refine Sky.land Zc.steady hfr hf sky' fun hh ff uu => ?_
    have JL : L2.Inv X p₁ σ' H' { s' with heap := hh } := J.landed nb ff.1 (up.trans uu) os ag
    obtain ⟨ox, xs9, eo, zo, od9⟩ := ff.there
    have nfr : a ∉ frs (X.env :: X.outer) := fun hm => by
      obtain ⟨_, o', e2, hnf⟩ := ff.2.2.1.mem hm
      rw [eo] at e2
      cases e2
      exact hnf _ od9
    have nl1 : a ≠ X.env.locals := fun z => nfr (List.mem_filterMap.mpr ⟨X.env, List.mem_cons_self, by rw [hf, z]⟩)
    have nf1 : a ∉ X.fs := fun hm => by
      obtain ⟨env', he, q⟩ := List.mem_filterMap.mp hm
      exact nfr (List.mem_filterMap.mpr ⟨env', List.mem_cons_of_mem _ he, q⟩)
    have sIn : sI.heap.get? a = none := by
      cases z : sI.heap.get? a with
      | none => rfl
      | some o =>
        have z2 := nb a o z (by rw [hs]; exact nfr)
        rw [Bn] at z2
        cases z2
    have s0n : X.s_0.heap.get? a = none := by
      cases z : X.s_0.heap.get? a with
      | none => rfl
      | some o =>
        obtain ⟨o', z2⟩ := J.base.there a o z (by rw [hex]; simp)
        rw [sIn] at z2
        cases z2
    have np : ∀ p ∈ X.pn ++ p₁, p.1 ≠ a := fun p hp z => by
      obtain ⟨q1, _⟩ := J.pin p hp
      rw [z, sIn] at q1
      cases q1
    have SU := JL.suite eo od9 na nl1 nf1
    refine wpAny_handleBy_cons (codeAny_handlers_test ?_) fun q => nomatch q
    obtain ⟨C, hC, rfl, hfd⟩ := hx'
    refine hc a _ [] σ' H' _ (.ref C) _ _ SU ⟨ox, eo, zo.1⟩ (hcv c C hC hct) fun s4 k4 o4 b4 => ?_
    apply codeAny_handlers_suite_as
    have fl4 : HandSPX.FlyingZ B (X.env :: X.outer) a (Zc (.ref C) dd) s4.heap := flying_keep ff k4
    refine HandSPX.lands_againZ fl4 fun h5 fl5 up5 => ?_
    have up4 : hh.UpToSlots s4.heap := Heap.UpToSlots.of_keeps k4
    have J5 : L2.Inv X p₁ σ' H' { s4 with heap := h5 } := J.landed nb fl5.1 (((up.trans uu).trans up4).trans up5) (o4.trans os) b4
    obtain ⟨oe5, vs5, he5, hz5, hd5⟩ := fl5.there
    have J6 : L2.Inv X p₁ σ' (upd H' a (.ext (exP C a dd))) { s4 with heap := h5 } := inv_track J5 he5 hd5 na nl1 s0n np ⟨oe5, vs5, he5, hz5.1, hz5.2, hd5⟩ fun h1 h2 ⟨o1, w1, q1, q2, q3, q4⟩ kk => ⟨o1, w1, kk _ q1, q2, q3, q4⟩
    have S6 : L2.Inv (X.suite a (X.pn ++ p₁)) [] σ' (upd H' a (.ext (exP C a dd))) { s4 with heap := h5 } :=
      ⟨J6.ok.suite _ _, J6.os, J6.bare, J6.base, J6.loc, J6.cell, J6.free, J6.freeC, fun p hp => J6.pin p (by rw [List.append_nil] at hp; exact hp), J6.hok, J6.len⟩
    have stp : Stp L' H' L' (upd H' a (.ext (exP C a dd))) := Stp.alloc na
    have sr6 : SR F L' (upd H' a (.ext (exP C a dd))) M' e' σ' := sr'.stay stp (sr'.m.alloc na)
    have rep6 : Rep F L' (upd H' a (.ext (exP C a dd))) (.exc c fs) (.ref a) := by
      refine ⟨a, C, dd, rfl, hC, ⟨_, upd_same, fun h z => z⟩, fresh_out sr'.m na, ?_⟩
      cases dd with
      | none => exact hfd
      | some x =>
        obtain ⟨ws, q1, q2, q3⟩ := hfd
        exact ⟨ws, by rw [upd_ne (ne_of_none q1 na)]; exact q1, q2, RepF.stay sr'.m stp fs ws q3⟩
    have back : ∀ {σ7 : L2.St} {H7 : Hp} {s7 : Shared}, L2.Inv (X.suite a (X.pn ++ p₁)) [] σ7 H7 s7 → L2.Inv X p₁ σ7 H7 s7 := fun {σ7 H7 s7} J7 =>
      ⟨okk, J7.os, J7.bare, J7.base, J7.loc, J7.cell, J7.free, J7.freeC, fun p hp => J7.pin p (by rw [List.append_nil]; exact hp), J7.hok, J7.len⟩
    refine store_ok (X := X.suite a (X.pn ++ p₁)) (v := .ref a) S6 hN hi lcn rfl (fun s7 S7 => ?_) (.inr hln)
    obtain ⟨tu, pu, qu⟩ := hsu a (X.pn ++ p₁)
    let T6 : Ends := { nx := fun σ' H' => T₁.nx (σ'.set i none) H', rt := T₁.rt, bk := fun σ' H' => T₁.bk (σ'.set i none) H', ct := fun σ' H' => T₁.ct (σ'.set i none) H' }
    have ps6 : PostS F L' (upd H' a (.ext (exP C a dd))) (fun _ _ _ _ => False) T6 (su (e'.set i (some (.exc c fs))) M') := by
      have pp6 := PostS.go stp pp'
      unfold sufS at pp6
      revert pp6
      cases su (e'.set i (some (.exc c fs))) M' with
      | none => exact id
      | some y =>
        obtain ⟨fl, M7⟩ := y
        cases fl with
        | nx e7 => exact fun q L7 H7 σ7 s7 r7 => q L7 H7 _ s7 (r7.unset i none)
        | bk e7 => exact fun q L7 H7 σ7 s7 r7 => q L7 H7 _ s7 (r7.unset i none)
        | ct e7 => exact fun q L7 H7 σ7 s7 r7 => q L7 H7 _ s7 (r7.unset i none)
        | rt d7 => exact id
        | ex c7 fs7 e7 => exact fun q => (show False from q).elim
    refine wpAny_mono (pu.run [] s7 _ _ T6 S7 (qu _ M' L' _ _ T6 (sr6.set i rep6) ps6)) (fun f s8 hsp => ?_) (fun _ _ z => (show False from z).elim)
    have fin : ∀ {σ8 : L2.St} {H8 : Hp} {Q : Shared → Prop}, L2.Inv (X.suite a (X.pn ++ p₁)) [] σ8 H8 s8 → (∀ s9, L2.Inv X p₁ (σ8.set i none) H8 s9 → Q s9) →
        wpAny (model X.prog X.w) X.A (do bindName X.env n .none; unbindBehindTheSuite X.env n pos') (fun _ s9 => Q s9) X.xe s8 := fun {σ8 H8 Q} S8 hq => gone_ok (back S8) hN hi hln hq
    cases f with
    | next =>
      obtain ⟨σ8, H8, S8, q8⟩ := hsp
      exact fin S8 fun s9 J9 => ⟨_, _, J9, q8⟩
    | brk =>
      obtain ⟨σ8, H8, S8, q8⟩ := hsp
      exact fin S8 fun s9 J9 => ⟨_, _, J9, q8⟩
    | cont =>
      obtain ⟨σ8, H8, S8, q8⟩ := hsp
      exact fin S8 fun s9 J9 => ⟨_, _, J9, q8⟩
    | ret u =>
      obtain ⟨v8, σ8, H8, S8, r8, q8⟩ := hsp
      exact fin S8 fun s9 J9 => ⟨_, _, _, J9, r8, q8⟩
  have dc' : Dc (X.tr (X.pn ++ p₁) xe') W' k := ⟨tk', d.room, d.calm, d.gd, PassesOwn.looking⟩
  obtain ⟨tb, pb, qb⟩ := hb W' (X.pn ++ p₁) xe' dc'
  refine wpAny_Try_except ?_
  have psb : PostS F L H₁ W' T₁ (db e M) := by
    unfold tryS at pp
    revert pp
    cases db e M with
    | none => exact id
    | some y =>
      obtain ⟨fl, M7⟩ := y
      cases fl with
      | nx e7 => exact id
      | bk e7 => exact id
      | ct e7 => exact id
      | rt d7 => exact id
      | ex c7 fs7 e7 =>
        intro q L7 H7 σ7 cls dd s7 r7 x7
        dsimp only at q
        split at q
        · rename_i hct
          exact ⟨c7, fs7, e7, M7, L7, r7, x7, hct, PostS.go s7 q⟩
        · exact False.elim q
  refine wpAny_mono (pb.run [] s₁ σ₁ H₁ T₁ (I₁.toTry _) (qb e M L σ₁ H₁ T₁ sr psb)) (fun f s2 hsp => ?_) (fun u s2 he => he)
  cases f with
  | next =>
    obtain ⟨σ', H', J', q⟩ := hsp
    exact wpAny_execs_nil ⟨σ', H', J'.ofTry okk, q⟩
  | brk =>
    obtain ⟨σ', H', J', q⟩ := hsp
    exact ⟨σ', H', J'.ofTry okk, q⟩
  | cont =>
    obtain ⟨σ', H', J', q⟩ := hsp
    exact ⟨σ', H', J'.ofTry okk, q⟩
  | ret u =>
    obtain ⟨v, σ', H', J', rv9, q⟩ := hsp
    exact ⟨v, σ', H', J'.ofTry okk, rv9, q⟩
end
end DL
namespace DL
open PySem L2
open PySem.W PySem.Spec PySem.Calls PyProof.Rows in
theorem exc_cls {P₁ : Program} {w₁ : World} {A₁ : Around} {E₁ : Value → Shared → Prop} {st : Shared} {K₁ : Frag} {y Dc₁ : Addr} {oy : Obj} {od : Option Obj} {Q₁ : Option Value → Shared → Prop} (ec : L2.ExcC K₁ Dc₁)
    (KX : K₁.In st.heap) (IA : InstAt st.heap y oy Dc₁ od) (fin : Q₁ (some (.ref Dc₁)) { st with toks := st.toks + 1 }) : wpAny (model P₁ w₁) A₁ (getAttr? (.ref y) "__class__") Q₁ E₁ st := by
  have ff : findObj K₁ Dc₁ od "__class__" = some (.bind (.builtin "getset_descriptor.__get__") (.builtin "object.__class__")) := by
    obtain ⟨cdd, hcd, _⟩ := any_some ec.hd
    unfold findObj
    rw [hcd, Option.bind_some, ec.ha, Option.bind_some]
    simp [ec.hn, ec.ht]
  obtain ⟨hp₁, g₁, d₁, t₁, os₁⟩ := st
  have M0 := IA.type (M := model P₁ w₁)
  have M1 := looks_findIn (M := model P₁ w₁) KX ec.hg
  have M2 := looks_findIn (M := model P₁ w₁) KX ec.hk
  have M3 := looks_find (M := model P₁ w₁) KX IA ff
  have isb : Looks (model P₁ w₁) hp₁ (isInstance (.ref y) (.type "BaseException")) true := M0.andThen (looks_subIn KX ec.hs)
  have nb0 : (false && onTheHeap (Value.builtin "BaseException.__getattribute__")) = false := by rfl
  have nb1 : (onTheHeap (Value.ref Dc₁) && Value.builtin "BaseException.__getattribute__" == Value.builtin "object.__getattribute__") = false := by
    rw [show (Value.builtin "BaseException.__getattribute__" == Value.builtin "object.__getattribute__") = false by decide +kernel]
    rfl
  unfold getAttr? getAttrBy?
  unfold getAttrBy
  refine wpAny_bind (wpAny_mkText (wpAny_bind (wpAny_attempt (wpAny_holding (wpAny_bind (M0.at (wpAny_bind (M1.at ?_))))))))
  show wpAny _ _ (if (onTheHeap (Value.ref Dc₁) && Value.builtin "BaseException.__getattribute__" == Value.builtin "object.__getattribute__") = true then _ else _) _ _ _
  rw [nb1, if_neg Bool.false_ne_true]
  unfold getAttrByItsOwn
  unfold hookBefore
  refine wpAny_bind ?_
  rw [if_pos (by rfl : onTheHeap (Value.ref Dc₁) = true)]
  refine M2.at (wpAny_bind (wpAny_attempt (wpAny_holding ?_)))
  unfold callGetattribute
  rw [nb0, if_neg Bool.false_ne_true]
  unfold boundAndCalled
  rw [PySem.F.excAttr_ValueError.ga.bind (.ref y)]
  refine wpAny_bind ?_
  refine wpAny_pure ?_
  show wpAny _ _ (call (.builtin "BaseException.__getattribute__") [.ref y, .str "__class__" t₁]) _ _ _
  refine wpAny_call ?_
  apply codeAny_call_builtin PySem.F.excAttr_ValueError.ga.plain PySem.F.entry_bexc_ga
  refine @check_slot (model P₁ w₁) _ _ ⟨hp₁, g₁, d₁, t₁ + 1, os₁⟩ "BaseException.__getattribute__" "BaseException" "__getattribute__" (.ref y) [.str "__class__" t₁] [] _ (by decide +kernel) (by decide +kernel) isb (PySem.F.args_bexc_ga (.ref y) (.str "__class__" t₁)) ?_
  delta Builtin.«object.__getattribute__»
  refine wpAny_bind (wpAny_of_eq (a := ((Value.ref y : Value), [Value.str "__class__" t₁])) (by first | rfl | (simp only [slotArgs]; rfl)) ?_)
  refine wpAny_bind (wpAny_pure (wpAny_bind (M0.at (wpAny_bind (M3.at ?_)))))
  show wpAny _ _ (holding [Value.builtin "object.__class__"] (call (.builtin "getset_descriptor.__get__") [.builtin "object.__class__", .ref y, .ref Dc₁]) >>= ret) _ _ _
  refine wpAny_bind (wpAny_holding (wpAny_call (class_get (s := ⟨hp₁, g₁, d₁, t₁ + 1, os₁⟩) (ox := oy) (od := od) KX IA ec.hm ?_)))
  refine wpAny_pure ?_
  show wpAny _ _ (handedOut (.ref Dc₁)) _ _ _
  rw [handedOut_of (v := .ref Dc₁) rfl]
  first
    | exact wpAny_pure (wpAny_pure fin)
    | exact wpAny_pure fin
    | exact wpAny_pure (wpAny_bind (wpAny_pure (wpAny_pure fin)))
open PySem.W PySem.Spec PySem.Calls PyProof.Rows in
theorem exc_kit {K₁ : Frag} {y Dc₁ : Addr} {oy : Obj} {od : Option Obj} (ec : L2.ExcC K₁ Dc₁) : KitX K₁ (.ref y) (.ref Dc₁) (fun h => InstAt h y oy Dc₁ od) where
  ty := fun _ _ _ IA => IA.type
  it := fun _ _ KX _ => by
    obtain ⟨cdd, hcd, _⟩ := any_some ec.hd
    unfold clsIn at hcd
    split at hcd
    · rename_i hob
      intro A₂ Q₂ E₂ s₂ kk qq
      unfold isType loadHead
      exact wpAny_bind (wpAny_loadPart (kk _ _ (KX _ _ hob)) (wpAny_pure qq))
    · cases hcd
  ne := fun h tp dd its n sl KX htp => by
    obtain ⟨cdd, hcd, _⟩ := any_some ec.hd
    refine Bool.eq_false_iff.mpr fun qq => ?_
    have ee : Dc₁ = tp := Value.ref.inj (beq_iff_eq.mp qq)
    subst ee
    unfold clsIn at hcd
    split at hcd
    · rename_i hob
      have zz := (KX _ _ hob).symm.trans htp
      cases zz
    · cases hcd
  ca := fun KX IA k => exc_cls ec KX IA k
section
variable {F : Fx} {X : Cx} {W : WX} {L L1 : List Addr} {H H1 : Hp} {M : Store} {e : DL.Env} {σ : L2.St} {T : Ends} {k : Nat} {p₀ : List (Addr × Obj)} {s : Shared}
/-- an own class by its name -/
theorem de_own {x : Str} {pos : Pos} {C : Addr} (c : String) (hC : F.cl c = some C) (hm : X.mg x = some (.ref C)) (hg : Gl X x := by rfl) (hd : (x == ("__debug__" : Str)) = false := by decide) : DE F X W (.Name x pos) (cD (.cls c)) :=
  ⟨_, pe_glob (v := .ref C) hg hm rfl hd, fun e M L σ H Q sr p => p.ok sr ⟨C, rfl, hC⟩⟩
/-- a class as a value: what stands for it -/
def clsU (F : Fx) : D → Option Value
  | .ty S => some (.type S)
  | .cls c => (F.cl c).map .ref
  | _ => none
/-- isinstance, of an error that was kept or of data -/
def isiA (sub : String → D → Option Bool) : List D → Store → RE
  | [.exc c _, t], M => match sub c t with
    | some b => ok (.bl b) M
    | none => none
  | [d, t], M => isiF [d, t] M
  | _, _ => none
def rIsiX (K : PySem.W.Frag) : List V → Hp → VK → Prop := fun vs H Q => ∃ (a C : Addr) (c : V) (u : Value) (b : Bool), vs = [.ref a, c] ∧ ClsV c u ∧ (∃ dd, ExAt H C a dd ∧ ∀ x, dd = some x → ∃ ws, H x = some (.xd ws)) ∧ L2.ExcC K C ∧ PySem.W.kitOne K (.ref C) u = some b ∧ Q (.bl b) H
theorem callr_isiX : CallR X (.builtin "isinstance") (rIsiX X.K) := by
  intro p₀ s₀ σ₀ H₀ vs us Q₀ I₀ r h
  obtain ⟨a, C, c, u, b, rfl, hc, hx, ec, hk, q⟩ := h
  obtain ⟨u1, u2, eu2, r1, r2⟩ := vals2 r
  subst eu2
  cases r1
  have e2 := hc.eq r2
  subst e2
  obtain ⟨dd, ⟨φ, h1, h2⟩, hdd⟩ := hx
  obtain ⟨hφ, _, _⟩ := (show ObjOk X.prog X.w H₀ s₀.heap a (.ext φ) from I₀.hok a _ h1)
  obtain ⟨oe, ws, g1, g2, g3, g4⟩ := h2 _ hφ
  have J : ∃ od, PySem.W.InstAt s₀.heap a oe C od := by
    obtain ⟨ocl, od, oda, osl⟩ := oe
    dsimp only at g2 g3 g4
    subst g2 g3 g4
    cases od with
    | none => exact ⟨none, g1, rfl, rfl, trivial⟩
    | some x =>
      obtain ⟨ws, hx⟩ := hdd x rfl
      obtain ⟨mA, ⟨ob, _, _, hob, hrest⟩, _⟩ := (show ObjOk X.prog X.w H₀ s₀.heap x (.xd ws) from I₀.hok x _ hx)
      exact ⟨some ob, g1, rfl, rfl, hob⟩
  obtain ⟨od, J⟩ := J
  exact PySem.W.kia_one (exc_kit ec) I₀.kIn J hk (fun z => nomatch z) fun tk => ⟨.bl b, H₀, I₀.kept (t' := tk) fun _ _ z => z, rfl, q⟩
theorem orC {g : Value} {r r' : List V → Hp → VK → Prop} (h : CallR X g r) (h' : CallR X g r') : CallR X g (fun vs H Q => r vs H Q ∨ r' vs H Q) := by
  intro p₀ s₀ σ₀ H₀ vs us Q₀ I₀ rv q
  rcases q with q | q
  · exact h p₀ s₀ σ₀ H₀ vs us Q₀ I₀ rv q
  · exact h' p₀ s₀ σ₀ H₀ vs us Q₀ I₀ rv q
theorem callr_isi : CallR X (.builtin "isinstance") (fun vs H Q => rIsiX X.K vs H Q ∨ rIsi X.K vs H Q) := orC callr_isiX call_isi
theorem isiA_ok {sub : String → D → Option Bool} (hs : ∀ c t b C u, F.cl c = some C → clsU F t = some u → sub c t = some b → L2.ExcC F.K C ∧ PySem.W.kitOne F.K (.ref C) u = some b) (hu : ∀ c t b, sub c t = some b → ∃ u, clsU F t = some u) :
    CallOk F (fun vs H Q => rIsiX F.K vs H Q ∨ rIsi F.K vs H Q) (isiA sub) := fun ds M L H e σ W vs Q sr rv p => by
  unfold isiA at p
  split at p
  · rename_i c _ t
    obtain ⟨v, v', rfl, h1, h2⟩ := reps2 rv
    obtain ⟨a, C, dd, rfl, hC, hx, _, hdd⟩ := h1
    have hd0 : ∀ x, dd = some x → ∃ ws, H x = some (.xd ws) := fun x z => by
      subst z
      obtain ⟨ws, q1, _⟩ := hdd
      exact ⟨ws, q1⟩
    split at p
    · rename_i b hb
      obtain ⟨u, hu'⟩ := hu c t b hb
      obtain ⟨ec, hk⟩ := hs c t b C u hC hu' hb
      have hcv : ClsV v' u := by
        cases t with
        | ty S =>
          have z : v' = .ty S := h2
          cases Option.some.inj hu'
          rw [z]
          exact .ty S
        | cls c2 =>
          obtain ⟨C2, rfl, hC2⟩ := h2
          have z : (F.cl c2).map Value.ref = some u := hu'
          rw [hC2] at z
          cases Option.some.inj z
          exact .own C2
        | _ => cases hu'
      exact .inl ⟨a, C, v', u, b, rfl, hcv, ⟨dd, hx, hd0⟩, ec, hk, p.ok sr rfl⟩
    · exact False.elim p
  · exact .inr (isi_ok _ M L H e σ W vs Q sr rv p)
  · exact False.elim p
end
end DL
namespace DL
open PySem L2
/-- the values that a lambda may read: their slots, themselves -/
def capI : Nat → DL.Env → List Nat
  | _, [] => []
  | n, some _ :: e => n :: capI (n + 1) e
  | n, none :: e => capI (n + 1) e
def capD : DL.Env → List D
  | [] => []
  | some d :: e => d :: capD e
  | none :: e => capD e
section
variable {F : Fx} {L : List Addr} {H : Hp} {σ : L2.St}
theorem cap_of : ∀ (e : DL.Env) (n : Nat), (∀ (i : Nat) (d : D), e[i]? = some (some d) → ∃ v, σ[n + i]? = some (some v) ∧ Rep F L H d v) →
    ∃ vs, (∀ (j i : Nat), (capI n e)[j]? = some i → ∃ w, vs[j]? = some w ∧ σ[i]? = some (some w)) ∧ Reps F L H (capD e) vs
  | [], n, _ => ⟨[], fun j i h => by simp [capI] at h, rfl⟩
  | some d :: e, n, h => by
    obtain ⟨v, h1, h2⟩ := h 0 d rfl
    obtain ⟨vs, h3, h4⟩ := cap_of e (n + 1) fun i d' q => by
      obtain ⟨v', q1, q2⟩ := h (i + 1) d' (by simpa using q)
      exact ⟨v', by rw [show n + 1 + i = n + (i + 1) by omega]; exact q1, q2⟩
    refine ⟨v :: vs, fun j i q => ?_, v, vs, rfl, h2, h4⟩
    cases j with
    | zero =>
      have q' : n = i := by simpa [capI] using q
      rw [← q']
      exact ⟨v, rfl, h1⟩
    | succ j => exact h3 j i (by simpa [capI] using q)
  | none :: e, n, h => by
    obtain ⟨vs, h3, h4⟩ := cap_of e (n + 1) fun i d' q => by
      obtain ⟨v', q1, q2⟩ := h (i + 1) d' (by simpa using q)
      exact ⟨v', by rw [show n + 1 + i = n + (i + 1) by omega]; exact q1, q2⟩
    exact ⟨vs, h3, h4⟩
theorem cap_to : ∀ (e : DL.Env) (n : Nat) (vs : List V), (∀ (j i : Nat), (capI n e)[j]? = some i → ∃ w, vs[j]? = some w ∧ σ[i]? = some (some w)) → Reps F L H (capD e) vs →
    ∀ (i : Nat) (d : D), e[i]? = some (some d) → ∃ v, σ[n + i]? = some (some v) ∧ Rep F L H d v
  | [], _, _, _, _, i, d, h => by simp at h
  | some d' :: e, n, vs, h1, h2, i, d, h => by
    obtain ⟨v, r, rfl, h3, h4⟩ := h2
    cases i with
    | zero =>
      have q : d' = d := by simpa using h
      subst q
      obtain ⟨w, q1, q2⟩ := h1 0 n rfl
      have q3 : v = w := by simpa using q1
      subst q3
      exact ⟨v, q2, h3⟩
    | succ i =>
      obtain ⟨w, q1, q2⟩ := cap_to e (n + 1) r (fun j i' q => h1 (j + 1) i' (by simpa [capI] using q)) h4 i d (by simpa using h)
      exact ⟨w, by rw [show n + (i + 1) = n + 1 + i by omega]; exact q1, q2⟩
  | none :: e, n, vs, h1, h2, i, d, h => by
    cases i with
    | zero => simp at h
    | succ i =>
      obtain ⟨w, q1, q2⟩ := cap_to e (n + 1) vs h1 h2 i d (by simpa using h)
      exact ⟨w, by rw [show n + (i + 1) = n + 1 + i by omega]; exact q1, q2⟩
end
/-- what raises nothing -/
def valOnly : RE → RE
  | some (.val d, M) => some (.val d, M)
  | _ => none
open Classical in
/-- the call of what stands in slot i, where that is cl -/
noncomputable def callC (i : Nat) (cl : D) (cden : Store → RE) : DenE := fun e M => match e[i]? with
  | some (some d) => if d = cl then cden M else none
  | _ => none
section
variable {F : Fx} {X : Cx} {W : WX} {L L1 : List Addr} {H H1 : Hp} {M : Store} {e : DL.Env} {σ : L2.St} {k : Nat}
theorem stp_extn (m : SM F L H M) (eN : LamX.ExtN H H1) (T1 : LamX.Tabs F.T H1) : Stp L H L H1 ∧ SM F L H1 M := by
  have s : Stp L H L H1 := ⟨fun a o h _ n => eN a o h n, ⟨[], (List.append_nil L).symm, fun x hx => absurd hx (by simp)⟩, fun a o h n => ⟨o, eN a o h n, n⟩, fun a o u _ h => eN a _ h (fun ps z => nomatch z)⟩
  refine ⟨s, m.len, m.nd, fun n a ob h1 h2 => ?_, T1⟩
  exact ObR.stay m s (fun u hu q => eN a _ hu (fun ps z => by rw [z] at q; exact q)) ob (m.obs n a ob h1 h2)
abbrev ZCx (X : Cx) (Ng : List Str) (x : Str) (sg : Scope) (g : Addr) (cdg : Value) (s : Shared) (H : Hp) : Cx := cxOf (L2.CX X.prog X.w) X.prog X.w X.K X.mg X.base Ng x sg g cdg X.A X.stack s H E0
theorem qual_cx {cx : CXT} {P : Program} {w : World} {K : PySem.W.Frag} {mg : Str → Option Value} {base : Heap} {N : List Str} {q : Str} {sg : Scope} {g : Addr} {cd : Value} {A : Around} {outer : List PySem.Env} {s : Shared} {H : Hp} {E : XK} : (cxOf cx P w K mg base N q sg g cd A outer s H E).env.qual = q ++ ".<locals>." := rfl
end
end DL
namespace DL
open PySem L2
/-- what stands at the law's call: the script at a, empty tables of code -/
structure Ent (K : PySem.W.Frag) (mg : Str → Option Value) (s : Shared) (cs : List (Addr × Addr)) (a : Addr) (us : List Value) (ns : List Int) : Prop where
  kin : K.In s.heap
  glob : s.heap.Ns mainGlobals mg
  blt : ∃ mb, s.heap.Ns builtinsNs mb ∧ ∀ x : Str, x ≠ "__name__" → mb x = bootBuiltins x
  lim : s.heap.NoLimit
  gens : s.gens = #[]
  tab : ∀ p ∈ cs, s.heap.get? p.2 = some { cls := .none, data := .fields #[] }
  tabK : ∀ p ∈ cs, K.lookup p.2 = none
  code : ∀ p ∈ cs, PySem.W.CodeHd s.heap p.1 p.2
  bm : ∃ (m : Addr) (o : Obj), mg "__builtins__" = some (.ref m) ∧ m ≠ builtinsNs ∧ s.heap.get? m = some o ∧ o.cls = .type "module" ∧ o.dict = some builtinsNs ∧ o.data = .plain
  scr : s.heap.get? a = some { cls := .type "list", data := .seq us.toArray }
  isc : PyProof.Rows.IntsAre us ns
  len : ns.length ≤ sizeLine
section
variable {P : Program} {w : World} {F : Fx} {mg : Str → Option Value} {s : Shared} {cs : List (Addr × Addr)} {a : Addr} {us : List Value} {ns : List Int}
theorem Ent.tabAt (e : Ent F.K mg s cs a us ns) {b : Addr} (hb : b ∈ cs.map (·.2)) : s.heap.get? b = some { cls := .none, data := .fields #[] } := by
  obtain ⟨y, h1, h2⟩ := List.mem_map.mp hb
  rw [← h2]
  exact e.tab y h1
theorem Ent.out (e : Ent F.K mg s cs a us ns) : a ∉ cs.map (·.2) := fun hb => by
  have z := e.tabAt hb
  rw [e.scr] at z
  have z2 := congrArg Obj.data (Option.some.inj z)
  cases z2
/-- the abstract heap at the call -/
def entH (cs : List (Addr × Addr)) (u : Option (Addr × HO)) : Hp := fun b => match u with
  | some (a, o) => if b = a then some o else if b ∈ cs.map (·.2) then some (.tbl #[]) else none
  | none => if b ∈ cs.map (·.2) then some (.tbl #[]) else none
/-- what an abstract heap at the call is -/
structure EntH (e : Ent F.K mg s cs a us ns) (H : Hp) : Prop where
  tb : ∀ b ∈ cs.map (·.2), H b = some (.tbl #[])
  known : ∀ b o, H b = some o → (b ∈ cs.map (·.2) ∧ o = .tbl #[]) ∨ (b = a ∧ F.K.lookup a = none ∧ o = .frz { cls := .type "list", data := .seq us.toArray } (.lst (ns.map V.int)))
  rep : ∀ L, Rep F L H (.scr ns) (.ref a)
theorem ent_ok (e : Ent F.K mg s cs a us ns) {H : Hp} (h : EntH e H) : HOk P w H s.heap := fun b o q => by
  rcases h.known b o q with ⟨h1, rfl⟩ | ⟨rfl, _, rfl⟩
  · exact e.tabAt h1
  · refine ⟨e.scr, ?_, us, _, vals_ints e.isc, e.scr⟩
    rw [List.length_map]
    exact e.len
theorem ent_plain (e : Ent F.K mg s cs a us ns) {H : Hp} (h : EntH e H) {b : Addr} {ob : Obj} (hb : s.heap.get? b = some ob) (n1 : ∀ z n, ob.data ≠ .seq z n) (n2 : ob.data ≠ .fields #[]) : H b = none := by
  cases q : H b with
  | none => rfl
  | some o =>
    exfalso
    rcases h.known b o q with ⟨h1, _⟩ | ⟨rfl, _⟩
    · rw [e.tabAt h1] at hb
      cases hb
      exact n2 rfl
    · rw [e.scr] at hb
      cases hb
      exact n1 _ _ rfl
theorem ent_ns (e : Ent F.K mg s cs a us ns) {H : Hp} (h : EntH e H) {b : Addr} {m : Str → Option Value} (hb : s.heap.Ns b m) : (hidT s.heap H).Ns b m := by
  obtain ⟨ob, es, ep, h1, h2, h3⟩ := hb
  refine ⟨ob, es, ep, hidT_get h1 (ent_plain e h h1 (fun z n q => ?_) fun q => ?_), h2, h3⟩
  · rw [h2] at q
    cases q
  · rw [h2] at q
    cases q
theorem ent_k (e : Ent F.K mg s cs a us ns) {H : Hp} (h : EntH e H) : F.K.In (hidT s.heap H) := fun b ob q => by
  refine hidT_get (e.kin b ob q) ?_
  cases z : H b with
  | none => rfl
  | some o =>
    exfalso
    rcases h.known b o z with ⟨h1, _⟩ | ⟨rfl, h1, _⟩
    · obtain ⟨y, y1, y2⟩ := List.mem_map.mp h1
      rw [← y2, e.tabK y y1] at q
      cases q
    · rw [h1] at q
      cases q
theorem ent_tb (e : Ent F.K mg s cs a us ns) {H : Hp} (h : EntH e H) : ∀ p ∈ cs, LamX.TabB (hidT s.heap H) mg p.1 p.2 := fun p hp => by
  have htp := e.tab p hp
  obtain ⟨og, esg, epg, hg1, hg2, _⟩ := id e.glob
  refine ⟨?_, ?_, fun z => ?_⟩
  · obtain ⟨o, vs, file, tf, flags, tg, inF, text, tt, c1, c2, c3, c4⟩ := e.code p hp
    refine ⟨o, vs, file, tf, flags, tg, inF, text, tt, hidT_get c1 (ent_plain e h c1 (fun z n q => ?_) fun q => ?_), c2, c3, c4⟩
    · rw [c3] at q
      cases q
    · rw [c3] at q
      cases q
      have z := c4.1
      simp at z
  · obtain ⟨m, o, b1, b2, b3, b4, b5, b6⟩ := e.bm
    refine ⟨m, o, b1, b2, fun q => ?_, fun q => ?_, hidT_get b3 (ent_plain e h b3 (fun z n q => ?_) fun q => ?_), b4, b5, b6⟩
    · rw [q, hg1] at b3
      cases b3
      rw [hg2] at b6
      cases b6
    · rw [q, htp] at b3
      cases b3
      cases b6
    · rw [b6] at q
      cases q
    · rw [b6] at q
      cases q
  · rw [z, htp] at hg1
    cases hg1
    cases hg2
/-- the abstract heap at the call is there -/
theorem ent_ex (e : Ent F.K mg s cs a us ns) : ∃ H, EntH e H := by
  have rv := vals_ints e.isc
  cases hk : F.K.lookup a with
  | some o =>
    have z := e.kin a o hk
    rw [e.scr] at z
    cases z
    refine ⟨entH cs none, fun b hb => if_pos hb, fun b o q => ?_, fun L => ⟨a, rfl, .inr ⟨_, us.toArray, _, hk, rfl, rfl, rfl, ?_, rv⟩⟩⟩
    · rcases Classical.em (b ∈ cs.map (·.2)) with hb | hb
      · exact .inl ⟨hb, (Option.some.inj ((if_pos hb).symm.trans q)).symm⟩
      · have z := (if_neg hb).symm.trans q
        cases z
    · rw [List.size_toArray, ← rv.length, List.length_map]
      exact e.len
  | none =>
    refine ⟨entH cs (some (a, .frz { cls := .type "list", data := .seq us.toArray } (.lst (ns.map V.int)))), fun b hb => ?_, fun b o q => ?_, fun L => ⟨a, rfl, .inl ⟨_, if_pos rfl⟩⟩⟩
    · refine (if_neg (fun z => ?_)).trans (if_pos hb)
      rw [z] at hb
      exact e.out hb
    · by_cases hb : b = a
      · subst hb
        exact .inr ⟨rfl, hk, (Option.some.inj ((if_pos rfl).symm.trans q)).symm⟩
      · have z := (if_neg hb).symm.trans q
        rcases Classical.em (b ∈ cs.map (·.2)) with hb2 | hb2
        · exact .inl ⟨hb2, (Option.some.inj ((if_pos hb2).symm.trans z)).symm⟩
        · have z2 := (if_neg hb2).symm.trans z
          cases z2
/-- THE CALL: the law's promise gives its end -/
theorem ent_call {k : Nat} {fa : Addr} {fd : FuncData} {x : Str} {den : DenF} (e : Ent F.K mg s cs a us ns) (hr : Room k callerA) (hT : ∀ y ∈ F.T, y.1 ∈ cs.map (·.2)) (hb : ∀ (s : Shared) (u : Value), BindsTo s fd ⟨[u], []⟩ [(x, u)])
    (hF : ∀ base : Heap, F.K.In base → base.Ns mainGlobals mg → (∀ p ∈ cs, LamX.TabB base mg p.1 p.2) → FnD P w F mg base k fa fd [x] den) (hden : ∃ M, den [.scr ns] [] = some (.val (.bl true), M)) :
    codeAny (model P w) callerA (.call (.ref fa) ⟨[.ref a], []⟩) (fun r s' => r = .ok (.ret (.bool true)) ∧ OldK s.heap s'.heap ∧ s'.os = s.os ∧ PyProof.Rows.AllBare s'.gens) s := by
  obtain ⟨H, h⟩ := ent_ex e
  obtain ⟨M, hM⟩ := hden
  obtain ⟨mb, hb1, hb2⟩ := e.blt
  obtain ⟨ml, hl1, hl2⟩ := id e.lim
  have md : L2.Mod F.K mg (hidT s.heap H) := ⟨ent_k e h, ent_ns e h e.glob, ⟨mb, ent_ns e h hb1, hb2⟩, ⟨ml, ent_ns e h hl1, hl2⟩⟩
  have e0 : Env0 P w F.K mg (hidT s.heap H) callerA [] s H := by
    refine ⟨rfl, md, fun b o z => of_hidT z, Nat.le_of_eq (hidT_size _ _), trivial, fun b z => ?_, ent_ok e h, .of_eq e.gens⟩
    exact absurd (show b ∈ ([] : List Addr) from z) (by simp)
  have sp : spD F den [.ref a] H (fun v _ => v = .bl true) fun _ _ _ => False := by
    refine ⟨[], [], [.scr ns], ⟨rfl, List.nodup_nil, fun n b o z => by simp at z, fun y hy => LamX.TabS.nil (h.tb _ (hT y hy))⟩, ⟨.ref a, [], rfl, h.rep [], rfl⟩, ?_⟩
    rw [hM]
    exact fun L' H' v _ _ rv => rv
  refine codeAny_mono ((hF _ (ent_k e h) (ent_ns e h e.glob) (ent_tb e h)).run callerA [] s H ⟨[.ref a], []⟩ [.ref a] [.ref a] _ _ hr rfl e0 (hb s (.ref a)) (.cons rfl .nil) rfl sp) fun r s' q => ?_
  cases r with
  | error y =>
    obtain ⟨_, _, _, _, _, _, _, _, _, _, _, _, z⟩ := q
    exact z.elim
  | ok fl =>
    cases fl with
    | next => exact (show False from q).elim
    | brk => exact (show False from q).elim
    | cont => exact (show False from q).elim
    | ret u =>
      obtain ⟨v, H', ho, hba, un, hok', rv, hv⟩ := q
      have hv' : v = .bl true := hv
      subst hv'
      obtain rfl : u = Value.bool true := rv
      have same : ∀ b o, b ∉ cs.map (·.2) → s.heap.get? b = some o → s'.heap.get? b = some o := fun b o nb z => by
        cases q2 : H b with
        | none => exact un.keep b o z q2 (by intro y; exact absurd (show b ∈ ([] : List Addr) from y) (by simp)) (by simp)
        | some u2 =>
          rcases h.known b u2 q2 with ⟨h1, _⟩ | ⟨rfl, _, rfl⟩
          · exact absurd h1 nb
          · rw [e.scr] at z
            cases z
            exact (hok' _ _ (un.frzs _ _ _ q2)).1
      have more : ∀ b ∈ cs.map (·.2), ∃ m : Array Value, s'.heap.get? b = some { cls := .none, data := .fields m } := fun b hb => by
        obtain ⟨m, z⟩ := un.tbls b #[] (h.tb b hb)
        exact ⟨_, hok' b _ z⟩
      refine ⟨rfl, ⟨fun b o z => ?_, fun b o z => ?_⟩, ho, hba⟩
      · by_cases hb3 : b ∈ cs.map (·.2)
        · obtain ⟨m, hm⟩ := more b hb3
          obtain ⟨y, y1, y2⟩ := List.mem_map.mp hb3
          subst y2
          rw [e.tab y y1] at z
          cases z
          exact .inr (.inl ⟨((e.code y y1).tab (e.tab y y1)).isCodeTable, rfl, #[], m, rfl, by rw [Array.empty_append]; exact hm⟩)
        · exact .inl (same b o hb3 z)
      · by_cases hb3 : b ∈ cs.map (·.2)
        · obtain ⟨m, hm⟩ := more b hb3
          exact ⟨_, hm⟩
        · exact ⟨o, same b o hb3 z⟩
end
end DL
namespace DL
open PySem L2
section
variable {F : Fx} {X : Cx} {W : WX} {k : Nat}
abbrev DenO := DL.Env → Store → RD (Option Int)
def noneO : DenO := fun _ M => ok none M
def someO (da : DenE) : DenO := fun e M => bindE (da e M) fun d M1 => match d with
  | .int i => ok (some i) M1
  | _ => none
theorem do_no : DO F X W none noneO := do_none
theorem do_so {x : Expr} {da : DenE} (ha : DE F X W x da) : DO F X W (some x) (someO da) := do_some ha
def slD (da : DenE) (dl dh dt : DenO) : DenE := fun e M => bindE (da e M) fun d M1 => bindE (dl e M1) fun l M2 => bindE (dh e M2) fun h M3 => bindE (dt e M3) fun t M4 => slcF d l h t M4
theorem de_sl {x : Expr} {lo hi st : Option Expr} {da : DenE} {dl dh dt : DenO} {pos p2 : Pos} (ha : DE F X W x da) (hl : DO F X W lo dl) (hh : DO F X W hi dh) (ht : DO F X W st dt) (hK : X.K = F.K := by rfl) : DE F X W (.Subscript x (.Slice lo hi st p2) pos) (slD da dl dh dt) := de_slice3 ha hl hh ht hK
def tstD (da : DenE) : DenE := fun e M => bindE (da e M) asT
theorem dt_v {x : Expr} {da : DenE} (ha : DE F X W x da) (hK : X.K = F.K := by rfl) (he : ∀ whole, isTrue x X.env whole = (do let v ← whole; standAt x.pos; holding [v] (truthy v)) := by intro _; rfl) : DT F X W x (tstD da) := dt_val hK ha he
def empD : DenE := fun _ M => ok .emp M
theorem de_emp {pos : Pos} : DE F X W (.Dict [] [] pos) empD := by
  refine ⟨_, pe_dnewK, fun e M L σ H Q sr p => fun p' hp => ?_⟩
  have s : Stp L H L (upd H p' (.dK [])) := Stp.alloc hp
  exact p L _ (.ref p') s (sr.stay s (sr.m.alloc hp)) ⟨p', rfl, upd_same, fresh_out sr.m hp⟩
def lamD (gden : (Store → RE) → Store → RE) (db : DenE) : DenE := fun e M => valOnly (gden (fun M' => db e M') M)
def wlS (fuel : DL.Env → Store → Nat) (dt : DenE) (db : DenS) : DenS := fun e M => whileS dt db (fuel e M) e M
theorem ds_wl {c : Expr} {body : List Stmt} {dt : DenE} {db : DenS} {pos : Pos} (fuel : DL.Env → Store → Nat) (d : Dc X W k) (hc : DT F X W c dt) (hb : DSs F X W body db) : DS F X W (.While c body [] pos) (wlS fuel dt db) := ds_while fuel d hc hb
theorem FnD.stuck {P : Program} {w : World} {mg : Str → Option Value} {base : Heap} {f : Addr} {fd : FuncData} {ps : List Str} : FnD P w F mg base k f fd ps (fun _ _ => none) :=
  ⟨fun A outer s H args us vs Q E hr hg e0 hb hv hl sp => by
    obtain ⟨L, M, ds, _, _, p⟩ := sp
    exact False.elim p⟩
end
end DL
namespace DL
open PySem L2 PyProof.Rows
/-- what is known at the head's heap of the law's def at fa -/
def DEnd (P : Program) (w : World) (K : PySem.W.Frag) (q : Program) (k n : Nat) (x : Str) (mg : Str → Option Value) (fa : Addr) : Prop :=
  ∃ (F : Fx) (fd : FuncData) (xs : List (Str × Addr × Addr)) (den : DenF), F.K = K ∧
    (∀ y ∈ xs, (∃ d, (recsOf q).find? (fun e => e.name == y.1) = some d) ∧ PySem.W.tabIn K y.1 = some y.2 ∧ K.lookup y.2.2 = none) ∧
    (∀ y ∈ F.T, y.1 ∈ (xs.map (·.2)).map (·.2)) ∧ (∀ (s : Shared) (u : Value), BindsTo s fd ⟨[u], []⟩ [(x, u)]) ∧
    (∀ base : Heap, F.K.In base → base.Ns mainGlobals mg → (∀ p ∈ xs.map (·.2), LamX.TabB base mg p.1 p.2) → FnD P w F mg base k fa fd [x] den) ∧
    ∀ ns : List Int, ns.length ≤ n → (∀ z ∈ ns, Builtin.Int.intBits z ≤ 1048576) → ∃ M, den [.scr ns] [] = some (.val (.bl true), M)
end DL
namespace DL
open PySem L2
mutual
/-- no list's number from n on -/
def nlD (n : Nat) : D → Bool
  | .loc k => decide (k < n)
  | .tup ds => nlDs n ds
  | .lst ds => nlDs n ds
  | .exc _ fs => nlF n fs
  | .clo _ _ _ _ _ ds => nlDs n ds
  | _ => true
def nlDs (n : Nat) : List D → Bool
  | [] => true
  | d :: ds => nlD n d && nlDs n ds
def nlF (n : Nat) : List (Str × D) → Bool
  | [] => true
  | (_, d) :: fs => nlD n d && nlF n fs
end
def nlOb (n : Nat) : Ob → Bool
  | .lst ds => nlDs n ds
  | .dk _ kvs => nlDs n (kvs.map (·.2))
  | .dt _ kvs => nlDs n (kvs.map (·.2))
section
variable {F : Fx} {L N : List Addr} {H : Hp}
mutual
theorem Rep.cut : ∀ (d : D) (v : V), nlD L.length d = true → Rep F (L ++ N) H d v → Rep F L H d v
  | .non, _, _, h => h
  | .bl _, _, _, h => h
  | .int _, _, _, h => h
  | .str _, _, _, h => h
  | .ty _, _, _, h => h
  | .cls _, _, _, h => h
  | .ktp _, _, _, h => h
  | .scr _, _, _, h => h
  | .emp, _, _, ⟨a, e, h, n⟩ => ⟨a, e, h, fun z => n (List.mem_append_left _ z)⟩
  | .tup ds, _, q, ⟨a, vs, e, h, r⟩ => ⟨a, vs, e, h, Reps.cut ds vs q r⟩
  | .lst ds, _, q, ⟨a, vs, e, ⟨h, n⟩, r⟩ => ⟨a, vs, e, ⟨h, fun z => n (List.mem_append_left _ z)⟩, Reps.cut ds vs q r⟩
  | .loc k, _, q, ⟨a, e, h⟩ => ⟨a, e, by
    have lt : k < L.length := of_decide_eq_true q
    rwa [List.getElem?_append_left lt] at h⟩
  | .clo f c q σd is ds, _, z, ⟨h1, vs, h2, h3⟩ => ⟨h1, vs, h2, Reps.cut ds vs z h3⟩
  | .exc c fs, _, q, ⟨a, C, dd, e, h1, h2, h3, h4⟩ => by
    refine ⟨a, C, dd, e, h1, h2, fun z => h3 (List.mem_append_left _ z), ?_⟩
    cases dd with
    | none => exact h4
    | some x =>
      obtain ⟨ws, k1, k2, k3⟩ := h4
      exact ⟨ws, k1, fun z => k2 (List.mem_append_left _ z), RepF.cut fs ws q k3⟩
theorem Reps.cut : ∀ (ds : List D) (vs : List V), nlDs L.length ds = true → Reps F (L ++ N) H ds vs → Reps F L H ds vs
  | [], _, _, h => h
  | d :: ds, _, q, ⟨v, r, e, h1, h2⟩ => by
    have q' : (nlD L.length d && nlDs L.length ds) = true := q
    rw [Bool.and_eq_true] at q'
    exact ⟨v, r, e, Rep.cut d v q'.1 h1, Reps.cut ds r q'.2 h2⟩
theorem RepF.cut : ∀ (fs : List (Str × D)) (ws : List (Str × V)), nlF L.length fs = true → RepF F (L ++ N) H fs ws → RepF F L H fs ws
  | [], _, _, h => h
  | (f, d) :: fs, _, q, ⟨v, r, e, h1, h2⟩ => by
    have q' : (nlD L.length d && nlF L.length fs) = true := q
    rw [Bool.and_eq_true] at q'
    exact ⟨v, r, e, Rep.cut d v q'.1 h1, RepF.cut fs r q'.2 h2⟩
end
mutual
theorem Rep.nl : ∀ (d : D) (v : V), Rep F L H d v → nlD L.length d = true
  | .non, _, _ => rfl
  | .bl _, _, _ => rfl
  | .int _, _, _ => rfl
  | .str _, _, _ => rfl
  | .ty _, _, _ => rfl
  | .cls _, _, _ => rfl
  | .ktp _, _, _ => rfl
  | .scr _, _, _ => rfl
  | .emp, _, _ => rfl
  | .tup ds, _, ⟨_, vs, _, _, r⟩ => Reps.nl ds vs r
  | .lst ds, _, ⟨_, vs, _, _, r⟩ => Reps.nl ds vs r
  | .loc k, _, ⟨a, _, h⟩ => decide_eq_true (by
    rcases Nat.lt_or_ge k L.length with z | z
    · exact z
    · rw [List.getElem?_eq_none z] at h
      cases h)
  | .clo f c q σd is ds, _, ⟨_, vs, _, h⟩ => Reps.nl ds vs h
  | .exc c fs, _, ⟨_, _, dd, _, _, _, _, h4⟩ => by
    cases dd with
    | none =>
      have e : fs = [] := h4
      rw [e]
      rfl
    | some x =>
      obtain ⟨ws, _, _, k3⟩ := h4
      exact RepF.nl fs ws k3
theorem Reps.nl : ∀ (ds : List D) (vs : List V), Reps F L H ds vs → nlDs L.length ds = true
  | [], _, _ => rfl
  | d :: ds, _, ⟨v, r, _, h1, h2⟩ => by
    show (nlD L.length d && nlDs L.length ds) = true
    rw [Rep.nl d v h1, Reps.nl ds r h2]
    rfl
theorem RepF.nl : ∀ (fs : List (Str × D)) (ws : List (Str × V)), RepF F L H fs ws → nlF L.length fs = true
  | [], _, _ => rfl
  | (f, d) :: fs, _, ⟨v, r, _, h1, h2⟩ => by
    show (nlD L.length d && nlF L.length fs) = true
    rw [Rep.nl d v h1, RepF.nl fs r h2]
    rfl
end
theorem RepP.cut {κ : Type} : ∀ (kvs : List (κ × D)) (vs : List (κ × V)), nlDs L.length (kvs.map (·.2)) = true → RepP F (L ++ N) H kvs vs → RepP F L H kvs vs
  | [], _, _, h => h
  | (k, d) :: kvs, _, q, ⟨v, r, e, h1, h2⟩ => by
    have q' : (nlD L.length d && nlDs L.length (kvs.map (·.2))) = true := q
    rw [Bool.and_eq_true] at q'
    exact ⟨v, r, e, Rep.cut d v q'.1 h1, RepP.cut kvs r q'.2 h2⟩
theorem RepP.nl {κ : Type} : ∀ (kvs : List (κ × D)) (vs : List (κ × V)), RepP F L H kvs vs → nlDs L.length (kvs.map (·.2)) = true
  | [], _, _ => rfl
  | (k, d) :: kvs, _, ⟨v, r, _, h1, h2⟩ => by
    show (nlD L.length d && nlDs L.length (kvs.map (·.2))) = true
    rw [Rep.nl d v h1, RepP.nl kvs r h2]
    rfl
/-- behind the call the first lists are as before, or know none of the later ones -/
def CutOk (M M' : Store) : Prop := M.length ≤ M'.length ∧ ∀ (n : Nat) (ob : Ob), n < M.length → M'[n]? = some ob → M[n]? = some ob ∨ nlOb M.length ob = true
/-- a told value: none of the later lists, or one of these, as it is now -/
def cutD (n : Nat) (M' : Store) : D → Option D
  | .loc k => if k < n then some (.loc k) else match M'[k]? with
    | some (.lst ds) => if nlDs n ds = true then some (.lst ds) else none
    | _ => none
  | d => if nlD n d = true then some d else none
open Classical in
noncomputable def cutR (M : Store) : RE → RE
  | some (.val d, M') => if CutOk M M' then (match cutD M.length M' d with
    | some d' => some (.val d', M'.take M.length)
    | _ => none) else none
  | some (.exc c fs, M') => if CutOk M M' ∧ nlF M.length fs = true then some (.exc c fs, M'.take M.length) else none
  | _ => none
noncomputable def cutF (den : DenF) : DenF := fun ds M => cutR M (den ds M)
theorem SM.cut {M M' : Store} {L0 : List Addr} {H0 : Hp} (m0 : SM F L H0 M) (m : SM F (L ++ N) H M') (c : CutOk M M') : SM F L H (M'.take M.length) := by
  have hl := m0.len
  refine ⟨?_, (List.nodup_append.mp m.nd).1, fun n a ob h1 h2 => ?_, m.tbs⟩
  · rw [List.length_take, hl]
    exact (Nat.min_eq_left c.1).symm
  · have lt : n < L.length := by
      rcases Nat.lt_or_ge n L.length with z | z
      · exact z
      · rw [List.getElem?_eq_none z] at h1
        cases h1
    have h1' : (L ++ N)[n]? = some a := by rw [List.getElem?_append_left lt]; exact h1
    have h2' : M'[n]? = some ob := by
      rw [List.getElem?_take] at h2
      split at h2
      · exact h2
      · cases h2
    have r := m.obs n a ob h1' h2'
    have q : nlOb L.length ob = true := by
      rcases c.2 n ob (by rw [← hl]; exact lt) h2' with z | z
      · have r0 := m0.obs n a ob h1 z
        cases ob with
        | lst ds =>
          obtain ⟨vs, _, k⟩ := r0
          exact Reps.nl ds vs k
        | dk l ds =>
          obtain ⟨vs, _, k⟩ := r0
          exact RepP.nl ds vs k
        | dt l ds =>
          obtain ⟨vs, _, k⟩ := r0
          exact RepP.nl ds vs k
      · rw [hl]
        exact z
    cases ob with
    | lst ds =>
      obtain ⟨vs, k1, k2⟩ := r
      exact ⟨vs, k1, Reps.cut ds vs q k2⟩
    | dk l ds =>
      obtain ⟨vs, k1, k2⟩ := r
      exact ⟨vs, k1, RepP.cut ds vs q k2⟩
    | dt l ds =>
      obtain ⟨vs, k1, k2⟩ := r
      exact ⟨vs, k1, RepP.cut ds vs q k2⟩
theorem Rep.cutD {M M' : Store} {d d' : D} {v : V} (hl : L.length = M.length) (m : SM F (L ++ N) H M') (h : cutD M.length M' d = some d') (r : Rep F (L ++ N) H d v) : Rep F L H d' v := by
  have gen : (if nlD M.length d = true then some d else none) = some d' → Rep F L H d' v := fun h => by
    split at h
    · rename_i q
      cases h
      rw [← hl] at q
      exact Rep.cut d v q r
    · cases h
  cases d with
  | loc k =>
    unfold DL.cutD at h
    simp only at h
    split at h
    · rename_i lt
      cases h
      obtain ⟨a, e, z⟩ := r
      rw [← hl] at lt
      rw [List.getElem?_append_left lt] at z
      exact ⟨a, e, z⟩
    · rename_i ge
      split at h
      · rename_i ds hm
        split at h
        · rename_i q
          cases h
          obtain ⟨a, e, z⟩ := r
          obtain ⟨vs, k1, k2⟩ := m.obs k a _ z hm
          rw [← hl] at q ge
          refine ⟨a, vs, e, ⟨k1, fun ha => ?_⟩, Reps.cut ds vs q k2⟩
          rw [List.getElem?_append_right (by omega)] at z
          exact (List.nodup_append.mp m.nd).2.2 a ha a (List.mem_of_getElem? z) rfl
        · cases h
      · cases h
  | non => exact gen h
  | bl b => exact gen h
  | int i => exact gen h
  | str x => exact gen h
  | tup es => exact gen h
  | lst es => exact gen h
  | scr ns => exact gen h
  | emp => exact gen h
  | exc c fs => exact gen h
  | ty n => exact gen h
  | cls n => exact gen h
  | clo f c q σd is ds => exact gen h
  | ktp ns => exact gen h
theorem ExR.cut {c : String} {fs : List (Str × D)} {cls : Value} {dd : Option Addr} (q : nlF L.length fs = true) (h : ExR F (L ++ N) H c fs cls dd) : ExR F L H c fs cls dd := by
  obtain ⟨C, h1, h2, h3⟩ := h
  refine ⟨C, h1, h2, ?_⟩
  cases dd with
  | none => exact h3
  | some x =>
    obtain ⟨ws, k1, k2, k3⟩ := h3
    exact ⟨ws, k1, fun z => k2 (List.mem_append_left _ z), RepF.cut fs ws q k3⟩
theorem Stp.cut {L1 : List Addr} {H1 : Hp} (s : Stp L H L1 H1) : Stp L H L H1 := ⟨s.ext, ⟨[], (List.append_nil L).symm, fun x hx => absurd hx (by simp)⟩, s.dom, s.frz⟩
theorem FnD.cut {P : Program} {w : World} {mg : Str → Option Value} {base : Heap} {k : Nat} {f : Addr} {fd : FuncData} {ps : List Str} {den : DenF} (h : FnD P w F mg base k f fd ps den) : FnD P w F mg base k f fd ps (cutF den) := by
  refine ⟨fun A outer s H args us vs Q E hr hg e0 hb hv hl sp => h.run A outer s H args us vs Q E hr hg e0 hb hv hl ?_⟩
  obtain ⟨L, M, ds, m, r, p⟩ := sp
  refine ⟨L, M, ds, m, r, ?_⟩
  unfold cutF cutR at p
  cases hd : den ds M with
  | none => rw [hd] at p; exact p
  | some y =>
    rw [hd] at p
    obtain ⟨o, M'⟩ := y
    cases o with
    | val d =>
      intro L' H' v s1 m1 rv
      obtain ⟨N, e, _⟩ := s1.new
      subst e
      simp only at p
      split at p
      · rename_i c
        split at p
        · rename_i d' hd'
          exact p L H' v s1.cut (SM.cut (L0 := L) m m1 c) (Rep.cutD m.len m1 hd' rv)
        · exact False.elim p
      · exact False.elim p
    | exc c fs =>
      intro L' H' cls dd s1 m1 rx
      obtain ⟨N, e, _⟩ := s1.new
      subst e
      simp only at p
      split at p
      · rename_i c
        exact p L H' cls dd s1.cut (SM.cut (L0 := L) m m1 c.1) (ExR.cut (by rw [m.len]; exact c.2) rx)
      · exact False.elim p
end
theorem cutOk_app {M M1 X : Store} (hl : M1.length = M.length) (h : ∀ (n : Nat) (ob : Ob), n < M.length → M1[n]? = some ob → M[n]? = some ob ∨ nlOb M.length ob = true) : CutOk M (M1 ++ X) := by
  refine ⟨by rw [List.length_append]; omega, fun n ob lt e => ?_⟩
  rw [List.getElem?_append_left (by omega)] at e
  exact h n ob lt e
theorem cut_val {den : DenF} {ds : List D} {d d' : D} {M X : Store} (h : den ds M = ok d (M ++ X)) (hd : cutD M.length (M ++ X) d = some d') : cutF den ds M = ok d' M := by
  unfold cutF
  rw [h]
  show cutR M (some (.val d, M ++ X)) = _
  unfold cutR
  simp only
  rw [if_pos (cutOk_app rfl fun n ob _ e => .inl e), hd]
  show some (Out.val d', (M ++ X).take M.length) = _
  rw [List.take_left']
  · rfl
  · rfl
theorem cut_exc {den : DenF} {ds : List D} {c : String} {fs : List (Str × D)} {M X : Store} (h : den ds M = some (.exc c fs, M ++ X)) (hf : nlF M.length fs = true) : cutF den ds M = some (.exc c fs, M) := by
  unfold cutF
  rw [h]
  unfold cutR
  simp only
  rw [if_pos ⟨cutOk_app rfl fun n ob _ e => .inl e, hf⟩, List.take_left']
  rfl
/-- the first lists changed, too -/
theorem cut_val2 {den : DenF} {ds : List D} {d d' : D} {M M1 X : Store} (h : den ds M = ok d (M1 ++ X)) (hl : M1.length = M.length) (hc : ∀ (n : Nat) (ob : Ob), n < M.length → M1[n]? = some ob → M[n]? = some ob ∨ nlOb M.length ob = true) (hd : cutD M.length (M1 ++ X) d = some d') : cutF den ds M = ok d' M1 := by
  unfold cutF
  rw [h]
  show cutR M (some (.val d, M1 ++ X)) = _
  unfold cutR
  simp only
  rw [if_pos (cutOk_app hl hc), hd]
  show some (Out.val d', (M1 ++ X).take M.length) = _
  rw [List.take_left']
  · rfl
  · exact hl
end DL
namespace DL
open PySem L2
section
variable {F : Fx} {X : Cx} {W : WX} {L L1 : List Addr} {H H1 : Hp} {M : Store} {e : DL.Env} {σ : L2.St} {T : Ends} {k : Nat}
/-- a tuple or a list -/
def iSq (K : PySem.W.Frag) (tl : TE) : TI := fun σ H R => tl σ H fun x H1 => ∃ a, x = .ref a ∧ (((∃ xs, SqL K H1 a xs) ∧ R (Itl K a) H1) ∨ ((∃ xs, SqT K H1 a xs) ∧ R (Itt K a) H1))
theorem pi_sq {tg l : Expr} {tl : TE} (hl : PE X l tl) : PI X tg l (iSq X.K tl) := by
  refine ⟨fun pns s σ H R I h => ?_⟩
  refine thn (hl.run pns s σ H _ I h) fun v s1 hh => ?_
  obtain ⟨x, H2, I1, r1, a, ex, q⟩ := hh
  subst ex
  cases r1
  rcases q with ⟨⟨xs, hq⟩, q⟩ | ⟨⟨xs, hq⟩, q⟩
  · obtain ⟨its, rv, p, hz⟩ := I1.list hq
    apply wpAny_pyIter_list p.isList
    refine ⟨s1.heap.objs.size, [s1.heap.objs.size], _, _, H2, rfl, I1.kept (t' := s1.toks) fun b o z => Heap.get?_push_of_some _ z, turn_list a _, ⟨_, Heap.get?_push_size _ rfl, rfl, rfl⟩, fun b hb => ?_, q⟩
    obtain rfl : b = s1.heap.objs.size := by simpa using hb
    exact I1.fpOk Nat.le.refl (I1.hok.fresh Nat.le.refl)
  · obtain ⟨its, rv, p, hz⟩ := I1.tuple hq
    have pt : s1.heap.IsTuple a its.toArray := p
    apply wpAny_pyIter_tuple pt
    refine ⟨s1.heap.objs.size, [s1.heap.objs.size], _, _, H2, rfl, I1.kept (t' := s1.toks) fun b o z => Heap.get?_push_of_some _ z, turn_tuple a _, ⟨_, Heap.get?_push_size _ rfl, rfl, rfl⟩, fun b hb => ?_, q⟩
    obtain rfl : b = s1.heap.objs.size := by simpa using hb
    exact I1.fpOk Nat.le.refl (I1.hok.fresh Nat.le.refl)
/-- the iterator J goes through ds, as long as the store is as chk asks -/
structure Walk (F : Fx) (L1 : List Addr) (H1 : Hp) (J : It) (ds : List D) (chk : Store → Prop) : Prop where
  stop : ∀ (L' : List Addr) (H' : Hp) (M' : Store), Stp L1 H1 L' H' → SM F L' H' M' → chk M' → J.stop ds.length H'
  step : ∀ (i : Nat) (d : D), ds[i]? = some d → ∀ (L' : List Addr) (H' : Hp) (M' : Store), Stp L1 H1 L' H' → SM F L' H' M' → chk M' → J.go i H' ∧ ∀ (x : V) (H'' : Hp), J.yld i H' x H'' → Stp L' H' L' H'' ∧ SM F L' H'' M' ∧ Rep F L' H'' d x
abbrev DItems := List D × (Store → Prop)
abbrev DenI := DL.Env → Store → RD DItems
def DI (F : Fx) (X : Cx) (W : WX) (tg it : Expr) (den : DenI) : Prop :=
  ∃ wi, PI X tg it wi ∧ ∀ (e : DL.Env) (M : Store) (L : List Addr) (σ : L2.St) (H : Hp) (R : It → Hp → Prop), SR F L H M e σ → PostG F (fun L' H' (p : DItems) (J : It) => Walk F L' H' J p.1 p.2) e L H σ W R (den e M) → wi σ H R
/-- the items of what is gone through -/
def itemsF (d : D) (M : Store) : RD DItems := match d with
  | .tup ds => ok (ds, fun _ => True) M
  | .lst ds => ok (ds, fun _ => True) M
  | .scr ns => ok (ns.map D.int, fun _ => True) M
  | .ktp ns => ok (ns.map D.int, fun _ => True) M
  | .loc n => match M[n]? with
    | some (.lst ds) => ok (ds, fun M' => M'[n]? = some (.lst ds)) M
    | _ => none
  | _ => none
def itD (da : DenE) : DenI := fun e M => bindE (da e M) itemsF
theorem walk_at {a : Addr} {vs : List V} {ds : List D} {chk : Store → Prop} (m : SM F L H M) (r : Reps F L H ds vs) (h : ∀ (L' : List Addr) (H' : Hp) (M' : Store), Stp L H L' H' → SM F L' H' M' → chk M' → ∃ ws, SqL F.K H' a ws ∧ Reps F L' H' ds ws) : Walk F L H (Itl F.K a) ds chk := by
  refine ⟨fun L' H' M' s m' c => ?_, fun i d hd L' H' M' s m' c => ?_⟩
  · obtain ⟨ws, q, rr⟩ := h L' H' M' s m' c
    exact ⟨ws, q, Nat.le_of_eq (reps_len rr).symm⟩
  · obtain ⟨ws, q, rr⟩ := h L' H' M' s m' c
    obtain ⟨y, h1, h2⟩ := reps_get rr hd
    refine ⟨⟨ws, y, q, h1⟩, fun x H'' hy => ?_⟩
    obtain ⟨rfl, z⟩ := hy
    have e := z ws q
    rw [h1] at e
    cases e
    exact ⟨Stp.refl _ _, m', h2⟩
theorem walk_tup {a : Addr} {vs : List V} {ds : List D} {chk : Store → Prop} (m : SM F L H M) (q0 : SqT F.K H a vs) (r : Reps F L H ds vs) : Walk F L H (Itt F.K a) ds chk := by
  refine ⟨fun L' H' M' s m' c => ?_, fun i d hd L' H' M' s m' c => ?_⟩
  · exact ⟨vs, sqt_stay m s q0, Nat.le_of_eq (reps_len r).symm⟩
  · obtain ⟨y, h1, h2⟩ := reps_get r hd
    refine ⟨⟨vs, y, sqt_stay m s q0, h1⟩, fun x H'' hy => ?_⟩
    obtain ⟨rfl, z⟩ := hy
    have e := z vs (sqt_stay m s q0)
    rw [h1] at e
    cases e
    exact ⟨Stp.refl _ _, m', Rep.stay m s _ _ h2⟩
theorem di_sq {tg l : Expr} {da : DenE} (ha : DE F X W l da) (hK : X.K = F.K := by rfl) : DI F X W tg l (itD da) := by
  obtain ⟨t, p, q⟩ := ha
  refine ⟨_, pi_sq p, fun e M L σ H R sr pp => q e M L σ H _ sr (PostG.bind (fun d M1 L1 H1 v s1 r1 rv p2 => ?_) pp)⟩
  rw [hK]
  cases d with
  | tup ds =>
    obtain ⟨a, vs, rfl, a2, a3⟩ := rv
    have a2 := (Or.inl (Or.inl a2) : SqT F.K H1 a vs)
    exact ⟨a, rfl, .inr ⟨⟨vs, a2⟩, p2.ok r1 (walk_tup r1.m a2 a3)⟩⟩
  | lst ds =>
    obtain ⟨a, vs, rfl, a2, a3⟩ := rv
    refine ⟨a, rfl, .inl ⟨⟨vs, (LstAt.sq (L := L1) (.inl a2))⟩, p2.ok r1 (walk_at r1.m a3 fun L' H' M' s m' _ => ⟨vs, (LstAt.stay r1.m s (.inl a2)).sq, Reps.stay r1.m s _ _ a3⟩)⟩⟩
  | scr ns =>
    obtain ⟨a, rfl, a2⟩ := rv
    have a3 : LstAt F.K L1 H1 a (ns.map V.int) := .inr a2
    exact ⟨a, rfl, .inl ⟨⟨_, a3.sq⟩, p2.ok r1 (walk_at r1.m (reps_ints ns) fun L' H' M' s m' _ => ⟨_, (LstAt.stay r1.m s a3).sq, reps_ints ns⟩)⟩⟩
  | loc n =>
    obtain ⟨a, rfl, a2⟩ := rv
    unfold itemsF at p2
    simp only at p2
    split at p2
    · rename_i ds hm
      obtain ⟨vs, k1, k2⟩ := r1.m.obs n a _ a2 hm
      refine ⟨a, rfl, .inl ⟨⟨vs, .inl (.inl k1)⟩, p2.ok r1 (walk_at r1.m k2 fun L' H' M' s m' c => ?_)⟩⟩
      obtain ⟨ws, j1, j2⟩ := m'.obs n a _ (s.get a2) c
      exact ⟨ws, .inl (.inl j1), j2⟩
    · exact False.elim p2
  | non => exact False.elim p2
  | bl b => exact False.elim p2
  | int i => exact False.elim p2
  | str x => exact False.elim p2
  | emp => exact False.elim p2
  | exc c fs => exact False.elim p2
  | ty n => exact False.elim p2
  | cls n => exact False.elim p2
  | clo f c q σd is ds => exact False.elim p2
  | ktp ns =>
    obtain ⟨a, rfl, a2⟩ := rv
    have a3 : SqT F.K H1 a (ns.map V.int) := .inr a2
    exact ⟨a, rfl, .inr ⟨⟨_, a3⟩, p2.ok r1 (walk_tup r1.m a3 (reps_ints ns))⟩⟩
end
end DL
namespace DL
open PySem L2
section
variable {F : Fx} {X : Cx} {W : WX} {L L1 : List Addr} {H H1 : Hp} {M : Store} {e : DL.Env} {σ : L2.St} {T : Ends} {k : Nat}
noncomputable def cutE (da : DenE) : DenE := fun e M => cutR M (da e M)
theorem SR.cut {M' : Store} {N : List Addr} (sr : SR F L H M e σ) (s : Stp L H (L ++ N) H1) (m : SM F (L ++ N) H1 M') (c : CutOk M M') : SR F L H1 (M'.take M.length) e σ :=
  sr.stay s.cut (SM.cut (L0 := L) sr.m m c)
theorem post_cut {Q : VK} {r : RE} (sr : SR F L H M e σ) (pp : Post F e L H σ W Q (cutR M r)) : Post F e L H σ W Q r := by
  unfold cutR at pp
  cases hd : r with
  | none => rw [hd] at pp; exact pp
  | some y =>
    rw [hd] at pp
    obtain ⟨o, M'⟩ := y
    cases o with
    | val d =>
      intro L' H' v s1 r1 rv
      obtain ⟨N, e1, _⟩ := s1.new
      subst e1
      simp only at pp
      split at pp
      · rename_i c
        split at pp
        · rename_i d' hd'
          exact pp L H' v s1.cut (SR.cut sr s1 r1.m c) (Rep.cutD sr.m.len r1.m hd' rv)
        · exact False.elim pp
      · exact False.elim pp
    | exc c fs =>
      intro L' H' cls dd s1 r1 rx
      obtain ⟨N, e1, _⟩ := s1.new
      subst e1
      simp only at pp
      split at pp
      · rename_i c
        exact pp L H' cls dd s1.cut (SR.cut sr s1 r1.m c.1) (ExR.cut (by rw [sr.m.len]; exact c.2) rx)
      · exact False.elim pp
theorem de_cut {x : Expr} {da : DenE} (ha : DE F X W x da) : DE F X W x (cutE da) := by
  obtain ⟨t, p, q⟩ := ha
  exact ⟨t, p, fun e M L σ H Q sr pp => q e M L σ H Q sr (post_cut sr pp)⟩
theorem cutE_val {da : DenE} {d d' : D} {M X : Store} (h : da e M = ok d (M ++ X)) (hd : cutD M.length (M ++ X) d = some d') : cutE da e M = ok d' M := cut_val (den := fun _ M => da e M) (ds := []) h hd
def canE (F : Fx) (W : WX) (da : DenE) : TE := fun σ H Q => ∃ (e : DL.Env) (M : Store) (L : List Addr), SR F L H M e σ ∧ Post F e L H σ W Q (da e M)
def canT (F : Fx) (W : WX) (da : DenE) : TT := fun σ H Q => ∃ (e : DL.Env) (M : Store) (L : List Addr), SR F L H M e σ ∧ Post F e L H σ W (fun v H' => ∃ b, v = .bl b ∧ Q b H') (da e M)
theorem DE.can {x : Expr} {da : DenE} (h : DE F X W x da) : PE X x (canE F W da) := by
  obtain ⟨t, p, q⟩ := h
  exact ⟨fun pins s σ H Q I hh => by
    obtain ⟨e, M, L, sr, pp⟩ := hh
    exact p.run pins s σ H Q I (q e M L σ H Q sr pp)⟩
theorem DT.can {x : Expr} {da : DenE} (h : DT F X W x da) : PT X x (canT F W da) := by
  obtain ⟨t, p, q⟩ := h
  exact ⟨fun pins s σ H Q I hh => by
    obtain ⟨e, M, L, sr, pp⟩ := hh
    exact p.run pins s σ H Q I (q e M L σ H Q sr pp)⟩
def wipeE (e : DL.Env) : List Nat → DL.Env
  | [] => e
  | v :: vs => (wipeE e vs).set v none
theorem wipeE_len (e : DL.Env) : ∀ vs : List Nat, (wipeE e vs).length = e.length
  | [] => rfl
  | v :: vs => by unfold wipeE; rw [List.length_set, wipeE_len e vs]
theorem EnvR.wipe (h : EnvR F L H e σ) : ∀ vs : List Nat, EnvR F L H (wipeE e vs) (wipe σ vs)
  | [] => h
  | v :: vs => fun i d q => by
    have ih := EnvR.wipe h vs
    unfold wipeE at q
    by_cases hi : v = i
    · subst hi
      by_cases lt : v < (wipeE e vs).length
      · rw [List.getElem?_set_self lt] at q
        cases q
      · rw [List.getElem?_eq_none (by simpa using lt)] at q
        cases q
    · rw [List.getElem?_set_ne hi] at q
      obtain ⟨v', a, b⟩ := ih i d q
      refine ⟨v', ?_, b⟩
      unfold L2.wipe
      rw [List.getElem?_set_ne hi]
      exact a
theorem SR.wipe (sr : SR F L H M e σ) (vs : List Nat) : SR F L H M (wipeE e vs) (L2.wipe σ vs) := ⟨by rw [L2.wipe_length, wipeE_len]; exact sr.l, sr.m, EnvR.wipe sr.e vs⟩
theorem wipe_set {σ : L2.St} {i : Nat} {x : Option V} : ∀ {vs : List Nat}, i ∈ vs → L2.wipe (σ.set i x) vs = L2.wipe σ vs
  | [], h => absurd h (by simp)
  | v :: vs, h => by
    unfold L2.wipe
    by_cases hv : i ∈ vs
    · rw [wipe_set hv]
    · have e : i = v := by
        rcases (List.mem_cons.mp h) with z | z
        · exact z
        · exact absurd z hv
      subst e
      have key : ∀ (us : List Nat), i ∉ us → L2.wipe (σ.set i x) us = (L2.wipe σ us).set i x := by
        intro us
        induction us with
        | nil => intro _; rfl
        | cons u us ih =>
          intro hu
          unfold L2.wipe
          rw [ih fun z => hu (List.mem_cons_of_mem _ z), List.set_comm]
          intro z
          exact hu (by rw [z]; exact List.mem_cons_self)
      rw [key vs hv, List.set_set]
end
end DL
namespace DL
open PySem L2
/-- what raises is nothing here -/
def bindV {α β : Type} (r : RD α) (f : α → Store → RD β) : RD β := match r with
  | some (.val d, M) => f d M
  | _ => none
open Classical in
noncomputable def compL (chk : Store → Prop) (set : D → DL.Env → Option DL.Env) (dt de : DenE) (e0 : DL.Env) (n0 : Nat) : List D → Store → RD Unit
  | [], M => if chk M then ok () M else none
  | d :: ds, M => if chk M then (match set d e0 with
    | some e1 => bindV (dt e1 M) fun b M2 => (match b with
      | .bl true => bindV (de e1 M2) fun y M3 => (match M3[n0]? with
        | some (.lst acc) => if acc.length < 100000 then compL chk set dt de e0 n0 ds (M3.set n0 (.lst (acc ++ [y]))) else none
        | _ => none)
      | .bl false => compL chk set dt de e0 n0 ds M2
      | _ => none)
    | none => none) else none
noncomputable def compD (set : D → DL.Env → Option DL.Env) (dt de : DenE) (vs : List Nat) (di : DenI) : DenE := fun e M => bindE (di e M) fun p M1 => bindE (compL p.2 set dt de (wipeE e vs) M1.length p.1 (M1 ++ [.lst []])) fun _ M2 => ok (.loc M1.length) M2
section
variable {F : Fx} {X : Cx} {W : WX} {L L1 : List Addr} {H H1 : Hp} {M : Store} {e : DL.Env} {σ : L2.St} {T : Ends} {k : Nat}
def TgOk (F : Fx) (vs : List Nat) (g : TG) (set : D → DL.Env → Option DL.Env) : Prop :=
  ∀ (d : D) (v : V) (e e' : DL.Env) (L : List Addr) (H : Hp) (M : Store) (σ : L2.St) (Q : L2.St → Hp → Prop), SR F L H M e σ → Rep F L H d v → set d e = some e' → (∀ σ', SR F L H M e' σ' → L2.wipe σ' vs = L2.wipe σ vs → Q σ' H) → g v σ H Q
def set1 (i : Nat) : D → DL.Env → Option DL.Env := fun d e => some (e.set i (some d))
def set2 (i j : Nat) : D → DL.Env → Option DL.Env := fun d e => match d with
  | .tup [a, b] => some ((e.set i (some a)).set j (some b))
  | _ => none
theorem tg1 {i : Nat} {vs : List Nat} (hi : i ∈ vs) : TgOk F vs (gName i) (set1 i) := fun d v e e' L H M σ Q sr rv hs q => by
  cases hs
  exact q _ (sr.set i rv) (wipe_set hi)
theorem tg2 {i j : Nat} {vs : List Nat} (hi : i ∈ vs) (hj : j ∈ vs) : TgOk F vs (gTup F.K 2 (gCons (gName i) (gCons (gName j) gNil))) (set2 i j) := fun d v e e' L H M σ Q sr rv hs q => by
  unfold set2 at hs
  split at hs
  · rename_i a b
    cases hs
    obtain ⟨p, vs', rfl, hq, r⟩ := rv
    have hl := reps_len r
    obtain ⟨v1, v2, rfl, r1, r2⟩ := reps2 r
    refine ⟨p, _, rfl, (.inl (.inl hq)), rfl, v1, [v2], rfl, v2, [], rfl, rfl, ?_⟩
    exact q _ ((sr.set i r1).set j r2) (by rw [wipe_set hj, wipe_set hi])
  · cases hs
theorem wipe_none {τ : L2.St} : ∀ us : List Nat, (∀ u ∈ us, ∀ x, τ[u]? ≠ some (some x)) → L2.wipe τ us = τ
  | [], _ => rfl
  | u :: us, h => by
    unfold L2.wipe
    rw [wipe_none us fun v hv => h v (List.mem_cons_of_mem _ hv)]
    have hu := h u List.mem_cons_self
    apply List.ext_getElem?
    intro j
    by_cases hj : u = j
    · subst hj
      by_cases lt : u < τ.length
      · rw [List.getElem?_set_self lt]
        cases q : τ[u]? with
        | none =>
          rw [List.getElem?_eq_none_iff] at q
          omega
        | some y =>
          cases y with
          | none => rfl
          | some x => exact absurd q (hu x)
      · rw [List.getElem?_eq_none (by rw [List.length_set]; omega), List.getElem?_eq_none (by omega)]
    · rw [List.getElem?_set_ne hj]
theorem wipe_idem (σ : L2.St) (vs : List Nat) : L2.wipe (L2.wipe σ vs) vs = L2.wipe σ vs := wipe_none vs fun u hu x q => (L2.wipe_some q).2 hu
abbrev W0 : WX := fun _ _ _ _ => False
theorem pts_yes : PTs X [] (canT F W0 (cD (.bl true))) := ⟨fun pins s σ H Q I h => by
  obtain ⟨e, M, L, sr, p⟩ := h
  obtain ⟨b, eb, q⟩ := p.ok (v := .bl true) sr (show Rep F L H (.bl true) (.bl true) from rfl)
  cases eb
  exact pts_nil.run pins s σ H Q I q⟩
theorem pts_if {c : Expr} {dt : DenE} (h : DT F X W0 c dt) : PTs X [c] (canT F W0 dt) := pts_one h.can
abbrev BX (X : Cx) (scope : Scope) (s : Shared) (H : Hp) (C : Addr) (cl : List (Str × Addr)) (fp : List Addr) : Cx := X.blk s H scope (compEnvC scope cl C X.env) fp
theorem Dc.blk {scope : Scope} {s : Shared} {C : Addr} {cl : List (Str × Addr)} {fp : List Addr} (d : Dc X W k) : Dc (BX X scope s H C cl fp) W0 k := ⟨LamX.takes0, d.room, d.calm, d.gd, PassesOwn.never⟩
theorem comp_t {wi : TI} {di : DenI} {g : TG} {vs : List Nat} {set : D → DL.Env → Option DL.Env} {dt de : DenE}
    (qi : ∀ (e : DL.Env) (M : Store) (L : List Addr) (σ : L2.St) (H : Hp) (R : It → Hp → Prop), SR F L H M e σ → PostG F (fun L' H' (p : DItems) (J : It) => Walk F L' H' J p.1 p.2) e L H σ W R (di e M) → wi σ H R) (hgo : TgOk F vs g set) :
    ∀ (e : DL.Env) (M : Store) (L : List Addr) (σ : L2.St) (H : Hp) (Q : VK), SR F L H M e σ → Post F e L H σ W Q (compD set dt de vs di e M) → tLc wi g (canT F W0 dt) (canE F W0 de) vs σ H Q := by
  refine fun e M L σ H Q sr pp => qi e M L σ H _ sr (PostG.bind (fun p M1 L1 H1 J s1 r1 w p2 => ?_) pp)
  intro A hA
  obtain ⟨mo, so⟩ := SM.own (F := F) (p := A) (ds := []) (vs := []) r1.m hA rfl
  have hn0 : (L1 ++ [A])[M1.length]? = some A := by
    rw [← r1.m.len, List.getElem?_append_right (Nat.le_refl _), Nat.sub_self]
    rfl
  let Inv' : Nat → Hp → Prop := fun i Hc => i ≤ p.1.length ∧ ∃ (L' : List Addr) (M' : Store), Stp (L1 ++ [A]) (upd H1 A (.lst [])) L' Hc ∧ SM F L' Hc M' ∧
    Post F e L' Hc σ W Q (bindE (compL p.2 set dt de (wipeE e vs) M1.length (p.1.drop i) M') fun _ M2 => ok (.loc M1.length) M2)
  refine ⟨fun i m Hc => m = p.1.length - i ∧ Inv' i Hc, ⟨_, rfl, Nat.zero_le _, _, _, Stp.refl _ _, mo, ?_⟩, ?_⟩
  · exact PostG.go so p2
  rintro i m Hc ⟨rfl, hi, L', M', s', m', pr⟩
  have s1' : Stp L1 H1 L' Hc := so.trans s'
  by_cases hlt : i < p.1.length
  · right
    have hd : p.1[i]? = some p.1[i] := List.getElem?_eq_getElem hlt
    rw [drop_cons hd] at pr
    unfold compL at pr
    split at pr
    · rename_i hc
      obtain ⟨hgo1, hy⟩ := w.step i _ hd L' Hc M' s1' m' hc
      refine ⟨hgo1, fun Hn => Inv' (i + 1) Hn, fun H' q => ⟨_, by omega, rfl, q⟩, fun x H' y => ?_⟩
      obtain ⟨sx, mx, rx⟩ := hy x H' y
      split at pr
      · rename_i e1 he1
        have srx : SR F L' H' M' e σ := r1.stay (s1'.trans sx) mx
        refine hgo _ x _ e1 L' H' M' _ _ (srx.wipe vs) rx he1 fun σ2 sr2 hw => ⟨hw.trans (wipe_idem σ vs), e1, M', L', sr2, ?_⟩
        cases hdt : dt e1 M' with
        | none => rw [hdt] at pr; exact False.elim pr
        | some yt =>
          rw [hdt] at pr
          obtain ⟨ot, M2⟩ := yt
          cases ot with
          | exc c fs => exact False.elim pr
          | val b =>
            intro L2 H2 vb sb rb rvb
            have pr2 : Post F e L' Hc σ W Q (bindE (match b with
              | .bl true => bindV (de e1 M2) fun y M3 => (match M3[M1.length]? with
                | some (.lst acc) => if acc.length < 100000 then compL p.2 set dt de (wipeE e vs) M1.length (p.1.drop (i + 1)) (M3.set M1.length (.lst (acc ++ [y]))) else none
                | _ => none)
              | .bl false => compL p.2 set dt de (wipeE e vs) M1.length (p.1.drop (i + 1)) M2
              | _ => none) fun _ M2 => ok (.loc M1.length) M2) := pr
            cases b with
            | bl bb =>
              cases bb with
              | false =>
                refine ⟨false, rvb, ?_⟩
                simp only [if_neg (fun z : false = true => Bool.noConfusion z)]
                exact ⟨hlt, L2, M2, (s'.trans sx).trans sb, rb.m, PostG.go (sx.trans sb) pr2⟩
              | true =>
                refine ⟨true, rvb, ?_⟩
                simp only [if_true]
                refine ⟨e1, M2, L2, rb, ?_⟩
                cases hde : de e1 M2 with
                | none => simp only [hde, bindV] at pr2; exact False.elim pr2
                | some ye =>
                  obtain ⟨oe, M3⟩ := ye
                  cases oe with
                  | exc c fs => simp only [hde, bindV] at pr2; exact False.elim pr2
                  | val y =>
                    simp only [hde, bindV] at pr2
                    intro L3 H3 vy sy ry rvy
                    have hA3 : L3[M1.length]? = some A := sy.get (sb.get (sx.get (s'.get hn0)))
                    split at pr2
                    · rename_i acc hacc
                      split at pr2
                      · rename_i hlen
                        obtain ⟨va, a1, a2⟩ := ry.m.obs _ A _ hA3 hacc
                        obtain ⟨mp, sp⟩ := SM.put ry.m hA3 a1 (reps_snoc a2 rvy)
                        refine ⟨va, a1, ?_, hlt, L3, _, (((s'.trans sx).trans sb).trans sy).trans sp, mp, PostG.go (((sx.trans sb).trans sy).trans sp) pr2⟩
                        rw [← reps_len a2]
                        exact Nat.lt_trans hlen (by decide)
                      · exact False.elim pr2
                    · exact False.elim pr2
            | non => exact False.elim pr2
            | int i => exact False.elim pr2
            | str x => exact False.elim pr2
            | tup es => exact False.elim pr2
            | lst es => exact False.elim pr2
            | scr ns => exact False.elim pr2
            | emp => exact False.elim pr2
            | loc n => exact False.elim pr2
            | exc c fs => exact False.elim pr2
            | ty n => exact False.elim pr2
            | cls n => exact False.elim pr2
            | clo f c q σd is ds => exact False.elim pr2
            | ktp ns => exact False.elim pr2
      · exact False.elim pr
    · exact False.elim pr
  · left
    have hz : i = p.1.length := by omega
    subst hz
    rw [List.drop_length] at pr
    unfold compL at pr
    split at pr
    · rename_i hc
      exact ⟨w.stop L' Hc M' s1' m' hc, pr L' Hc (.ref A) (Stp.refl _ _) (r1.stay s1' m') ⟨A, rfl, s'.get hn0⟩⟩
    · exact False.elim pr
theorem de_comp {elt tg iter : Expr} {ifs : List Expr} {scope : Scope} {own : List (Str × Nat)} {pos : Pos} {di : DenI} {g : TG} {set : D → DL.Env → Option DL.Env} {dt de : DenE} (d : Dc X W k) (hN : X.N.Nodup) (hi : DI F X W tg iter di) (bo : BlkOk X.N X.env.scope scope own)
    (hg : ∀ (s : Shared) (H : Hp) (C : Addr) (cl : List (Str × Addr)) (fp : List Addr), PG (BX X scope s H C cl fp) tg g) (hgo : TgOk F (own.map (·.2)) g set)
    (ht : ∀ (s : Shared) (H : Hp) (C : Addr) (cl : List (Str × Addr)) (fp : List Addr), Dc (BX X scope s H C cl fp) W0 k → PTs (BX X scope s H C cl fp) ifs (canT F W0 dt))
    (he : ∀ (s : Shared) (H : Hp) (C : Addr) (cl : List (Str × Addr)) (fp : List Addr), Dc (BX X scope s H C cl fp) W0 k → DE F (BX X scope s H C cl fp) W0 elt de) (hs : ∀ x, foldedSetIterable iter X.env x = pure x := by intro _; rfl) :
    DE F X W (.ListComp elt [⟨tg, iter, ifs, 0⟩] scope pos) (compD set dt de (own.map (·.2)) di) := by
  obtain ⟨wi, pi, qi⟩ := hi
  exact ⟨_, pe_lc d.calm hN pi bo hg (fun s H C cl fp => ht s H C cl fp d.blk) (fun s H C cl fp => (he s H C cl fp d.blk).can) hs, comp_t qi hgo⟩
end
end DL
namespace DL
open PySem L2
open Classical in
noncomputable def forIL (g : DenG) (chk : Store → Prop) (body : DenS) : List D → DenS
  | [], e, M => if chk M then some (.nx e, M) else none
  | d :: ds, e, M => if chk M then (match g d e M with
    | some (.nx e1, M1) => (match body e1 M1 with
      | some (.nx e', M') => forIL g chk body ds e' M'
      | some (.ct e', M') => forIL g chk body ds e' M'
      | some (.bk e', M') => some (.nx e', M')
      | r => r)
    | _ => none) else none
noncomputable def forI (g : DenG) (di : DenI) (body : DenS) : DenS := fun e M => thenS (di e M) e fun p M1 => forIL g p.2 body p.1 e M1
section
variable {F : Fx} {X : Cx} {W : WX} {L L1 : List Addr} {H H1 : Hp} {M : Store} {e : DL.Env} {σ : L2.St} {T : Ends} {k : Nat}
theorem ds_forI {tg it : Expr} {body : List Stmt} {di : DenI} {g : DenG} {db : DenS} {pos : Pos} (d : Dc X W k) (hi : DI F X W tg it di) (hg : DG F X W tg g) (hb : DSs F X W body db) (hs : ∀ x, foldedSetIterable it X.env x = pure x := by intro _; rfl) :
    DS F X W (.For tg it body [] pos) (forI g di db) := by
  obtain ⟨wi, pi, qi⟩ := hi
  obtain ⟨tg', pg, qg⟩ := hg
  obtain ⟨tb, pb, qb⟩ := hb
  refine ⟨_, ps_for d.own d.calm pi pg pb hs, fun e M L σ H T sr pp => qi e M L σ H _ sr (post_then (fun p M1 L1 H1 J s1 r1 w q => ?_) pp)⟩
  let In : Nat → L2.St → Hp → Prop := fun i σ' H' => i ≤ p.1.length ∧ ∃ (L' : List Addr) (e' : DL.Env) (M' : Store), Stp L1 H1 L' H' ∧ SR F L' H' M' e' σ' ∧ PostS F L' H' W T (forIL g p.2 db (p.1.drop i) e' M')
  refine ⟨fun i m σ' H' => m = p.1.length - i ∧ In i σ' H', ⟨_, rfl, Nat.zero_le _, L1, e, M1, Stp.refl _ _, r1, q⟩, ?_⟩
  rintro i m σ' H' ⟨rfl, hi, L', e', M', s, r, pr⟩
  by_cases hlt : i < p.1.length
  · right
    have hd : p.1[i]? = some p.1[i] := List.getElem?_eq_getElem hlt
    rw [drop_cons hd] at pr
    unfold forIL at pr
    split at pr
    · rename_i hc
      obtain ⟨hgo, hy⟩ := w.step i _ hd L' H' M' s r.m hc
      refine ⟨hgo, fun σ2 H2 => In (i + 1) σ2 H2, fun σ2 H2 z => ⟨_, by omega, rfl, z⟩, fun x H2 y => ?_⟩
      obtain ⟨sx, mx, rx⟩ := hy x H2 y
      have rr : SR F L' H2 M' e' σ' := r.stay sx mx
      refine qg _ x e' M' L' σ' H2 { T with nx := fun σ2 H2 => tb { T with nx := fun σ2 H2 => In (i + 1) σ2 H2, ct := fun σ2 H2 => In (i + 1) σ2 H2, bk := T.nx } σ2 H2 } rr rx ?_
      revert pr
      cases g p.1[i] e' M' with
      | none => exact False.elim
      | some yg =>
        obtain ⟨fg, Mg⟩ := yg
        cases fg with
        | nx e1 =>
          intro pr L3 H3 σ3 s3 r3
          refine qb e1 Mg L3 σ3 H3 _ r3 ?_
          revert pr
          simp only
          cases db e1 Mg with
          | none => exact False.elim
          | some yb =>
            obtain ⟨fb, Mb⟩ := yb
            cases fb with
            | nx e2 => exact fun pr L4 H4 σ4 s4 r4 => ⟨hlt, L4, e2, Mb, ((s.trans sx).trans s3).trans s4, r4, PostS.go ((sx.trans s3).trans s4) pr⟩
            | ct e2 => exact fun pr L4 H4 σ4 s4 r4 => ⟨hlt, L4, e2, Mb, ((s.trans sx).trans s3).trans s4, r4, PostS.go ((sx.trans s3).trans s4) pr⟩
            | bk e2 => exact fun pr L4 H4 σ4 s4 r4 => pr L4 H4 σ4 ((sx.trans s3).trans s4) r4
            | rt d2 => exact fun pr => PostS.go (T := T) (sx.trans s3) pr
            | ex c fs e2 => exact fun pr => PostS.go (T := T) (sx.trans s3) pr
        | rt d2 => exact False.elim
        | bk e2 => exact False.elim
        | ct e2 => exact False.elim
        | ex c fs e2 => exact False.elim
    · exact False.elim pr
  · left
    have hz : i = p.1.length := by omega
    subst hz
    rw [List.drop_length] at pr
    unfold forIL at pr
    split at pr
    · rename_i hc
      exact ⟨w.stop L' H' M' s r.m hc, pr L' H' σ' (Stp.refl _ _) r⟩
    · exact False.elim pr
theorem walk_rng {lo : Int} {n : Nat} : Walk F L H (Itr lo n) (rngI lo n) (fun _ => True) := by
  refine ⟨fun L' H' M' s m c => by rw [rng_len]; exact Nat.le_refl _, fun i d hd L' H' M' s m c => ?_⟩
  have hi : i < n := by
    have := (List.getElem?_eq_some_iff.mp hd).1
    rwa [rng_len] at this
  refine ⟨hi, fun x H'' y => ?_⟩
  obtain ⟨rfl, rfl⟩ := y
  have e : d = .int (lo + (i : Int)) := by
    unfold rngI at hd
    rw [List.getElem?_map, List.getElem?_range hi] at hd
    exact (Option.some.inj hd).symm
  subst e
  exact ⟨Stp.refl _ _, m, rfl⟩
def rng1 (dr : DenA) : DenI := fun e M => bindE (dr e M) fun ds M1 => match ds with
  | [.int n] => if small62 n = true then ok (rngI 0 n.toNat, fun _ => True) M1 else none
  | _ => none
theorem di_rng1 {tg a : Expr} {da : DenE} {p pos : Pos} (hm : X.mg "range" = none) (ha : DE F X W a da) (hg : Gl X "range" := by rfl) (hse : starEach [a] X.env = [(false, eval a X.env)] := by rfl) (hst : starEach (a :: []) X.env = (false, eval a X.env) :: starEach [] X.env := by rfl) :
    DI F X W tg (.Call (.Name "range" p) [a] [] pos) (rng1 (consA da nilA)) := by
  obtain ⟨t, pa, qa⟩ := da_cons ha da_nil hst
  refine ⟨_, pi_range1 hg hm pa hse, fun e M L σ H R sr pp => qa e M L σ H _ sr (PostG.bind (fun ds M1 L1 H1 vs s1 r1 rv p2 => ?_) pp)⟩
  split at p2
  · rename_i n
    obtain ⟨v, rfl, h1⟩ := reps1 rv
    obtain rfl : v = .int n := h1
    split at p2
    · rename_i hz
      have z : -(2 ^ 62) ≤ n ∧ n < 2 ^ 62 := of_decide_eq_true hz
      exact ⟨n, rfl, z.1, z.2, p2.ok r1 walk_rng⟩
    · exact False.elim p2
  · exact False.elim p2
end
end DL
namespace DL
open PySem L2 PySem.W PySem.Calls PyProof.Rows PySem.HandSPX Builtin Builtin.ObjectAttr
abbrev iniS (y : Str) : Scope := { kind := .function, names := [("self", .local), (y, .local), ("__class__", .free), ("super", .globalImplicit)], isGenerator := false, isCoroutine := false, more := [] }
/-- a built-in base of own errors: its name, its __new__ and __init__, its mro -/
structure EB (B nw ini : String) (tl : List Value) : Prop where
  F : ExcBaseFacts B nw ini tl
  S : KxsFacts B ini
  P : StoreFacts B tl "object.__setattr__" "object"
  ob : tl.contains (.type "object") = true
  ne : tl.isEmpty = false
theorem eb_VE : EB "ValueError" "ValueError.__new__" "ValueError.__init__" [.type "ValueError", .type "Exception", .type "BaseException", .type "object"] := ⟨PySem.F.excBase_ValueError, kxs_ValueError, PySem.F.store_ValueError, by decide +kernel, rfl⟩
/-- own classes ahead of tl -/
def refsB (tl : List Value) : List Value → Bool
  | [] => false
  | .ref c :: r => refsB tl r
  | a :: r => a :: r == tl
theorem refsB_cases {tl : List Value} {a : Value} {r : List Value} (e : refsB tl (a :: r) = true) : (∃ c, a = .ref c ∧ refsB tl r = true) ∨ a :: r = tl := by
  cases a with
  | ref c => exact .inl ⟨c, rfl, e⟩
  | _ => exact .inr (beq_iff_eq.mp e)
theorem refsB_pass {B nw ini : String} {tl : List Value} (b : EB B nw ini tl) (self : Value) : ∀ l : List Value, refsB tl l = true → refuseLoop self "__setattr__" l = pure ()
  | [], e => by cases e
  | a :: r, e => by
    obtain ⟨c, rfl, q⟩ | q := refsB_cases e
    · rw [refuseLoop_ref]
      exact refsB_pass b self r q
    · rw [q]
      exact b.P.passes self
theorem refsB_has {tl : List Value} (X : String) : ∀ l : List Value, refsB tl l = true → l.contains (.type X) = tl.contains (.type X)
  | [], e => by cases e
  | a :: r, e => by
    obtain ⟨c, rfl, q⟩ | q := refsB_cases e
    · rw [List.contains_cons, refsB_has X r q]
      rfl
    · rw [q]
theorem refsB_ne {tl : List Value} : ∀ {l : List Value}, refsB tl l = true → l.isEmpty = false
  | [], e => by cases e
  | _ :: _, _ => rfl
/-- the __init__ of class C: super().__init__(msg); self.f = y -/
structure IniTxt (P : Program) (K : PySem.W.Frag) (C fI : Addr) (f y : Str) : Prop where
  cls : ∃ (B nw ini : String) (tl : List Value), EB B nw ini tl ∧ ∃ nm q N bs bm sn sb ab col dd k0 k1 k2 k3 k5, K.lookup C = some (excClassObj nm q C N bs bm true sn sb ab col dd k0 k1 k2 k3 k5 nw) ∧ (refsB tl bm = true) ∧
    ks_superIn K C C "__init__" = some (some (.builtin ini)) ∧ subIn K (.ref C) (.type B) = some true ∧ excInitIn K C tl nw = true
  sat : findIn K (.ref C) "__setattr__" = some (some (.builtin "object.__setattr__"))
  noF : findIn K (.ref C) f = some none
  ini1 : findIn K (.ref C) "__init__" = some (some (.ref fI))
  tfn : typeIn K (.ref fI) = some (.type "function")
  opq : nsIn K cStatics "thirdparty.any" = some none
  sub : mroIn K C (.ref C) = some true
  fn : ∃ (oc : Value) (od an : Option Addr) (dV kV doc pm ct : Value) (cda cc : Addr) (osl : Array (Option Value)) (qual msg : Str) (pa : Arguments) (p0 p1 p2 p3 p4 p5 q1 q2 q3 q4 : Pos) (j : Nat) (ar : Arg) (vs : Array Value) (file : Str) (tf : Tok) (ccl cl : Value) (cdd cld : Option Addr) (ccs csl : Array (Option Value)),
    K.lookup fI = some ⟨oc, od, .func (ksFn "__init__" qual pa [.Expr (.Call (.Attribute (.Call (.Name "super" p0) [] [] p1) "__init__" p2) [.Constant (.str msg) j p3] [] p4) p5, .Assign [.Attribute (.Name "self" q1) f q2] (.Name y q3) q4] (iniS y) dV kV doc pm an (.ref cda) ct cc), osl⟩ ∧
    codeIn K (.ref cda) qual = true ∧ (pa.posonlyargs ++ pa.args).head? = some ar ∧ ar.arg = "self" ∧ K.lookup cda = some ⟨ccl, cdd, .fields vs, ccs⟩ ∧ vs[2]? = some (.str file tf) ∧ ((P.main.file : Str) == file) = true ∧
    K.lookup cc = some ⟨cl, cld, .cell (some (.ref C)), csl⟩ ∧ (iniS y).names.lookup ("super" : Str) = some .globalImplicit ∧ (iniS y).names.lookup ("__class__" : Str) = some .free ∧ (iniS y).names.lookup ("self" : Str) = some .local ∧ (iniS y).names.lookup y = some .local ∧ (p2.endLine == p4.line) = true
  top : (P.main.scope.names.lookup ("super" : Str)).isSome = false
/-- a made error of class C with the field f -/
structure OwnMade (h h' : Heap) (e C d : Addr) (f : Str) (v : Value) : Prop where
  keep : ∀ (q : Addr) (ob : Obj), h.get? q = some ob → h'.get? q = some ob
  new : h.objs.size ≤ e
  obj : ∃ (oe : Obj) (ws : Array Value), h'.get? e = some oe ∧ oe.cls = .ref C ∧ oe.dict = some d ∧ oe.data = .fields ws ∧ ws[1]? = some .none
  dbig : h.objs.size ≤ d
  dne : d ≠ e
  ns : h'.Ns1 d (fun z => if z = f then some v else none)
section
variable {prog : Program} {w : World} {A : Around} {E : Value → Shared → Prop} {R : Result → Shared → Prop} {s : Shared} {K : PySem.W.Frag} {mg mb : Str → Option Value} {C fI : Addr} {f y : Str}
theorem mcall_super {env : PySem.Env} {p0 p1 p2 p3 p4 : Pos} {msg : Str} {j : Nat} (hl : (p2.endLine == p4.line) = true) : eval (.Call (.Attribute (.Call (.Name "super" p0) [] [] p1) "__init__" p2) [.Constant (.str msg) j p3] [] p4) env = (do
      let ov ← attributeBase (.Call (.Name "super" p0) [] [] p1) "__init__" env (eval (.Call (.Name "super" p0) [] [] p1) env)
      standAt p2.atName
      let (g, first) ← holding [ov] (getMethod ov "__init__" (plainOf (.Call (.Name "super" p0) [] [] p1) env))
      callWith p4 g first (backTo p4 (starEach [.Constant (.str msg) j p3] env)) []) := by
  rw [arm_eval_Call]
  have e : (fun ov => methodCall (.Call (.Name "super" p0) [] [] p1) "__init__" p2 p4 env ov ([Expr.Constant (.str msg) j p3].length + ([] : List Keyword).length) (backTo p4 (starEach [.Constant (.str msg) j p3] env)) (backToKw p4 (keywordEach [] env))) = fun ov => (do
      let (g, first) ← holding [ov] (getMethod ov "__init__" (plainOf (.Call (.Name "super" p0) [] [] p1) env))
      callWith p4 g first (backTo p4 (starEach [.Constant (.str msg) j p3] env)) []) := funext fun ov => mcall_line rfl hl
  exact congrArg (fun tr : Value → Sem Value => (do
    let ov ← attributeBase (.Call (.Name "super" p0) [] [] p1) "__init__" env (eval (.Call (.Name "super" p0) [] [] p1) env)
    standAt p2.atName
    tr ov)) e
/-- the first field of an own error, whatever its base -/
theorem exc_osaB {B nw ini : String} {tl : List Value} (eb : EB B nw ini tl) {hp : Heap} {g : Array GenState} {d : Drawn} {t : Nat} {os : OsState} {name : Str} {tk : Tok} {v : Value} {x C : Addr} {fv : Array Value} {cd : ClassData}
    (X : K.In hp) (hx : hp.get? x = some { cls := .ref C, data := .fields fv }) (hcd : clsIn K C = some cd) (hm : refsB tl cd.mro = true) (hh : cd.hasDict = true) (ha : findIn K (.ref C) name = some none)
    (fin : ∀ (g1 : Heap) (tk1 : Nat) (dx : Addr), (∀ p o, p ≠ x → hp.get? p = some o → g1.get? p = some o) → hp.objs.size ≤ dx → dx ≠ x → g1.get? x = some { cls := .ref C, dict := some dx, data := .fields fv } →
      g1.Ns1 dx (fun z => if z = name then some v else none) → R (.ok (.ret .none)) ⟨g1, g, d, tk1, os⟩) :
    codeAny (model prog w) A (.call (.builtin "object.__setattr__") { pos := [.ref x, .str name tk, v], kw := [] }) R ⟨hp, g, d, t, os⟩ := by
  have SF : StoreFacts "object" _ "object.__setattr__" "object" := PySem.F.store_object
  have far : x ≠ hp.objs.size := Nat.ne_of_lt (Heap.lt_size hx)
  have I : InstAt hp x { cls := .ref C, data := .fields fv } C none := ⟨hx, rfl, rfl, trivial⟩
  have hob : cd.mro.contains (.type "object") = true := by rw [refsB_has "object" _ hm, eb.ob]
  have hcls : Looks (model prog w) hp (classData C) cd := looks_clsIn X hcd
  have hmr : Looks (model prog w) hp (mroOf (.ref C)) cd.mro := (looks_clsIn X hcd).andThen .now
  have none3 : Looks (model prog w) hp (storeTaker? none) none := .now
  have inn : mroIn K C (.type "object") = some true := by
    unfold mroIn
    rw [hcd, Option.bind_some, if_neg (by rw [refsB_ne hm]; decide), hob]
  refine codeAny_call_builtin SF.slot.plain SF.entry (@check_slot (model prog w) _ _ ⟨hp, g, d, t, os⟩ "object.__setattr__" "object" "__setattr__" (.ref x) [.str name tk, v] [] _ SF.kind SF.split (I.type.andThen (looks_mroIn X inn)) (SF.args (.ref x) (.str name tk) v) ?_)
  rw [osa_eq, refuse_eq]
  refine wpAny_bind <| wpAny_bind <| I.type.at <| wpAny_bind <| hmr.at ?_
  rw [refsB_pass eb _ _ hm]
  refine wpAny_pure (wpAny_bind (I.type.at (wpAny_bind ((looks_findIn X ha).at (wpAny_bind (none3.at ?_))))))
  change wpAny _ _ (storeInOwnDict (.ref x) (.ref C) (.str name tk) name v false) _ _ _
  obtain ⟨c1, c2, c3, c4, c5, c6, c7, c8, c9, c10, c11⟩ := cd
  dsimp only at hh
  subst hh
  unfold storeInOwnDict
  unfold ownDictForStores
  repeat (first | (with_reducible refine store_in_new ?_ ?_) | (with_reducible refine hcls.at ?_) | (with_reducible refine wpAny_loadPart_at hx ?_) | wp_step)
  · exact ⟨_, #[], _, (Heap.get?_update_ne _ _ _ _ far.symm).trans (Heap.get?_push_at rfl rfl), rfl, fun e he => absurd he (by simp), fun _ => rfl⟩
  · intro g1 tk1 n1 sb
    have hx1 : (hp.push { cls := .type "dict", data := .dict #[] }).get? x = some { cls := .ref C, data := .fields fv } := Heap.get?_push_of_some _ hx
    refine fin g1 tk1 hp.objs.size (fun q o hb ho => ?_) (Nat.le_refl _) far.symm ?_ n1
    · refine (sb.2 q (Nat.ne_of_lt (Heap.lt_size ho))).trans ?_
      exact (Heap.get?_update_ne _ _ _ _ hb).trans (Heap.get?_push_of_some _ ho)
    · exact (sb.2 x far).trans (Heap.get?_update_self _ hx1 rfl)
theorem ini_run (T : IniTxt prog K C fI f y) {hp : Heap} {x t0 : Addr} {v : Value} (X0 : K.In hp) (hsub : ∀ b o, hp.get? b = some o → s.heap.get? b = some o) (hsz : hp.objs.size ≤ x) (hlim : s.heap.NoLimit) (hG : s.heap.Ns mainGlobals mg) (hS : mg "super" = none) (hB : s.heap.Ns builtinsNs mb) (hBS : mb "super" = some (.type "super")) (hx : s.heap.get? x = some (excO C t0)) (hroom : A.depth < recursionLimit)
    (hb : ∀ fd : FuncData, (∃ oc od osl, K.lookup fI = some ⟨oc, od, .func fd, osl⟩) → BindsTo s fd ⟨[.ref x, v], []⟩ [("self", .ref x), (y, v)]) (hy : y ≠ "self") (hyd : (y == ("__debug__" : Str)) = false)
    (hq : ∀ h' tk dx, OwnMade hp h' x C dx f v → R (.ok (.ret .none)) { s with heap := h', toks := tk }) :
    codeAny (model prog w) A (.call (.ref fI) { pos := [.ref x, v] }) R s := by
  obtain ⟨oc, od, an, dV, kV, doc, pm, ct, cda, cc, osl, qual, msg, pa, p0, p1, p2, p3, p4, p5, q1, q2, q3, q4, j, ar, vs, file, tf, ccl, cl, cdd, cld, ccs, csl, ho, hcd, hp1, har, hcda, hvs, hfile, hcc, hks, hkc, hkself, hky, hln⟩ := T.fn
  obtain ⟨B, nw, ini, tl, eb, nm, q, N, bs, bm, sn, sb, ab, col, dd, k0, k1, k2, k3, k5, hC, hbm, Tsup, Tve, Tini⟩ := T.cls
  have hcl : clsIn K C = some { name := nm, bases := bs, mro := .ref C :: bm, ns := N, qualname := q, hasDict := true, slotNames := sn, subclasses := sb, abstract := ab, collection := col, hasDel := false } := by unfold clsIn; rw [hC] <;> rfl
  refine ks_codeAny_call_defAt (fd := ksFn "__init__" qual pa _ (iniS y) dV kV doc pm an (.ref cda) ct cc) (binds := [("self", .ref x), (y, v)]) hroom (X0.keeps hsub _ _ ho) rfl hlim (codeRec_of (X0.keeps hsub) hcd) rfl (hb _ ⟨_, _, _, ho⟩) (fun z hz => by
    simp only [List.mem_cons, or_false, List.not_mem_nil] at hz
    rcases hz with rfl | rfl | rfl | rfl <;> exact fun z => nomatch z) ?_ (fun h₁ hns hk₁ => ?_) rfl rfl rfl
  · intro z hz
    simp only [List.mem_cons, or_false, List.not_mem_nil] at hz
    rcases hz with rfl | rfl
    · exact hkself
    · exact hky
  have X : K.In s.heap := X0.keeps hsub
  have X₁ : K.In h₁ := X.keeps hk₁
  have hx₁ := hk₁ _ _ hx
  have hself : ([(("self" : Str), Value.ref x), (y, v)] : List (Str × Value)).reverse.lookup ("self" : Str) = some (Value.ref x) := by
    have e : (("self" : Str) == y) = false := by
      rw [beq_eq_false_iff_ne]
      exact fun z => hy z.symm
    show ([(y, v), (("self" : Str), Value.ref x)] : List (Str × Value)).lookup ("self" : Str) = _
    simp only [List.lookup, e]
    rfl
  have hyv : ([(("self" : Str), Value.ref x), (y, v)] : List (Str × Value)).reverse.lookup y = some v := by
    show ([(y, v), (("self" : Str), Value.ref x)] : List (Str × Value)).lookup y = _
    simp only [List.lookup, beq_self_eq_true]
  have hsup := Tsup
  unfold ks_superIn at hsup
  rw [hcl] at hsup
  refine ks_wpAt_execs_cons (ks_wpAt_Expr_any (ks_wpAt_MethodCall ?_ (mcall_super hln)))
  have hxs : x < s.heap.objs.size := Heap.lt_size hx
  obtain ⟨hh0, g, d, t, os⟩ := s
  have hnone : ∀ b, hp.objs.size ≤ b → hp.get? b = none := fun b hb => by
    cases z : hp.get? b with
    | none => rfl
    | some o => exact absurd (Heap.lt_size z) (Nat.not_lt.mpr hb)
  have Lge : hp.objs.size ≤ hh0.objs.size := Nat.le_of_lt (Nat.lt_of_le_of_lt hsz hxs)
  have F₁ : Fr hp hh0.objs.size h₁ (fun z => ([(("self" : Str), Value.ref x), (y, v)] : List (Str × Value)).reverse.lookup z) := ⟨hns, fun b o z => hk₁ b o (hsub b o z), Lge⟩
  have N₁ : News hp hh0.objs.size h₁ [(x, excObj C t0 none .none)] := fun p hp' => by
    obtain rfl := List.mem_singleton.mp hp'
    exact ⟨hx₁, Nat.ne_of_lt hxs, hnone x hsz⟩
  -- super()
  refine ks_wpAt_super_base (fd := ksFn "__init__" qual pa _ (iniS y) dV kV doc pm an (.ref cda) ct cc) hks hkc (by decide) rfl (X₁ _ _ ho) rfl hp1 rfl (X₁ _ _ hcda) rfl hvs hfile T.top ?_
  rw [har]
  refine ks_loadName_global rfl hks (loadGlobal_builtin (hG.keeps hk₁) hS (hB.keeps hk₁) hBS ⟨rfl, ?_⟩)
  refine wpAny_loadName_free (c := cc) rfl hkc rfl ⟨_, X₁ _ _ hcc, rfl⟩ ?_
  refine wpAny_loadName_local rfl hkself hns hself ?_
  refine ks_wpAny_isType_cls (X₁ _ _ hC) rfl ⟨rfl, ?_⟩
  refine ks_wpAny_call_super (X₁ _ _ hC) rfl hx₁ rfl (fun c e => by cases e) (looks_mroIn X₁ T.sub) fun h₂ e₂ k₂ => ?_
  obtain ⟨F₂, N₂, l₂⟩ := ks_newsPush (s := ⟨h₁, g, d, t + 2, os⟩) F₁ N₁ rfl e₂ k₂
  have I₂ : InstAt h₂ x (excObj C t0 none .none) C none := .of_exc0 N₂ (by simp)
  -- its __init__
  refine kxs_method eb.S F₂ X0 N₂ (List.mem_cons_self ..) I₂ T.opq Tsup Tve (by decide) fun u h₃ F₃ N₃ l₃ => ?_
  refine kxs_callWith1 N₃ (List.mem_cons_self ..) (Calls.spliced_cons (wpAny_Constant_str (k := j) (pos := p3) (Calls.spliced_nil ⟨(N₃ _ (List.mem_cons_self ..)).1, ?_⟩)))
  have so_ne : h₁.objs.size ≠ x := fun z => by
    have := l₂ _ (List.mem_cons_self ..)
    exact absurd this (by rw [← z]; exact Nat.lt_irrefl _)
  have u_ne : u ≠ x := fun z => by
    have := l₃ (x, excObj C t0 none .none) (by simp)
    rw [z] at this
    exact absurd this (Nat.lt_irrefl _)
  refine kxs_call F₃ X0 N₃ eb.F Tini (List.mem_cons_self ..) (.tail u_ne (.tail so_ne (.head fun p hp' => absurd hp' (by simp)))) (by show 1 ≤ sizeLine; decide) fun t4 h₄ F₄ N₄ l₄ => ?_
  -- self.f = y
  refine wpAt_of_wpAny ?_
  refine wpAny_execs_cons ?_
  refine plainObj_wpAny_Assign_Attribute ?_
  have X₄ : K.In h₄ := X0.keeps F₄.keep
  have hx₄ : h₄.get? x = some (excO C t4) := (N₄ (x, excObj C t4 none .none) (by simp)).1
  refine wpAny_Name (wpAny_loadName_local rfl hky F₄.ns hyv ?_) hyd
  refine wpAny_Name (wpAny_loadName_local rfl hkself F₄.ns hself ?_) (by decide)
  refine set_plain X₄ (ox := excO C t4) (od := none) ⟨hx₄, rfl, rfl, trivial⟩ T.sat ?_
  refine exc_osaB eb X₄ hx₄ hcl (show refsB tl (.ref C :: bm) = true from hbm) rfl T.noF fun h₅ tk₅ dx k₅ dn dne hx₅ hn₅ => ?_
  have b4 : hp.objs.size ≤ h₄.objs.size := by
    obtain ⟨oL, es, ep, hL, _⟩ := F₄.ns
    exact Nat.le_of_lt (Nat.lt_of_le_of_lt Lge (Heap.lt_size hL))
  refine wpAny_execs_nil (hq h₅ tk₅ dx ⟨fun b o z => k₅ b o (fun e => ?_) (F₄.keep b o z), hsz, ⟨_, _, hx₅, rfl, rfl, rfl, rfl⟩, Nat.le_trans b4 dn, dne, hn₅⟩)
  rw [e, hnone x hsz] at z
  cases z
theorem own_made (T : IniTxt prog K C fI f y) {v : Value} (X : K.In s.heap) (hlim : s.heap.NoLimit) (hG : s.heap.Ns mainGlobals mg) (hS : mg "super" = none) (hB : s.heap.Ns builtinsNs mb) (hBS : mb "super" = some (.type "super")) (hroom : A.depth + 1 < recursionLimit)
    (hb : ∀ (s' : Shared) (x : Addr) (fd : FuncData), K.In s'.heap → (∃ oc od osl, K.lookup fI = some ⟨oc, od, .func fd, osl⟩) → BindsTo s' fd ⟨[.ref x, v], []⟩ [("self", .ref x), (y, v)]) (hy : y ≠ "self") (hyd : (y == ("__debug__" : Str)) = false)
    (hq : ∀ h' tk e d, OwnMade s.heap h' e C d f v → R (.ok (.ret (.ref e))) { s with heap := h', toks := tk }) :
    codeAny (model prog w) A (.call (.ref C) { pos := [v] }) R s := by
  obtain ⟨B, nw, ini, tl, eb, nm, q, N, bs, bm, sn, sb, ab, col, dd, k0, k1, k2, k3, k5, hC, hbm, Tsup, Tve, Tini⟩ := T.cls
  obtain ⟨hp, gs, dr, tk, os⟩ := s
  have kk : ∀ b o, hp.get? b = some o → ((hp.push (kdv_tup [v])).push (excO C hp.objs.size)).get? b = some o := fun b o z => Heap.get?_push_of_some _ (Heap.get?_push_of_some _ z)
  have gx : ((hp.push (kdv_tup [v])).push (excO C hp.objs.size)).get? (hp.objs.size + 1) = some (excO C hp.objs.size) := by heap_get
  refine HandSPX.call_own eb.F (fun Z => refsB_has Z bm hbm) (X _ _ hC) (looks_findIn X T.ini1) (fun self => bind_fn X self T.tfn) (by show 1 ≤ sizeLine; decide) ?_
  refine ini_run (s := ⟨(hp.push (kdv_tup [v])).push (excO C hp.objs.size), gs, dr, tk, os⟩) T X kk (Nat.le_succ _) (hlim.keeps kk) (hG.keeps kk) hS (hB.keeps kk) hBS gx (by show A.depth + 1 < recursionLimit; exact hroom) (fun fd h => hb _ _ fd (X.keeps kk) h) hy hyd fun h' tk' dx M => ⟨rfl, hq h' tk' _ dx M⟩
end
end DL
namespace DL
open PySem L2
theorem relO_one {f z : Str} {v : V} {v' : Value} (r : RelV v v') : RelO (List.lookup z [(f, v)]) (if z = f then some v' else none) := by
  by_cases h : z = f
  · subst h
    rw [if_pos rfl, show List.lookup z [(z, v)] = some v by simp [List.lookup]]
    exact r
  · rw [if_neg h, show List.lookup z [(f, v)] = none by simp [List.lookup, beq_eq_false_iff_ne.mpr h]]
    trivial
/-- what the text says of an own error with one field -/
structure ClsG (X : Cx) (C fI : Addr) (x f y : Str) : Prop where
  T : IniTxt X.prog X.K C fI f y
  gC : X.mg x = some (.ref C)
  kC : PySem.W.keepIn X.K (.ref C) = true
  rs : Raises X (.ref C)
  sup : X.mg "super" = none
  bd : ∀ (s' : Shared) (e : Addr) (v : Value) (fd : FuncData), X.K.In s'.heap → (∃ oc od osl, X.K.lookup fI = some ⟨oc, od, .func fd, osl⟩) → BindsTo s' fd ⟨[.ref e, v], []⟩ [("self", .ref e), (y, v)]
  yS : y ≠ "self"
  yD : (y == ("__debug__" : Str)) = false
theorem boot_super : bootBuiltins "super" = some (.type "super") := by first | rfl | kernel_rfl
section
variable {F : Fx} {X : Cx} {W : WX} {L L1 : List Addr} {H H1 : Hp} {M : Store} {e : DL.Env} {σ : L2.St} {T : Ends} {k : Nat} {C fI : Addr} {x f y : Str}
def tMkF (C : Addr) (f : Str) (ta : TA) : L2.St → Hp → XK → Prop := fun σ H Q => ta σ H fun vs H1 => ∃ v, vs = [v] ∧ ∀ d, H1 d = none → Q (.ref C) (some d) (upd H1 d (.xd [(f, v)]))
theorem pmk_f {a : Expr} {ta : TA} {p pos : Pos} (G : ClsG X C fI x f y) (hr : Room (k + 1) X.A) (ha : PA X [a] ta) (hg : Gl X x := by rfl) (hdb : (x == ("__debug__" : Str)) = false := by decide)
    (he : starEach [a] X.env = (false, eval a X.env) :: starEach [] X.env := by rfl) (hpl : (backTo pos (starEach [] X.env)).any (·.1) = false := by rfl) :
    PMk X (.Call (.Name x p) [a] [] pos) (tMkF C f ta) := by
  intro pins s σ H Q I h
  refine wpAny_Call_Name_kw (ld_glob I hg G.gC ?_ hdb)
  refine PySem.W.callWith_K (h₀ := X.base) I.ok.mod.kin G.kC (thn (ha.run pos pins s σ H _ I h) fun us s1 hh => ?_) he hpl
  obtain ⟨ws, H2, I1, r1, v, ev, q1⟩ := hh
  subst ev
  refine ⟨I1.kIn, ?_⟩
  cases r1 with
  | cons rv rn =>
    rename_i v' us'
    cases rn
    show wpAny _ X.A (call (.ref C) [v']) _ _ _
    obtain ⟨mb, hb1, hb2⟩ := I1.mod.blt
    have lim := I1.nolimit
    have gl := I1.mod.glob.keeps I1.bk
    have bl := hb1.keeps I1.bk
    obtain ⟨hp, gs, dr, tk, os⟩ := s1
    refine wpAny_call (own_made G.T I1.kIn lim gl G.sup bl ((hb2 _ (by decide)).trans boot_super) (by have := hr.dp; omega) (fun s' e fd hk hfd => G.bd s' e v' fd hk hfd) G.yS G.yD fun h' tk' e d Md => ?_)
    show MkP X pins σ Q (.ref e) ⟨h', gs, dr, tk', os⟩
    obtain ⟨oe, fv, hoe, hc, hd, hdat, h1⟩ := Md.obj
    obtain ⟨G', g1, g2⟩ := restrict h' (fun b => decide (b ≠ e))
    have at' : ∀ b, b ≠ e → G'.get? b = h'.get? b := fun b hb => g1 b (decide_eq_true hb)
    have none' : G'.get? e = none := g2 e (by simp)
    have old : ∀ b o, hp.get? b = some o → G'.get? b = some o := fun b o z => (at' b (fun ee => by
      have lt := Heap.lt_size z
      rw [ee] at lt
      exact absurd Md.new (Nat.not_le.mpr lt))).trans (Md.keep b o z)
    have ob : ObjOk X.prog X.w (upd H2 d (.xd [(f, v)])) G' d (.xd [(f, v)]) := ⟨_, Md.ns.at (fun o z => (at' d Md.dne).trans z), fun z => relO_one rv⟩
    have J : L2.Inv X pins σ (upd H2 d (.xd [(f, v)])) ⟨G', gs, dr, tk', os⟩ := I1.laid (t' := tk') old Md.dbig ob
    refine ⟨e, oe, fv, ⟨G', gs, dr, tk', os⟩, _, .ref C, some d, rfl, J, fun b o z => ?_, none', hoe, ⟨hc, hd⟩, hdat, h1, ?_, rfl, I1.bare, G.rs, q1 d (I1.hok.fresh Md.dbig)⟩
    · rcases Classical.em (b = e) with hb | hb
      · have z' : G'.get? b = some o := z
        rw [hb, none'] at z'
        cases z'
      · exact (at' b hb).symm.trans z
    · rw [upd_ne (Ne.symm Md.dne)]
      exact I1.hok.fresh Md.new
def raiseF (c : String) (f : Str) (da : DenE) : DenS := fun e M => thenS (da e M) e fun d M1 => some (.ex c [(f, d)] e, M1)
theorem ds_raiseF {a : Expr} {da : DenE} {p pos pos' : Pos} (c : String) (d : Dc X W (k + 1)) (hC : F.cl c = some C) (G : ClsG X C fI x f y) (ha : DE F X W a da) (hg : Gl X x := by rfl) (hdb : (x == ("__debug__" : Str)) = false := by decide)
    (he : starEach [a] X.env = (false, eval a X.env) :: starEach [] X.env := by rfl) (hpl : (backTo pos (starEach [] X.env)).any (·.1) = false := by rfl) :
    DS F X W (.Raise (some (.Call (.Name x p) [a] [] pos)) none pos') (raiseF c f da) := by
  obtain ⟨t, pa, qa⟩ := da_cons ha da_nil he
  refine ⟨_, ps_raise d.calm d.tk (pmk_f G d.room pa hg hdb he hpl), fun e M L σ H T sr pp => ?_⟩
  refine qa e M L σ H _ sr ?_
  unfold raiseF at pp
  have pp2 : PostS F L H W T (thenS (consA da nilA e M) e fun ds M1 => match ds with
    | [d] => some (.ex c [(f, d)] e, M1)
    | _ => none) := by
    unfold consA nilA
    revert pp
    cases da e M with
    | none => exact id
    | some z =>
      obtain ⟨o, M1⟩ := z
      cases o <;> exact id
  refine post_then (fun ds M1 L1 H1 vs s1 r1 rv q => ?_) pp2
  split at q
  · rename_i d1
    obtain ⟨v, rfl, r2⟩ := reps1 rv
    refine ⟨v, rfl, fun dd hdd => ?_⟩
    have s2 : Stp L1 H1 L1 (upd H1 dd (.xd [(f, v)])) := Stp.alloc hdd
    have r3 := r1.stay s2 (r1.m.alloc hdd)
    exact q L1 _ σ (.ref C) (some dd) s2 r3 ⟨C, hC, rfl, [(f, v)], upd_same, fresh_out r1.m hdd, v, [], rfl, Rep.stay r1.m s2 _ _ r2, rfl⟩
  · exact False.elim q
end
end DL
namespace DL
open PySem L2
/-- what a class must say so that a field of its errors is read from their own dict -/
structure FldC (K : PySem.W.Frag) (C : Addr) (f : Str) : Prop where
  gat : PySem.W.findIn K (.ref C) "__getattribute__" = some (some (.builtin "BaseException.__getattribute__"))
  gtr : PySem.W.findIn K (.ref C) "__getattr__" = some none
  ex : PySem.W.subIn K (.ref C) (.type "BaseException") = some true
  hdi : PySem.W.hasDictIn K C = true
  no : PySem.W.findIn K (.ref C) f = some none
def fldF (okc : String → Bool) (f : Str) : D → Store → RE
  | .exc c fs, M => if okc c = true then (match List.lookup f fs with
    | some d => ok d M
    | none => none) else none
  | _, _ => none
section
variable {F : Fx} {X : Cx} {W : WX} {L L1 : List Addr} {H H1 : Hp} {M : Store} {e : DL.Env} {σ : L2.St} {T : Ends} {k : Nat}
theorem repF_lookup {f : Str} {d : D} : ∀ {fs : List (Str × D)} {ws : List (Str × V)}, RepF F L H fs ws → List.lookup f fs = some d → ∃ v, List.lookup f ws = some v ∧ Rep F L H d v
  | [], _, _, h => by simp at h
  | (g, d') :: fs, _, ⟨v, r, rfl, h1, h2⟩, h => by
    by_cases hg : f = g
    · subst hg
      have e : d' = d := by simpa [List.lookup] using h
      subst e
      exact ⟨v, by simp [List.lookup], h1⟩
    · have ne := beq_eq_false_iff_ne.mpr hg
      have h' : List.lookup f fs = some d := by simpa [List.lookup, ne] using h
      obtain ⟨w, a, b⟩ := repF_lookup h2 h'
      exact ⟨w, by simpa [List.lookup, ne] using a, b⟩
theorem de_fld {x : Expr} {da : DenE} {f : Str} {pos : Pos} (okc : String → Bool) (hok : ∀ c C, okc c = true → F.cl c = some C → FldC F.K C f) (ha : DE F X W x da) (hK : X.K = F.K := by rfl) (hb : attributeBase x f X.env (eval x X.env) = eval x X.env := by rfl) :
    DE F X W (.Attribute x f pos) (unD (fldF okc f) da) := by
  obtain ⟨t, p, q⟩ := ha
  refine ⟨fun σ H Q => t σ H fun v H1 => ∃ (a C x : Addr) (ws : List (Str × V)) (w : V), v = .ref a ∧ ExAt H1 C a (some x) ∧ H1 x = some (.xd ws) ∧ FldC F.K C f ∧ List.lookup f ws = some w ∧ Q w H1, ⟨fun pins s σ H Q I h => ?_⟩, fun e M L σ H Q sr pp => q e M L σ H _ sr (PostG.bind (fun d M1 L1 H1 v s1 r1 rv p2 => ?_) pp)⟩
  · refine attr_of hb (thn (p.run pins s σ H _ I h) fun u s1 hh => ?_)
    obtain ⟨v, H1, I1, rx, a, C, xd, ws, w, ev, hx, hxd, fc, hw, q1⟩ := hh
    subst ev
    have eu : u = Value.ref a := rx
    subst eu
    obtain ⟨φ, h1, h2⟩ := hx
    obtain ⟨hφ, _, _⟩ := (show ObjOk X.prog X.w H1 s1.heap a (.ext φ) from I1.hok a _ h1)
    obtain ⟨oe, vs, g1, g2, g3, g4⟩ := h2 _ hφ
    obtain ⟨mA, hns, hr⟩ := (show ObjOk X.prog X.w H1 s1.heap xd (.xd ws) from I1.hok xd _ hxd)
    obtain ⟨odc, ho, hl⟩ := lookIn_ns hns
    obtain ⟨u2, hu, ru⟩ := RelO.some_of (v := w) (o := mA f) (by rw [← hw]; exact hr f)
    have J : PySem.W.InstAt s1.heap a oe C (some odc) := ⟨g1, g2, by unfold PySem.W.notCls; rw [g4] <;> rfl, by rw [g3]; exact ho⟩
    rw [← hK] at fc
    exact HandSPX.exc_get I1.kIn J fc.gat fc.gtr fc.ex (PySem.W.findObj_own fc.hdi fc.no rfl (by rw [hl, hu])) (handed_of ru) ⟨w, H1, I1.tok _, ru, q1⟩
  · unfold fldF at p2
    split at p2
    · rename_i c fs
      split at p2
      · rename_i hc
        split at p2
        · rename_i d1 hd
          obtain ⟨a, C, dd, rfl, hC, hx, _, hdd⟩ := rv
          cases dd with
          | none =>
            have z : fs = [] := hdd
            rw [z] at hd
            cases hd
          | some xd =>
            obtain ⟨ws, k1, k2, k3⟩ := hdd
            obtain ⟨w, w1, w2⟩ := repF_lookup k3 hd
            exact ⟨a, C, xd, ws, w, rfl, hx, k1, hok c C hc hC, w1, p2.ok r1 w2⟩
        · exact False.elim p2
      · exact False.elim p2
    · exact False.elim p2
end
end DL
namespace DL
open PySem L2
section
variable {F : Fx} {X : Cx} {W : WX} {L L1 : List Addr} {H H1 : Hp} {M : Store} {e : DL.Env} {σ : L2.St} {T : Ends} {k : Nat}
def tupcF : List D → Store → RE
  | [.tup ds], M => ok (.tup ds) M
  | [d], M => match getL M d with
    | some ds => ok (.tup ds) M
    | none => none
  | _, _ => none
def rTupC (K : PySem.W.Frag) : List V → Hp → VK → Prop := fun vs H Q => ∃ x, vs = [x] ∧ kTup K x H Q
theorem callr_tuple : CallR X (.type "tuple") (rTupC X.K) := by
  intro p₀ s₀ σ₀ H₀ vs us Q₀ I₀ r h
  obtain ⟨x, rfl, q⟩ := h
  obtain ⟨u, eu, rx⟩ := vals1 r
  subst eu
  exact rl_tuple p₀ s₀ σ₀ H₀ x u Q₀ I₀ rx q
theorem tupc_ok : CallOk F (rTupC F.K) tupcF := fun ds M L H e σ W vs Q sr rv p => by
  unfold tupcF at p
  split at p
  · rename_i es
    obtain ⟨v, rfl, h1⟩ := reps1 rv
    obtain ⟨a, ws, rfl, q1, q2⟩ := h1
    exact ⟨_, rfl, .inr ⟨a, ws, rfl, (.inl (.inl q1)), p.ok sr ⟨a, ws, rfl, q1, q2⟩⟩⟩
  · obtain ⟨v, rfl, h1⟩ := reps1 rv
    split at p
    · rename_i es hg
      obtain ⟨a, ws, rfl, q1, q2⟩ := getL_sq sr.m hg h1
      exact ⟨_, rfl, .inl ⟨a, ws, rfl, q1, fun q hq => post_tup p sr q2 hq⟩⟩
    · exact False.elim p
  · exact False.elim p
def lstcF : List D → Store → RE
  | [.tup ds], M => ok (.lst ds) M
  | [d], M => match getL M d with
    | some ds => ok (.lst ds) M
    | none => none
  | _, _ => none
def rLstC (K : PySem.W.Frag) : List V → Hp → VK → Prop := fun xs H Q => ∃ p ys, xs = [.ref p] ∧ (SqL K H p ys ∨ SqT K H p ys) ∧ ∀ l, H l = none → Q (.ref l) (upd H l (.lst ys))
theorem callr_list : CallR X (.type "list") (rLstC X.K) := call_list_of
theorem lstc_ok : CallOk F (rLstC F.K) lstcF := fun ds M L H e σ W vs Q sr rv p => by
  unfold lstcF at p
  split at p
  · rename_i es
    obtain ⟨v, rfl, h1⟩ := reps1 rv
    obtain ⟨a, ws, rfl, q1, q2⟩ := h1
    exact ⟨a, ws, rfl, .inr (.inl (.inl q1)), fun q hq => post_lst p sr q2 hq⟩
  · obtain ⟨v, rfl, h1⟩ := reps1 rv
    split at p
    · rename_i es hg
      obtain ⟨a, ws, rfl, q1, q2⟩ := getL_sq sr.m hg h1
      exact ⟨a, ws, rfl, .inl q1, fun q hq => post_lst p sr q2 hq⟩
    · exact False.elim p
  · exact False.elim p
def flD : D → Option V
  | .non => some .non
  | .bl b => some (.bl b)
  | .int i => some (.int i)
  | .str x => some (.str x)
  | _ => none
def flDs : List D → Option (List V)
  | [] => some []
  | d :: ds => match flD d, flDs ds with
    | some v, some vs => some (v :: vs)
    | _, _ => none
def sqD (M : Store) : D → Option (List D)
  | .tup ds => some ds
  | d => getL M d
def inF (n : Bool) : D → D → Store → RE := fun x y M => match flD x, (sqD M y).bind flDs with
  | some v, some vs => ok (.bl (if n then !inV v vs else inV v vs)) M
  | _, _ => none
theorem flD_rep {d : D} {v w : V} (h : flD d = some v) (r : Rep F L H d w) : w = v ∧ flatV v = true := by
  cases d <;> first | (cases h; exact ⟨r, rfl⟩) | cases h
theorem flDs_rep : ∀ {ds : List D} {vs ws : List V}, flDs ds = some vs → Reps F L H ds ws → ws = vs ∧ vs.all flatV = true
  | [], vs, ws, h, r => by
    cases h
    exact ⟨r, rfl⟩
  | d :: ds, vs, ws, h, ⟨v, r, e, h1, h2⟩ => by
    unfold flDs at h
    split at h
    · rename_i v' vs' a b
      cases h
      obtain ⟨e1, f1⟩ := flD_rep a h1
      obtain ⟨e2, f2⟩ := flDs_rep b h2
      subst e1 e2
      exact ⟨e, by rw [List.all_cons, f1, f2]; rfl⟩
    · cases h
theorem sqD_cases {d : D} {ds : List D} (h : sqD M d = some ds) : d = .tup ds ∨ getL M d = some ds := by
  cases d with
  | tup es => exact .inl (congrArg D.tup (Option.some.inj h))
  | _ => exact .inr h
theorem in_ok {n : Bool} : OpOk F (rIn F.K n) (inF n) := fun d1 d2 M L H e σ W v1 v2 Q sr r1 r2 p => by
  unfold inF at p
  split at p
  · rename_i v vs h1 h2
    obtain ⟨e1, f1⟩ := flD_rep h1 r1
    subst e1
    obtain ⟨ds, g1, g2⟩ := Option.bind_eq_some_iff.mp h2
    have key : ∃ a ws, v2 = .ref a ∧ (SqL F.K H a ws ∨ SqT F.K H a ws) ∧ Reps F L H ds ws := by
      rcases sqD_cases g1 with rfl | g
      · obtain ⟨a, ws, q0, q1, q2⟩ := r2
        exact ⟨a, ws, q0, .inr (.inl (.inl q1)), q2⟩
      · obtain ⟨a, ws, q0, q1, q2⟩ := getL_sq sr.m g r2
        exact ⟨a, ws, q0, .inl q1, q2⟩
    obtain ⟨a, ws, q0, q1, q2⟩ := key
    obtain ⟨e2, f2⟩ := flDs_rep g2 q2
    subst e2
    exact ⟨a, ws, q0, q1, f1, f2, p.ok sr rfl⟩
  · exact False.elim p
def mulTF : D → D → Store → RE
  | .tup ds, .int k, M => if 2 ≤ k ∧ k ≤ 1000 ∧ ds.length ≤ 1000 ∧ ds ≠ [] then ok (.tup (List.replicate k.toNat ds).flatten) M else none
  | x, y, M => mulF x y M
theorem mulT_ok : OpOk F (fun x y H Q => rMulD x y H Q ∨ rRepT F.K x y H Q) mulTF := fun d1 d2 M L H e σ W v1 v2 Q sr r1 r2 p => by
  unfold mulTF at p
  split at p
  · rename_i ds k
    split at p
    · rename_i hc
      obtain ⟨a, vs, rfl, q1, q2⟩ := r1
      have e2 : v2 = .int k := r2
      subst e2
      have hl := reps_len q2
      refine .inr ⟨a, k, vs, rfl, rfl, (.inl (.inl q1)), fun z => hc.2.2.2 ?_, hc.1, hc.2.1, by rw [← hl]; exact hc.2.2.1, fun q hq => post_tup p sr (reps_rep q2 _) hq⟩
      rw [z] at hl
      exact List.length_eq_zero_iff.mp hl
    · exact False.elim p
  · exact .inl (mul_ok d1 d2 M L H e σ W v1 v2 Q sr r1 r2 p)
theorem opr_mulT : OpR X (binaryOp .Mult) (fun x y H Q => rMulD x y H Q ∨ rRepT X.K x y H Q) := orR opr_mul op_repT
def chainD (f g : D → D → Store → RE) (da db dc : DenE) : DenE := fun e M => bindE (da e M) fun d1 M1 => bindE (db e M1) fun d2 M2 => bindE (f d1 d2 M2) fun b M3 => match b with
  | .bl true => bindE (dc e M3) fun d3 M4 => g d2 d3 M4
  | .bl false => ok (.bl false) M3
  | _ => none
/-- what tells a truth at once, the store kept -/
def Truths (f : D → D → Store → RE) : Prop := ∀ x y M, f x y M = none ∨ ∃ b : Bool, f x y M = ok (.bl b) M
theorem chain_t {op op' : CmpOp} {r r' : R2} {f g : D → D → Store → RE} {a b c : Expr} {da db dc : DenE} {ta tb tc : TE} (hf : OpOk F r f) (hf' : OpOk F r' g) (tf : Truths f)
    (qa : ∀ (e : DL.Env) (M : Store) (L : List Addr) (σ : L2.St) (H : Hp) (Q : VK), SR F L H M e σ → Post F e L H σ W Q (da e M) → ta σ H Q)
    (qb : ∀ (e : DL.Env) (M : Store) (L : List Addr) (σ : L2.St) (H : Hp) (Q : VK), SR F L H M e σ → Post F e L H σ W Q (db e M) → tb σ H Q)
    (qc : ∀ (e : DL.Env) (M : Store) (L : List Addr) (σ : L2.St) (H : Hp) (Q : VK), SR F L H M e σ → Post F e L H σ W Q (dc e M) → tc σ H Q)
    (e : DL.Env) (M : Store) (L : List Addr) (σ : L2.St) (H : Hp) (Q : VK) (sr : SR F L H M e σ) (p : Post F e L H σ W Q (chainD f g da db dc e M)) : tChain r r' ta tb tc σ H Q := by
  refine qa e M L σ H _ sr (PostG.bind (fun d1 M1 L1 H1 v1 s1 r1 rv1 p1 => ?_) p)
  refine qb e M1 L1 σ H1 _ r1 (PostG.bind (fun d2 M2 L2 H2 v2 s2 r2 rv2 p2 => ?_) p1)
  have rv1' := Rep.stay r1.m s2 _ _ rv1
  refine hf d1 d2 M2 L2 H2 e σ W v1 v2 _ r2 rv1' rv2 ?_
  rcases tf d1 d2 M2 with z | ⟨bb, z⟩
  · rw [z] at p2
    exact False.elim p2
  · rw [z] at p2 ⊢
    intro L3 H3 v3 s3 r3 rv3
    have e3 : v3 = .bl bb := rv3
    subst e3
    refine ⟨bb, rfl, ?_⟩
    have p3 := PostG.go s3 (show Post F e L2 H2 σ W Q (match D.bl bb with
      | .bl true => bindE (dc e M2) fun d3 M4 => g d2 d3 M4
      | .bl false => ok (.bl false) M2
      | _ => none) from p2)
    cases bb with
    | true =>
      simp only [if_true]
      refine qc e M2 L3 σ H3 _ r3 (PostG.bind (fun d3 M4 L4 H4 v4 s4 r4 rv4 p4 => ?_) p3)
      exact hf' d2 d3 M4 L4 H4 e σ W v2 v4 Q r4 (Rep.stay r3.m s4 _ _ (Rep.stay r2.m s3 _ _ rv2)) rv4 p4
    | false =>
      simp only [if_neg (fun z : false = true => Bool.noConfusion z)]
      exact p3.ok r3 rfl
theorem de_chain {op op' : CmpOp} {r r' : R2} {f g : D → D → Store → RE} {a b c : Expr} {da db dc : DenE} {pos : Pos} (hf : OpOk F r f) (ho : OpR X (compareOp op) r) (hf' : OpOk F r' g) (ho' : OpR X (compareOp op') r') (tf : Truths f) (ha : DE F X W a da) (hb : DE F X W b db) (hc : DE F X W c dc)
    (hm : lastMarks [op, op'] [b, c] = false := by with_unfolding_all rfl) : DE F X W (.Compare a [op, op'] [b, c] pos) (chainD f g da db dc) := by
  obtain ⟨ta, pa, qa⟩ := ha
  obtain ⟨tb, pb, qb⟩ := hb
  obtain ⟨tc, pc, qc⟩ := hc
  exact ⟨_, pe_chain ho ho' pa pb pc hm, chain_t (op := op) (op' := op') (a := a) (b := b) (c := c) hf hf' tf qa qb qc⟩
theorem truths_int {g : Int → Int → Bool} : Truths (intF0 fun i j => .bl (g i j)) := fun x y M => by
  unfold intF0
  split
  · exact .inr ⟨_, rfl⟩
  · exact .inl rfl
theorem de_num {x : Str} {i : Int} {t : Tok} {pos : Pos} (hm : X.mg x = some (.int i t)) (hg : Gl X x := by rfl) (hd : (x == ("__debug__" : Str)) = false := by decide) : DE F X W (.Name x pos) (cD (.int i)) :=
  ⟨_, pe_glob (v := .int i) hg hm ⟨t, rfl⟩ hd, fun e M L σ H Q sr p => p.ok sr rfl⟩
end
end DL
namespace DL
open PySem L2
section
variable {F : Fx} {X : Cx} {W : WX} {L L1 : List Addr} {H H1 : Hp} {M : Store} {e : DL.Env} {σ : L2.St} {T : Ends} {k : Nat}
/-- behind the loop: Nx -/
def Fin (F : Fx) (L : List Addr) (H : Hp) (Nx : Hp → Prop) : RD Unit → Prop
  | some (.val _, M') => ∀ (L' : List Addr) (H' : Hp), Stp L H L' H' → SM F L' H' M' → Nx H'
  | _ => False
theorem Fin.go {Nx : Hp → Prop} (s : Stp L H L1 H1) : ∀ {r : RD Unit}, Fin F L H Nx r → Fin F L1 H1 Nx r
  | some (.val _, M'), h => fun L' H' s' m => h L' H' (s.trans s') m
  | some (.exc _ _, _), h => h
  | none, h => h
def canI (F : Fx) (W : WX) (di : DenI) : TI := fun σ H R => ∃ (e : DL.Env) (M : Store) (L : List Addr), SR F L H M e σ ∧ PostG F (fun L' H' (p : DItems) (J : It) => Walk F L' H' J p.1 p.2) e L H σ W R (di e M)
theorem DI.can {tg it : Expr} {di : DenI} (h : DI F X W tg it di) : PI X tg it (canI F W di) := by
  obtain ⟨t, p, q⟩ := h
  exact ⟨fun pins s σ H R I hh => by
    obtain ⟨e, M, L, sr, pp⟩ := hh
    exact p.run pins s σ H R I (q e M L σ H R sr pp)⟩
end
end DL
namespace DL
open PySem L2
/-- the places of a part, and whether it is the whole -/
def prtI (n : Nat) (lo hi st : Option Int) : List Nat :=
  (List.range (Builtin.Slice.slicePlaces (Builtin.Slice.sliceAdjust lo hi (st.getD 1) n).1 (Builtin.Slice.sliceAdjust lo hi (st.getD 1) n).2 (st.getD 1))).map fun (k : Nat) => ((Builtin.Slice.sliceAdjust lo hi (st.getD 1) n).1 + (k : Int) * st.getD 1).toNat
def whole (n : Nat) (lo hi st : Option Int) : Bool := (Builtin.Slice.sliceAdjust lo hi (st.getD 1) n).1 == 0 && st.getD 1 == 1 && Builtin.Slice.slicePlaces (Builtin.Slice.sliceAdjust lo hi (st.getD 1) n).1 (Builtin.Slice.sliceAdjust lo hi (st.getD 1) n).2 (st.getD 1) == n
def prtT {α : Type} (xs : List α) (lo hi st : Option Int) : List α := if whole xs.length lo hi st = true then xs else (prtI xs.length lo hi st).filterMap (xs[·]?)
section
variable {prog : Program} {w : World} {A : Around} {s : Shared} {E : Value → Shared → Prop}
theorem slap {sl : Addr} {vl vu vs : Value} {lo hi st : Option Int} {n : Nat} {Q : Int × Int × Nat → Shared → Prop} (hs : s.heap.IsSliceOf sl vl vu vs) (pl : IsPart vl lo) (pu : IsPart vu hi) (ps : IsPart vs st) (h0 : st.getD 1 ≠ 0)
    (h : Q ((Builtin.Slice.sliceAdjust lo hi (st.getD 1) n).1, st.getD 1, Builtin.Slice.slicePlaces (Builtin.Slice.sliceAdjust lo hi (st.getD 1) n).1 (Builtin.Slice.sliceAdjust lo hi (st.getD 1) n).2 (st.getD 1)) s) :
    wpAny (model prog w) A (Builtin.Slice.sliceApplied (.ref sl) (pure ((n : Nat) : Int))) Q E s := by
  obtain ⟨ox, hox, _, hdx⟩ := id hs
  unfold Builtin.Slice.sliceApplied
  unfold Builtin.Slice.sliceFields
  refine wpAny_bind (wpAny_bind (wpAny_field hox hdx (x := vl) rfl (wpAny_bind (wpAny_field hox hdx (x := vu) rfl (wpAny_bind (wpAny_field hox hdx (x := vs) rfl (wpAny_pure ?_)))))))
  refine wpAny_bind (HT.slicePart_ ps ?_)
  show wpAny _ _ (if (st.getD 1 == 0) = true then _ else _) _ _ s
  rw [if_neg (show ¬ ((st.getD 1 == 0) = true) by simpa using h0)]
  exact wpAny_bind (HT.slicePart_ pl (wpAny_bind (HT.slicePart_ pu (wpAny_bind (wpAny_pure (wpAny_pure h))))))
theorem getItem_tup {t sl : Addr} {items : Array Value} {vl vu vs : Value} {lo hi st : Option Int} {Q : Value → Shared → Prop} (ht : PyProof.Rows.IsTup s.heap t items) (hs : s.heap.IsSliceOf sl vl vu vs) (pl : IsPart vl lo) (pu : IsPart vu hi) (ps : IsPart vs st) (h0 : st.getD 1 ≠ 0)
    (hw : whole items.size lo hi st = true → Q (.ref t) s)
    (h : whole items.size lo hi st = false → Q (.ref s.heap.objs.size) { s with heap := s.heap.push { cls := .type "tuple", data := .seq ((prtI items.size lo hi st).filterMap (items[·]?)).toArray } })
    (hsz : (prtI items.size lo hi st).length ≤ sizeLine) : wpAny (model prog w) A (getItem (.ref t) (.ref sl)) Q E s := by
  have hd : sizeOk (.seq ((prtI items.size lo hi st).filterMap (items[·]?)).toArray) := by
    show ((prtI items.size lo hi st).filterMap (items[·]?)).toArray.size ≤ sizeLine
    rw [List.size_toArray]
    exact Nat.le_trans (List.length_filterMap_le _ _) hsz
  obtain ⟨ox, hox, hcx, _⟩ := id hs
  have hTs : s.TypeIs (.ref sl) "slice" := ⟨ox, hox, hcx⟩
  unfold getItem
  try (with_reducible refine wpAny_holding ?_)
  try (refine wpAny_bind (wpAny_pure ?_))
  refine wpAny_bind (wpAny_sequenceKey (ht.typeIs) (by decide) ?_)
  refine wpAny_bind (wpAny_callSpecial?_slot (name := Str.ofString "__getitem__") ht.typeIs PyProof.Rows.slot_tuple_getitem (wpAny_call_entry PyProof.Rows.slot_tuple_getitem ht.typeIs PyProof.Rows.entry_tuple_getitem ?_ (PyProof.Rows.args_tuple_getitem _ _)))
  show wpAny (model prog w) _ (Builtin.Tuple.tupleItemsOf (.ref t) >>= _) _ _ s
  refine wpAny_bind (PyProof.Rows.tupleItemsOf_ ht (wpAny_bind (wpAny_typeOf hTs ?_)))
  rw [if_pos (by decide)]
  refine wpAny_bind (slap hs pl pu ps h0 ?_)
  cases hz : whole items.size lo hi st with
  | true =>
    have hz' : ((Builtin.Slice.sliceAdjust lo hi (st.getD 1) items.size).1 == 0 && st.getD 1 == 1 && Builtin.Slice.slicePlaces (Builtin.Slice.sliceAdjust lo hi (st.getD 1) items.size).1 (Builtin.Slice.sliceAdjust lo hi (st.getD 1) items.size).2 (st.getD 1) == items.size) = true := hz
    show wpAny _ _ (if ((Builtin.Slice.sliceAdjust lo hi (st.getD 1) items.size).1 == 0 && st.getD 1 == 1 && Builtin.Slice.slicePlaces (Builtin.Slice.sliceAdjust lo hi (st.getD 1) items.size).1 (Builtin.Slice.sliceAdjust lo hi (st.getD 1) items.size).2 (st.getD 1) == items.size) = true then _ else _) _ _ s
    rw [if_pos hz']
    have hh := hw hz
    unfold Builtin.Tuple.tupleIsExact
    refine wpAny_bind (wpAny_bind (wpAny_typeOf ht.typeIs (wpAny_pure ?_)))
    rw [if_pos (by decide)]
    wp_walk
    exact ⟨_, rfl, wpAny_pure hh⟩
  | false =>
    have hz' : ¬ ((Builtin.Slice.sliceAdjust lo hi (st.getD 1) items.size).1 == 0 && st.getD 1 == 1 && Builtin.Slice.slicePlaces (Builtin.Slice.sliceAdjust lo hi (st.getD 1) items.size).1 (Builtin.Slice.sliceAdjust lo hi (st.getD 1) items.size).2 (st.getD 1) == items.size) = true := by
      intro z
      have z2 : whole items.size lo hi st = true := z
      rw [hz] at z2
      cases z2
    show wpAny _ _ (if ((Builtin.Slice.sliceAdjust lo hi (st.getD 1) items.size).1 == 0 && st.getD 1 == 1 && Builtin.Slice.slicePlaces (Builtin.Slice.sliceAdjust lo hi (st.getD 1) items.size).1 (Builtin.Slice.sliceAdjust lo hi (st.getD 1) items.size).2 (st.getD 1) == items.size) = true then _ else _) _ _ s
    rw [if_neg hz']
    have e : ((List.range (Builtin.Slice.slicePlaces (Builtin.Slice.sliceAdjust lo hi (st.getD 1) items.size).1 (Builtin.Slice.sliceAdjust lo hi (st.getD 1) items.size).2 (st.getD 1))).filterMap fun (k : Nat) => items[((Builtin.Slice.sliceAdjust lo hi (st.getD 1) items.size).1 + (k : Int) * st.getD 1).toNat]?) = (prtI items.size lo hi st).filterMap (items[·]?) := by
      unfold prtI
      rw [List.filterMap_map]
      rfl
    rw [e]
    have hh := h hz
    first
      | exact wpAny_bind (m := Builtin.Tuple.tupleExact _) (wpAny_newObj_type (wpAny_pure ⟨_, rfl, wpAny_pure hh⟩) hd)
      | exact wpAny_bind (m := Builtin.Tuple.tupleExact _) (wpAny_newObj_type (wpAny_bind (wpAny_pure (wpAny_pure ⟨_, rfl, wpAny_pure hh⟩))) hd)
      | exact wpAny_bind (wpAny_bind (m := Builtin.Tuple.tupleExact _) (wpAny_newObj_type (wpAny_pure (wpAny_pure ⟨_, rfl, wpAny_pure hh⟩)) hd))
      | exact wpAny_bind (wpAny_bind (m := Builtin.Tuple.tupleExact _) (wpAny_newObj_type (wpAny_pure ⟨_, rfl, wpAny_pure hh⟩) hd))
end
section
variable {F : Fx} {X : Cx} {W : WX} {L L1 : List Addr} {H H1 : Hp} {M : Store} {e : DL.Env} {σ : L2.St} {T : Ends} {k : Nat}
def prtF (d : D) (lo hi st : Option Int) (M : Store) : RE := match d with
  | .tup ds => if st.getD 1 ≠ 0 ∧ (prtI ds.length lo hi st).length ≤ 100000 then ok (.tup (prtT ds lo hi st)) M else none
  | _ => none
def prtD (da : DenE) (dl dh dt : DenO) : DenE := fun e M => bindE (da e M) fun d M1 => bindE (dl e M1) fun l M2 => bindE (dh e M2) fun h M3 => bindE (dt e M3) fun t M4 => prtF d l h t M4
/-- a part of a tuple -/
theorem de_prt {x : Expr} {lo hi st : Option Expr} {da : DenE} {dl dh dt : DenO} {pos p2 : Pos} (ha : DE F X W x da) (hl : DO F X W lo dl) (hh : DO F X W hi dh) (ht : DO F X W st dt) (hK : X.K = F.K := by rfl) : DE F X W (.Subscript x (.Slice lo hi st p2) pos) (prtD da dl dh dt) := by
  obtain ⟨ta, pa, qa⟩ := ha
  obtain ⟨tl, pl, ql⟩ := hl
  obtain ⟨th, ph, qh⟩ := hh
  obtain ⟨tt, pt, qt⟩ := ht
  refine ⟨fun σ H Q => ta σ H fun x H1 => tl σ H1 fun l H2 => th σ H2 fun u H3 => tt σ H3 fun t H4 => ∃ a vs, x = .ref a ∧ SqT X.K H4 a vs ∧ t.getD 1 ≠ 0 ∧ (prtI vs.length l u t).length ≤ 100000 ∧ (whole vs.length l u t = true → Q (.ref a) H4) ∧ (whole vs.length l u t = false → ∀ p, H4 p = none → Q (.ref p) (upd H4 p (.tup ((prtI vs.length l u t).filterMap (vs[·]?))))),
    ⟨fun p₀ s₀ σ₀ H₀ Q₀ I₀ h₀ => ?_⟩, fun e M L σ H Q sr p => ?_⟩
  · refine PyProof.Rows.Subscript_ (thn (pa.run p₀ s₀ σ₀ H₀ _ I₀ h₀) fun v s1 ⟨x1, H1, I1, r1, q1⟩ => ?_)
    refine wpAny_Slice (thn (pl.run p₀ s1 σ₀ H1 _ I1 q1) fun vl s2 ⟨l, H2, I2, pl, q2⟩ => thn (ph.run p₀ s2 σ₀ H2 _ I2 q2) fun vu s3 ⟨u, H3, I3, pu, q3⟩ => ?_)
    refine thn (pt.run p₀ s3 σ₀ H3 _ I3 q3) fun vt s4 ⟨t, H4, I4, pst, q4⟩ => ?_
    obtain ⟨a, vs, rfl, hq, h0, hz0, hx1, hx2⟩ := q4
    have rv : v = Value.ref a := r1
    subst rv
    have I5 : L2.Inv X p₀ σ₀ H4 { s4 with heap := s4.heap.push { cls := .type "slice", data := .fields #[vl, vu, vt] } } := I4.kept (t' := s4.toks) fun b ob z => Heap.get?_push_of_some _ z
    obtain ⟨its, rz, htp, hz⟩ := I5.tuple hq
    have hln : its.toArray.size = vs.length := by rw [List.size_toArray]; exact rz.length.symm
    obtain ⟨ops, hops⟩ : ∃ ops, subscripted (.Slice lo hi st p2) false (.ref a) (.ref s4.heap.objs.size) = operate ops (getItem (.ref a) (.ref s4.heap.objs.size)) := by
      cases st with
      | none => exact ⟨_, rfl⟩
      | some y => exact ⟨_, rfl⟩
    have lz : ((prtI vs.length l u t).filterMap (vs[·]?)).length ≤ sizeLine := Nat.le_trans (List.length_filterMap_le _ _) (Nat.le_trans hz0 (by decide))
    refine PyProof.Rows.tail_any (ops := ops) htp.typeIs PyProof.Rows.slot_tuple_getitem.lookup (getItem_tup htp (Heap.IsSliceOf.new _ vl vu vt) pl pu pst h0 (fun hw => ?_) (fun hw => ?_) (by rw [hln]; exact Nat.le_trans hz0 (by decide))) hops
    · rw [hln] at hw
      exact ⟨.ref a, H4, I5, rfl, hx1 hw⟩
    · rw [hln] at hw ⊢
      have hsz : ({ s4 with heap := s4.heap.push { cls := .type "slice", data := .fields #[vl, vu, vt] } } : Shared).heap.objs.size ≤ _ := Nat.le_refl _
      refine ⟨.ref _, _, I5.laid (o := .tup ((prtI vs.length l u t).filterMap (vs[·]?))) (t' := s4.toks) (fun b ob z => Heap.get?_push_of_some _ z) hsz ⟨lz, _, vals_pick rz _, PyProof.Rows.IsTup.new _ _⟩, rfl, hx2 hw _ (I5.hok.fresh hsz)⟩
  · refine qa e M L σ H _ sr (PostG.bind (fun d1 M1 L1 H1 v1 s1 r1 rv1 q => ?_) p)
    refine ql e M1 L1 σ H1 _ r1 (PostG.bind (fun d2 M2 L2 H2 v2 s2 r2 rv2 q => ?_) q)
    refine qh e M2 L2 σ H2 _ r2 (PostG.bind (fun d3 M3 L3 H3 v3 s3 r3 rv3 q => ?_) q)
    refine qt e M3 L3 σ H3 _ r3 (PostG.bind (fun d4 M4 L4 H4 v4 s4 r4 rv4 q => ?_) q)
    subst rv2 rv3 rv4
    have rv := Rep.stay r3.m s4 d1 v1 (Rep.stay r2.m s3 d1 v1 (Rep.stay r1.m s2 d1 v1 rv1))
    unfold prtF at q
    split at q
    · rename_i ds
      obtain ⟨a, vs, rfl, a2, a3⟩ := rv
      split at q
      · rename_i hc
        have hl := reps_len a3
        refine ⟨a, vs, rfl, .inl (.inl a2), hc.1, by rw [← hl]; exact hc.2, fun hw => ?_, fun hw p' hp => ?_⟩
        · unfold prtT at q
          rw [← hl] at hw
          rw [if_pos hw] at q
          exact q.ok r4 ⟨a, vs, rfl, a2, a3⟩
        · unfold prtT at q
          rw [← hl] at hw ⊢
          rw [if_neg (by rw [hw]; exact fun z => Bool.noConfusion z)] at q
          exact post_tup q r4 (reps_pick a3 _) hp
      · exact False.elim q
    · exact False.elim q
end
end DL
namespace DL
open PySem L2
def clsUs (F : Fx) : List D → Option (List Value)
  | [] => some []
  | t :: ts => match clsU F t, clsUs F ts with
    | some u, some us => some (u :: us)
    | _, _ => none
def anyS (sub : String → D → Option Bool) (c : String) : List D → Option Bool
  | [] => some false
  | t :: ts => match sub c t, anyS sub c ts with
    | some b, some r => some (b || r)
    | _, _ => none
def isiB (sub : String → D → Option Bool) : List D → Store → RE
  | [.exc c fs, .tup (t :: ts)], M => match anyS sub c (t :: ts) with
    | some b => ok (.bl b) M
    | none => none
  | ds, M => isiA sub ds M
def rIsiXT (K : PySem.W.Frag) : List V → Hp → VK → Prop := fun vs H Q => ∃ (a tp C : Addr) (cs : List V) (us : List Value) (b : Bool), vs = [.ref a, .ref tp] ∧ SqT K H tp cs ∧ Paired ClsV cs us ∧ (∃ dd, ExAt H C a dd ∧ ∀ x, dd = some x → ∃ ws, H x = some (.xd ws)) ∧ L2.ExcC K C ∧ PySem.W.kitAny K (.ref C) us = some b ∧ Q (.bl b) H
section
variable {F : Fx} {X : Cx} {W : WX} {L L1 : List Addr} {H H1 : Hp} {M : Store} {e : DL.Env} {σ : L2.St} {T : Ends} {k : Nat}
theorem callr_isiXT : CallR X (.builtin "isinstance") (rIsiXT X.K) := by
  intro p₀ s₀ σ₀ H₀ vs us Q₀ I₀ r h
  obtain ⟨a, tp, C, cs, ws, b, rfl, hT, hp, hx, ec, hk, q⟩ := h
  obtain ⟨u1, u2, eu, r1, r2⟩ := vals2 r
  subst eu
  cases r1
  cases r2
  obtain ⟨dd, ⟨φ, h1, h2⟩, hdd⟩ := hx
  obtain ⟨hφ, _, _⟩ := (show ObjOk X.prog X.w H₀ s₀.heap a (.ext φ) from I₀.hok a _ h1)
  obtain ⟨oe, vv, g1, g2, g3, g4⟩ := h2 _ hφ
  have J : ∃ od, PySem.W.InstAt s₀.heap a oe C od := by
    obtain ⟨ocl, od, oda, osl⟩ := oe
    dsimp only at g2 g3 g4
    subst g2 g3 g4
    cases od with
    | none => exact ⟨none, g1, rfl, rfl, trivial⟩
    | some x =>
      obtain ⟨ws, hx⟩ := hdd x rfl
      obtain ⟨mA, ⟨ob, _, _, hob, _⟩, _⟩ := (show ObjOk X.prog X.w H₀ s₀.heap x (.xd ws) from I₀.hok x _ hx)
      exact ⟨some ob, g1, rfl, rfl, hob⟩
  obtain ⟨od, J⟩ := J
  obtain ⟨its, rv, ⟨o, o1, o2, n, o3⟩, _⟩ := I₀.tuple hT
  have e3 := ClsV.all hp rv
  subst e3
  obtain ⟨ocl, odd, odt, osl⟩ := o
  simp only at o2 o3
  subst o2 o3
  exact PySem.W.kia_tup (exc_kit ec) I₀.kIn J o1 hk (fun z => nomatch z) fun tk => ⟨.bl b, H₀, I₀.kept (t' := tk) fun _ _ z => z, rfl, q⟩
theorem clsV_of {t : D} {u : Value} {v : V} (h : clsU F t = some u) (r : Rep F L H t v) : ClsV v u := by
  cases t with
  | ty S =>
    have z : v = .ty S := r
    cases Option.some.inj h
    rw [z]
    exact .ty S
  | cls c2 =>
    obtain ⟨C2, rfl, hC2⟩ := r
    have z : (F.cl c2).map Value.ref = some u := h
    rw [hC2] at z
    cases Option.some.inj z
    exact .own C2
  | _ => cases h
theorem paired_of : ∀ {ts : List D} {us : List Value} {cs : List V}, clsUs F ts = some us → Reps F L H ts cs → Paired ClsV cs us
  | [], us, cs, h, r => by
    cases h
    have z : cs = [] := r
    rw [z]
    exact .nil
  | t :: ts, us, cs, h, ⟨v, r, e, h1, h2⟩ => by
    unfold clsUs at h
    split at h
    · rename_i u us' a b
      cases h
      subst e
      exact .cons (clsV_of a h1) (paired_of b h2)
    · cases h
theorem anyS_kit {sub : String → D → Option Bool} {c : String} {C : Addr} (hs : ∀ c t b C u, F.cl c = some C → clsU F t = some u → sub c t = some b → L2.ExcC F.K C ∧ PySem.W.kitOne F.K (.ref C) u = some b) (hC : F.cl c = some C) (ec : L2.ExcC F.K C) :
    ∀ {ts : List D} {us : List Value} {b : Bool}, clsUs F ts = some us → anyS sub c ts = some b → PySem.W.kitAny F.K (.ref C) us = some b
  | [], us, b, h, g => by
    cases h
    cases g
    rfl
  | t :: ts, us, b, h, g => by
    unfold clsUs at h
    split at h
    · rename_i u us' h1 h2
      cases h
      unfold anyS at g
      split at g
      · rename_i b1 r1 z1 z2
        cases g
        have ih := anyS_kit hs hC ec h2 z2
        unfold PySem.W.kitAny
        rw [(hs c t b1 C u hC h1 z1).2]
        cases b1 with
        | true => rfl
        | false => exact ih
      · cases g
    · cases h
theorem clsUs_of {sub : String → D → Option Bool} {c : String} (hu : ∀ c t b, sub c t = some b → ∃ u, clsU F t = some u) : ∀ {ts : List D} {b : Bool}, anyS sub c ts = some b → ∃ us, clsUs F ts = some us
  | [], _, _ => ⟨[], rfl⟩
  | t :: ts, b, h => by
    unfold anyS at h
    split at h
    · rename_i b1 r1 z1 z2
      obtain ⟨u, e1⟩ := hu c t b1 z1
      obtain ⟨us, e2⟩ := clsUs_of hu z2
      exact ⟨u :: us, by unfold clsUs; rw [e1, e2]⟩
    · cases h
theorem isiB_ok {sub : String → D → Option Bool} (hs : ∀ c t b C u, F.cl c = some C → clsU F t = some u → sub c t = some b → L2.ExcC F.K C ∧ PySem.W.kitOne F.K (.ref C) u = some b) (hu : ∀ c t b, sub c t = some b → ∃ u, clsU F t = some u) :
    CallOk F (fun vs H Q => rIsiXT F.K vs H Q ∨ (rIsiX F.K vs H Q ∨ rIsi F.K vs H Q)) (isiB sub) := fun ds M L H e σ W vs Q sr rv p => by
  unfold isiB at p
  split at p
  · rename_i c fs t ts
    split at p
    · rename_i b hb
      obtain ⟨v, v', rfl, h1, h2⟩ := reps2 rv
      obtain ⟨a, C, dd, rfl, hC, hx, _, hdd⟩ := h1
      obtain ⟨tp, cs, rfl, q1, q2⟩ := h2
      have hd0 : ∀ x, dd = some x → ∃ ws, H x = some (.xd ws) := fun x z => by
        subst z
        obtain ⟨ws, q1, _⟩ := hdd
        exact ⟨ws, q1⟩
      obtain ⟨us, hus⟩ := clsUs_of (F := F) hu hb
      have ec : L2.ExcC F.K C := by
        have hb2 := hb
        unfold anyS at hb2
        split at hb2
        · rename_i b1 r1 z1 z2
          obtain ⟨u, e1⟩ := hu c _ b1 z1
          exact (hs c _ b1 C u hC e1 z1).1
        · cases hb2
      exact .inl ⟨a, tp, C, cs, us, b, rfl, (.inl (.inl q1)), paired_of hus q2, ⟨dd, hx, hd0⟩, ec, anyS_kit hs hC ec hus hb, p.ok sr rfl⟩
    · exact False.elim p
  · exact .inr (isiA_ok hs hu _ M L H e σ W vs Q sr rv p)
end
end DL
namespace DL
open PySem L2
def cntV (x : V) (xs : List V) : Nat := xs.countP fun y => eqV y x
def rCntV (K : PySem.W.Frag) : V → List V → Hp → VK → Prop := fun x xs H Q => ∃ (p : Addr) (ys : List V) (y : V), x = .ref p ∧ xs = [y] ∧ SqL K H p ys ∧ flatV y = true ∧ ys.all flatV = true ∧ Q (.int (cntV y ys : Nat)) H
theorem count_eqU {x : V} : ∀ {xs : List V} {us : List Value}, Vals xs us → xs.all flatV = true → us.countP (eqU x) = xs.countP fun y => eqV y x
  | _, _, .nil, _ => rfl
  | y0 :: ys, u0 :: vs, .cons r0 t0, f0 => by
    have f1 := f0
    rw [List.all_cons, Bool.and_eq_true] at f1
    rw [List.countP_cons, List.countP_cons, eqU_of r0 f1.1, count_eqU t0 f1.2]
section
variable {F : Fx} {X : Cx} {W : WX} {L L1 : List Addr} {H H1 : Hp} {M : Store} {e : DL.Env} {σ : L2.St} {T : Ends} {k : Nat}
theorem mt_cntV : MtR X "list.count" (rCntV X.K) := by
  intro pins s σ H x xs v us Q I rx rxs hh
  obtain ⟨p, ys, y, rfl, rfl, hs, fy, fs, q⟩ := hh
  cases rx
  obtain ⟨u, rfl, ru⟩ := vals1 (rxs)
  obtain ⟨its, rv, ⟨⟨cls, dd, data, sl⟩, n, ho, hc, _, hd⟩, _⟩ := I.list hs
  simp only at hc hd
  subst hc hd
  refine call_meets PySem.F.slot_list_count ⟨_, ho, rfl⟩ PySem.F.entry_list_count (PySem.F.args_list_count_2 _ _) (SeqAt.list_countAt p its.toArray n dd sl u (eqU y)) ⟨ho, fun w hw => mem_eqAt ru fy rv fs w (by simpa using hw), ?_⟩
  have ec : its.toArray.toList.countP (eqU y) = cntV y ys := count_eqU rv fs
  refine ⟨.int (cntV y ys : Nat), H, I.tok _, ⟨s.toks, ?_⟩, q⟩
  show Value.int ((its.toArray.toList.countP (eqU y) : Nat) : Int) s.toks = Value.int ((cntV y ys : Nat) : Int) s.toks
  rw [ec]
def cntF (n : Nat) : D → Store → RE := fun y M => match flD y, (getL M (.loc n)).bind flDs with
  | some v, some vs => ok (.int (cntV v vs : Nat)) M
  | _, _ => none
/-- x.count(y), x an own list -/
def cntD (dob da : DenE) : DenE := fun e M => bindE (dob e M) fun o M1 => match o with
  | .loc n => if isL M1 n = true then bindE (da e M1) (cntF n) else none
  | _ => none
theorem de_cnt {o y : Expr} {dob da : DenE} {apos cpos : Pos} (ho : DE F X W o dob) (ha : DE F X W y da) (hb : attributeBase o "count" X.env (eval o X.env) = eval o X.env := by rfl)
    (hw : ((backTo cpos (starEach (y :: []) X.env)).all (fun x => !x.1) && (backToKw cpos (keywordEach [] X.env)).all (fun x => x.1.isSome) && decide ((y :: ([] : List Expr)).length + ([] : List Keyword).length + (if ([] : List Keyword).isEmpty then 0 else 1) < 30)) = true := by rfl)
    (hl : (apos.endLine == cpos.line) = true := by rfl) (h2 : starEach (y :: []) X.env = (false, eval y X.env) :: starEach [] X.env := by rfl) (hpl : (backTo cpos (starEach [] X.env)).any (·.1) = false := by rfl) (hK : X.K = F.K := by rfl) :
    DE F X W (.Call (.Attribute o "count" apos) [y] [] cpos) (cntD dob da) := by
  obtain ⟨to, p1, q1⟩ := ho
  obtain ⟨ta, p2, q2⟩ := da_cons ha da_nil h2
  refine ⟨_, pe_bm PySem.F.plainAttrs_list PySem.F.slot_list_count PySem.F.type_list_count mt_cntV p1 p2 hb hw hl h2 hpl, fun e M L σ H Q sr p => q1 e M L σ H _ sr (PostG.bind (fun d1 M1 L1 H1 v1 s1 r1 rv1 pq => ?_) p)⟩
  split at pq
  · rename_i n
    have rv1' := rv1
    obtain ⟨a, rfl, ha'⟩ := rv1
    split at pq
    rotate_left
    · exact False.elim pq
    rename_i hk
    obtain ⟨ws, hw'⟩ := r1.m.lst ha' hk
    refine ⟨.inl ⟨rfl, ws, .inl (.inl hw')⟩, q2 e M1 L1 σ H1 _ r1 ?_⟩
    have pq2 : PostA F e L1 H1 σ W (fun vs H2 => rCntV X.K (.ref a) vs H2 Q) (consA da nilA e M1) := by
      refine PostG.bind (rq := Rep F) (P := Q) (f := fun ds M2 => match ds with | [y] => cntF n y M2 | _ => none) (fun ds M2 L2 H2 vs s2 r2 rvs q3 => ?_) ?_
      · split at q3
        · rename_i y2
          obtain ⟨v2, rfl, rv2⟩ := reps1 rvs
          unfold cntF at q3
          split at q3
          · rename_i v vv h1 h2
            obtain ⟨e1, f1⟩ := flD_rep h1 rv2
            subst e1
            obtain ⟨ds, g1, g2⟩ := Option.bind_eq_some_iff.mp h2
            obtain ⟨b, zs, q0, q1, q2⟩ := getL_sq r2.m g1 (Rep.stay r1.m s2 _ _ rv1')
            cases q0
            obtain ⟨e2, f2⟩ := flDs_rep g2 q2
            subst e2
            exact ⟨a, _, _, rfl, rfl, by rw [hK]; exact q1, f1, f2, q3.ok r2 rfl⟩
          · exact False.elim q3
        · exact False.elim q3
      · have ee : bindE (consA da nilA e M1) (fun ds M2 => match ds with | [y] => cntF n y M2 | _ => none) = bindE (da e M1) (cntF n) := by
          unfold consA nilA
          cases da e M1 with
          | none => rfl
          | some z =>
            obtain ⟨o, M2⟩ := z
            cases o <;> rfl
        rw [ee]
        exact pq
    exact pq2
  · exact False.elim pq
def ownAddS (i : Nat) (da db : DenE) : DenS := fun e M => thenS (da e M) e fun d1 M1 => thenS (db e M1) e fun d2 M2 => match getW M2 d1, getW M2 d2 with
  | some a, some b => if a.length + b.length ≤ 100000 then some (.nx (e.set i (some (.loc M2.length))), M2 ++ [.lst (a ++ b)]) else none
  | _, _ => none
theorem ds_ownAdd (i : Nat) {x : Str} {a b : Expr} {da db : DenE} {p2 pos pos' : Pos} (hN : X.N.Nodup) (ha : DE F X W a da) (hb : DE F X W b db) (hi : X.N[i]? = some x := by rfl) (hx : Loc X.env.scope x := by first | exact Or.inl rfl | exact Or.inr rfl) (hs : swapsWith (.BinOp a .Add b p2) (some (.Name x pos')) pos.line X.env = pure false := by rfl)
    (hf : X.fn x = true ∨ X.env.scope.names.lookup x = some .local := by first | exact .inl rfl | exact .inr rfl) : DS F X W (.Assign [.Name x pos'] (.BinOp a .Add b p2) pos) (ownAddS i da db) := by
  obtain ⟨ta, p1, q1⟩ := ha
  obtain ⟨tb, p2, q2⟩ := hb
  refine ⟨_, ps_set hN hi hx (pe_op op_cat p1 p2) hs hf, fun e M L σ H T sr pp => q1 e M L σ H _ sr (post_then (fun d1 M1 L1 H1 v1 s1 r1 rv1 q => ?_) pp)⟩
  refine q2 e M1 L1 σ H1 _ r1 (post_then (fun d2 M2 L2 H2 v2 s2 r2 rv2 q => ?_) q)
  split at q
  · rename_i xs ys h1 h2
    obtain ⟨a, vs, rfl, a2, a3⟩ := getW_lst r2.m h1 (Rep.stay r1.m s2 d1 v1 rv1)
    obtain ⟨b, ws, rfl, b2, b3⟩ := getW_lst r2.m h2 rv2
    split at q
    · rename_i hz
      have l1 := reps_len a3
      have l2 := reps_len b3
      refine ⟨a, b, vs, ws, rfl, rfl, a2, b2, by rw [← l1, ← l2]; exact sz_ok hz, fun p' hp => ?_⟩
      obtain ⟨m3, s3⟩ := SM.own r2.m hp (reps_app a3 b3)
      have r3 := r2.stay s3 m3
      refine q _ _ _ s3 (r3.set i ⟨p', rfl, ?_⟩)
      rw [← r2.m.len, List.getElem?_append_right (Nat.le_refl _), Nat.sub_self]
      rfl
    · exact False.elim q
  · exact False.elim q
def parOwnS (i j : Nat) (da : DenE) (dr : DenA) : DenS := fun e M => thenS (da e M) e fun d M1 => thenS (dr e M1) e fun ds M2 => if ds.length ≤ 100000 then some (.nx ((e.set i (some d)).set j (some (.loc M2.length))), M2 ++ [.lst ds]) else none
theorem ds_parOwn (i j : Nat) {x y : Str} {a : Expr} {bs : List Expr} {da : DenE} {dr : DenA} {px py pt pb pos : Pos} {kt k2 pt2} (hc : X.calm = true) (hN : X.N.Nodup) (ha : DE F X W a da) (hb : DA F X W bs dr) (hi : X.N[i]? = some x := by rfl) (hj : X.N[j]? = some y := by rfl) (hij : i ≠ j := by decide)
    (hx : X.env.scope.names.lookup x = some .local := by rfl) (hy : X.env.scope.names.lookup y = some .local := by rfl) (hw : swappedStores [.Tuple [.Name x px, .Name y py] kt pt] (.Tuple [a, .List bs pb] k2 pt2) X.env = pure (some [x, y]) := by rfl)
    (hs : swapsWithSole [.Tuple [.Name x px, .Name y py] kt pt] (.Tuple [a, .List bs pb] k2 pt2) pos.line X.env = pure false := by rfl) (h1 : starEach (a :: [.List bs pb]) X.env = (false, eval a X.env) :: starEach [.List bs pb] X.env := by rfl) (h2 : starEach (.List bs pb :: []) X.env = (false, eval (.List bs pb) X.env) :: starEach [] X.env := by rfl) :
    DS F X W (.Assign [.Tuple [.Name x px, .Name y py] kt pt] (.Tuple [a, .List bs pb] k2 pt2) pos) (parOwnS i j da dr) := by
  obtain ⟨ta, p1, q1⟩ := ha
  obtain ⟨tb, p2, q2⟩ := hb
  refine ⟨_, ps_par hc hN hi hj hij hx hy (pa_cons p1 (pa_cons (pe_lst p2) pa_nil h2) h1) hw hs, fun e M L σ H T sr pp => q1 e M L σ H _ sr (post_then (fun d M1 L1 H1 v s1 r1 rv q => ?_) pp)⟩
  refine q2 e M1 L1 σ H1 _ r1 (post_then (fun ds M2 L2 H2 vs s2 r2 rv2 q => ?_) q)
  split at q
  · rename_i hl
    refine ⟨by rw [← reps_len rv2]; exact sz_ok hl, fun p' hp => ?_⟩
    obtain ⟨m3, s3⟩ := SM.own r2.m hp rv2
    have r3 := r2.stay s3 m3
    refine ⟨v, .ref p', rfl, q _ _ _ s3 ((r3.set i (Rep.stay r2.m s3 d v (Rep.stay r1.m s2 d v rv))).set j ⟨p', rfl, ?_⟩)⟩
    rw [← r2.m.len, List.getElem?_append_right (Nat.le_refl _), Nat.sub_self]
    rfl
  · exact False.elim q
def DSet (F : Fx) (X : Cx) (W : WX) (i : Nat) (st : Stmt) (da : DenE) : Prop :=
  ∃ t, PS X st (tAsg t (gName i)) ∧ ∀ (e : DL.Env) (M : Store) (L : List Addr) (σ : L2.St) (H : Hp) (Q : VK), SR F L H M e σ → Post F e L H σ W Q (da e M) → t σ H Q
theorem DSet.ds {i : Nat} {st : Stmt} {da : DenE} (h : DSet F X W i st da) : DS F X W st (asgS i da) := by
  obtain ⟨t, p, q⟩ := h
  refine ⟨_, p, fun e M L σ H T sr pp => q e M L σ H _ sr (post_then (fun d M1 L1 H1 v s1 r1 rv q2 => ?_) pp)⟩
  exact q2 L1 H1 _ (Stp.refl L1 H1) (r1.set i rv)
theorem DSet.cut {i : Nat} {st : Stmt} {da : DenE} (h : DSet F X W i st da) : DSet F X W i st (cutE da) := by
  obtain ⟨t, p, q⟩ := h
  exact ⟨t, p, fun e M L σ H Q sr pp => q e M L σ H Q sr (post_cut sr pp)⟩
theorem dset_comp (i : Nat) {y : Str} {py spos : Pos} {elt tg iter : Expr} {ifs : List Expr} {scope : Scope} {own : List (Str × Nat)} {pos : Pos} {di : DenI} {g : TG} {set : D → DL.Env → Option DL.Env} {dt de : DenE} (d : Dc X W k) (hN : X.N.Nodup) (hi : DI F X W tg iter di) (bo : BlkOk X.N X.env.scope scope own)
    (hg : ∀ (s : Shared) (H : Hp) (C : Addr) (cl : List (Str × Addr)) (fp : List Addr), PG (BX X scope s H C cl fp) tg g) (hgo : TgOk F (own.map (·.2)) g set)
    (ht : ∀ (s : Shared) (H : Hp) (C : Addr) (cl : List (Str × Addr)) (fp : List Addr), Dc (BX X scope s H C cl fp) W0 k → PTs (BX X scope s H C cl fp) ifs (canT F W0 dt))
    (he : ∀ (s : Shared) (H : Hp) (C : Addr) (cl : List (Str × Addr)) (fp : List Addr), Dc (BX X scope s H C cl fp) W0 k → DE F (BX X scope s H C cl fp) W0 elt de)
    (hk : X.env.scope.kind = .function := by rfl) (hy : X.N[i]? = some y := by rfl) (hyl : X.env.scope.names.lookup y = some .local := by rfl) (hl : (py.line == pos.line) = true := by rfl) (ha : (scope.names.any fun (n, k) => n == y && (k == .local || k == .cell)) = false := by rfl) (hs : ∀ x, foldedSetIterable iter X.env x = pure x := by intro _; rfl) :
    DSet F X W i (.Assign [.Name y py] (.ListComp elt [⟨tg, iter, ifs, 0⟩] scope pos) spos) (compD set dt de (own.map (·.2)) di) := by
  obtain ⟨wi, pi, qi⟩ := hi
  exact ⟨_, ps_setLc d.calm hN hy hyl (sw_true hk hyl hl ha) pi bo hg (fun s H C cl fp => ht s H C cl fp d.blk) (fun s H C cl fp => (he s H C cl fp d.blk).can) hs, comp_t qi hgo⟩
def slpF (d : D) (lo hi st : Option Int) (M : Store) : RE := match d with
  | .tup ds => prtF (.tup ds) lo hi st M
  | d => slcF d lo hi st M
def slpD (da : DenE) (dl dh dt : DenO) : DenE := fun e M => bindE (da e M) fun d M1 => bindE (dl e M1) fun l M2 => bindE (dh e M2) fun h M3 => bindE (dt e M3) fun t M4 => slpF d l h t M4
theorem slp_or {da : DenE} {dl dh dt : DenO} : slpD da dl dh dt e M = slD da dl dh dt e M ∨ slpD da dl dh dt e M = prtD da dl dh dt e M := by
  unfold slpD slD prtD
  cases da e M with
  | none => exact .inl rfl
  | some z =>
    obtain ⟨o, M1⟩ := z
    cases o with
    | exc c fs => exact .inl rfl
    | val d =>
      cases d with
      | tup ds => exact .inr rfl
      | _ => exact .inl rfl
theorem de_slp {x : Expr} {lo hi st : Option Expr} {da : DenE} {dl dh dt : DenO} {pos p2 : Pos} (ha : DE F X W x da) (hl : DO F X W lo dl) (hh : DO F X W hi dh) (ht : DO F X W st dt) (hK : X.K = F.K := by rfl) : DE F X W (.Subscript x (.Slice lo hi st p2) pos) (slpD da dl dh dt) := by
  obtain ⟨t1, p1, q1⟩ := de_sl (pos := pos) (p2 := p2) ha hl hh ht hK
  obtain ⟨t2, p2, q2⟩ := de_prt (pos := pos) (p2 := p2) ha hl hh ht hK
  refine ⟨fun σ H Q => t1 σ H Q ∨ t2 σ H Q, ⟨fun pins s σ H Q I h => ?_⟩, fun e M L σ H Q sr pp => ?_⟩
  · rcases h with h | h
    · exact p1.run pins s σ H Q I h
    · exact p2.run pins s σ H Q I h
  · rcases slp_or (da := da) (dl := dl) (dh := dh) (dt := dt) (e := e) (M := M) with z | z
    · rw [z] at pp
      exact .inl (q1 e M L σ H Q sr pp)
    · rw [z] at pp
      exact .inr (q2 e M L σ H Q sr pp)
end
end DL
namespace DL
open PySem L2
section
variable {F : Fx} {X : Cx} {W : WX} {L L1 : List Addr} {H H1 : Hp} {M : Store} {e : DL.Env} {σ : L2.St} {k : Nat}
theorem de_lamC {x a : Str} {g c P : Addr} {fd : FuncData} {st : Stmt} {Ng : List Str} {n : Nat} {params : Arguments} {body : Expr} {scope : Scope} {p lpos pos : Pos} {db : DenE} {gS : D → (Store → RE) → DenS} {gden : (Store → RE) → Store → RE}
    (d : Dc X W (k + 3)) (hm : X.mg x = some (.ref g)) (Fg : Fun X.K x x st g fd) (hb : Binds X.K fd [a] []) (Sg : FnScope Ng [a] (defScope st)) (hn : Ng.length = n)
    (TB : LamX.TabB X.base X.mg c P) (hcode : X.env.code = .ref c) {qual : Str} (hq : X.env.qual = qual) (hmT : (P, qual ++ "<lambda>") ∈ F.T) (hu : ∀ y ∈ F.T, y.1 = P → y.2 = qual ++ "<lambda>") (Ls : LamX.LamS X.env.scope scope)
    (hbody : ∀ (A : Around) (outer : List PySem.Env) (s : Shared) (H : Hp) (E : XK) (f c' : Addr), Dc (LamX.lamCx X A outer s H E scope f c') (fun cls d _ H => E cls d H) k → DE F (LamX.lamCx X A outer s H E scope f c') (fun cls d _ H => E cls d H) body db)
    (hG : ∀ (cdg : Value) (s : Shared) (H : Hp) (cl : D) (cden : Store → RE), Dc (ZCx X Ng x (defScope st) g cdg s H) (fun cls d _ H => E0 cls d H) (k + 2) →
      (∀ (W' : WX) (pn : List (Addr × Obj)) (xe : Value → Shared → Prop) (p1 p2 : Pos), Dc ((ZCx X Ng x (defScope st) g cdg s H).tr pn xe) W' (k + 2) → DE F ((ZCx X Ng x (defScope st) g cdg s H).tr pn xe) W' (.Call (.Name a p1) [] [] p2) (callC 0 cl cden)) →
      DSs F (ZCx X Ng x (defScope st) g cdg s H) (fun cls d _ H => E0 cls d H) (defBody st) (gS cl cden))
    (hden : ∀ (cl : D) (cden : Store → RE) (M : Store), gden cden M = none ∨ cutR M (ofBody n (gS cl cden) [cl] M) = gden cden M)
    (hbind : ∀ (qn : Str) (cells : List (Str × Addr)) (pmv cv ctv : Value), bindArgs (PySem.W.kla_fn "<lambda>" qn params body scope cells pmv cv ctv) ⟨[], []⟩ = pure [])
    (hK : X.K = F.K := by rfl) (hg : Gl X x := by rfl) (hNg : Ng[0]? = some a := by rfl) (hva : Vis (defScope st) a := by first | exact Or.inl rfl | exact Or.inr (Or.inl rfl)) (hdef : defaultsOf params X.env = ([], []) := by rfl)
    (hdb : (x == ("__debug__" : Str)) = false := by decide) (hd1 : (a == ("__debug__" : Str)) = false := by decide) (hd2 : (a == ("__classdict__" : Str)) = false := by decide) :
    DE F X W (.Call (.Name x p) [.Lambda params body scope lpos] [] pos) (fun e M => valOnly (gden (fun M' => db e M') M)) := by
  subst hq
  refine ⟨fun σ H Q => ∃ (e : DL.Env) (M : Store) (L : List Addr), SR F L H M e σ ∧ Post F e L H σ W Q (valOnly (gden (fun M' => db e M') M)), ⟨fun p₀ s₀ σ H Q I₀ h₀ => ?_⟩, fun e M L σ H Q sr pp => ⟨e, M, L, sr, pp⟩⟩
  obtain ⟨e, M, L, sr, pp⟩ := h₀
  refine wpAny_Call_Name_kw (ld_glob I₀ hg hm ?_ hdb)
  refine PySem.W.callWith_K (h₀ := X.base) I₀.ok.mod.kin Fg.kp ?_ (by rfl) (by rfl)
  show wpAny _ _ (spliced ((false, eval (.Lambda params body scope lpos) X.env) :: backTo pos (starEach [] X.env))) _ _ s₀
  refine Calls.spliced_cons (LamX.lam_make2 I₀ TB hcode hmT hu sr.m.tbs hdef (Ls.has I₀.ok) fun f c' pm ctv H1 s1 I1 eN T1 hf hfn hfr hco => ?_)
  refine Calls.spliced_nil (And.intro I1.kIn ?_)
  obtain ⟨stp1, m1⟩ := stp_extn sr.m eN T1
  have sr1 : SR F L H1 M e σ := sr.stay stp1 m1
  obtain ⟨oc, od, kV, doc, pmg, an, cdv, ct, osl, hfd, lk, hcd⟩ := Fg.ex
  subst hfd
  obtain ⟨cvs, hc1, hc2⟩ := cap_of (F := F) (L := L) (H := H1) (σ := σ) e 0 fun i dd q => by
    rw [Nat.zero_add]
    exact sr1.e i dd q
  have rcl : Rep F L H1 (.clo f c' (X.env.qual ++ "<lambda>") σ (capI 0 e) (capD e)) (.ref f) := ⟨⟨rfl, hco⟩, cvs, hc1, hc2⟩
  generalize hcl : D.clo f c' (X.env.qual ++ "<lambda>") σ (capI 0 e) (capD e) = cl at rcl
  have rc : codeAny (model X.prog X.w) X.A (.call (.ref g) ⟨[.ref f], []⟩) (CR (L2.CX X.prog X.w) X.stack X.prog X.w H1 s1 Q E0) s1 := by
    refine LamX.run_ofS (N := Ng) (ps := [a]) (us := [.ref f]) (vs := [.ref f]) lk hcd Sg d.room I1.env0 (hb s1 [.ref f] I1.kIn rfl) (.cons rfl .nil) rfl fun hr' => ?_
    have dcZ : Dc (ZCx X Ng x (defScope st) g cdv s1 H1) (fun cls d _ H => E0 cls d H) (k + 2) := ⟨takes_of rfl rfl rfl rfl, hr', rfl, d.gd, passes_of rfl⟩
    obtain ⟨tz, pz, qz⟩ := hG cdv s1 H1 cl (fun M' => db e M') dcZ fun W' pn xe p1 p2 dct => by
      refine ⟨fun σZ HZ QZ => ∃ (eZ : DL.Env) (MZ : Store) (LZ : List Addr), SR F LZ HZ MZ eZ σZ ∧ Post F eZ LZ HZ σZ W' QZ (callC 0 cl (fun M' => db e M') eZ MZ), ⟨fun pZ sZ σZ HZ QZ IZ hZ => ?_⟩, fun eZ MZ LZ σZ HZ QZ sr pp => ⟨eZ, MZ, LZ, sr, pp⟩⟩
      obtain ⟨eZ, MZ, LZ, srZ, ppZ⟩ := hZ
      unfold callC at ppZ
      split at ppZ
      · rename_i dz hdz
        split at ppZ
        · rename_i hz
          subst hz
          obtain ⟨vz, hv1, hv2⟩ := srZ.e 0 dz hdz
          subst hcl
          obtain ⟨⟨rfl, hco2⟩, ws, hw1, hw2⟩ := hv2
          have srD : SR F LZ HZ MZ e σ := ⟨sr.l, srZ.m, fun i dd q => by
            obtain ⟨v, q1, q2⟩ := cap_to (F := F) (L := LZ) (H := HZ) (σ := σ) e 0 ws hw1 hw2 i dd q
            rw [Nat.zero_add] at q1
            exact ⟨v, q1, q2⟩⟩
          refine wpAny_Call_Name_kw (thn ((pe_var (X := (ZCx X Ng x (defScope st) g cdv s1 H1).tr pn xe) (pos := p1) (i := 0) hNg hva hd1 hd2).run pZ sZ σZ HZ (fun v H2 => v = .ref f ∧ H2 = HZ) IZ ⟨.ref f, hv1, rfl, rfl⟩) fun u s2 y => ?_)
          obtain ⟨v, H2, I2, r2, ev, eH⟩ := y
          subst ev
          rw [eH] at I2
          obtain rfl : u = Value.ref f := r2
          have fob := I2.base.keep f _ hf hfn hfr (fun z => nomatch (show f ∈ ([] : List Addr) from z))
          refine PySem.W.callWith_F0 ⟨_, _, _, _, fob⟩ ?_
          have unZ : Un (frs X.stack) [] H1 HZ s1.heap s2.heap := I2.base
          obtain ⟨⟨oc2, vs2, tk2, hoc, hdc, hvc⟩, _, _⟩ := I2.hok c' _ hco2
          have rcl2 : codeAny (model X.prog X.w) (X.A.deeper (PyProof.Rows.envOfC x (defScope st) s1.heap.objs.size g cdv)) (.call (.ref f) ⟨[], []⟩) (CR (L2.CX X.prog X.w) (PyProof.Rows.envOfC x (defScope st) s1.heap.objs.size g cdv :: X.stack) X.prog X.w HZ s2 QZ (WE W' σZ)) s2 := by
            refine PySem.W.kla_callFunE hr'.depth fob rfl Ls.co Ls.gen rfl ⟨c', oc2, vs2, tk2, rfl, hoc, hdc, hvc⟩ ?_
            rw [hbind]
            refine wpAny_pure (wpAny_newFunctionEnv (fun y hy => (Ls.own y hy).2) (fun y hy => absurd hy (by simp)) (fun h₁ hns hsb => ⟨I2.nolimit.fresh _ hsb, ?_⟩) Ls.kind)
            show codeAny _ _ (.expr body (LamX.lamEnv X scope s2.heap.objs.size f c')) _ _
            have kp2 : ∀ b o, s2.heap.get? b = some o → h₁.get? b = some o := fun b o z => hsb.extBut b o (Nat.ne_of_lt (Heap.lt_size z)) (Heap.get?_push_of_some _ z)
            have J : L2.Inv (LamX.lamCx X (X.A.deeper (PyProof.Rows.envOfC x (defScope st) s1.heap.objs.size g cdv)) (PyProof.Rows.envOfC x (defScope st) s1.heap.objs.size g cdv :: X.stack) s2 HZ (WE W' σZ) scope f c') [] σ HZ { s2 with heap := h₁, toks := s2.toks + ([] : List (Str × Value)).length } :=
              LamX.lam_start2 I1 Ls I2.env0 hr'.hd unZ hns kp2
            obtain ⟨tb, pb, qb⟩ := hbody _ _ s2 HZ (WE W' σZ) f c' ⟨takes_of rfl rfl rfl rfl, ((hr'.mono (by omega : k + 1 ≤ k + 2)).deeper _), rfl, d.gd, passes_of rfl⟩
            have key : ∀ r : RE, Post F eZ LZ HZ σZ W' QZ r → Post F e LZ HZ σ (fun cls d _ H => WE W' σZ cls d H) QZ r := fun r => by
              cases r with
              | none => exact id
              | some y =>
                obtain ⟨oo, M5⟩ := y
                cases oo with
                | val d5 => exact fun q L5 H5 v5 s5 r5 rv5 => q L5 H5 v5 s5 (srZ.stay s5 r5.m) rv5
                | exc c5 fs5 => exact fun q L5 H5 cls5 dd5 s5 r5 x5 => q L5 H5 cls5 dd5 s5 (srZ.stay s5 r5.m) x5
            have ppD := key _ ppZ
            refine PySem.W.kla_codeExpr (wpAny_mono (pb.run [] _ _ HZ QZ J (qb e MZ LZ σ HZ QZ srD ppD)) (fun v s3 hq => ?_) fun y s3 hq => hq)
            obtain ⟨v3, H3, J3, rv3, q3⟩ := hq
            exact ⟨v3, H3, J3.os, J3.bare, J3.base, J3.hok, rv3, q3⟩
          refine wpAny_call (codeAny_mono rcl2 fun res s3 hq => ?_)
          cases res with
          | error y => exact passAt dct.tk σZ pZ HZ s2 y s3 I2 hq
          | ok fl =>
            cases fl with
            | ret u => exact I2.after hq
            | next => exact (show False from hq).elim
            | brk => exact (show False from hq).elim
            | cont => exact (show False from hq).elim
        · exact False.elim ppZ
      · exact False.elim ppZ
    have rl : Reps F L H1 [cl] [.ref f] := ⟨.ref f, [], rfl, rcl, rfl⟩
    obtain ⟨se1, se2⟩ := start_env n rl Ng hn
    refine ⟨tz, pz, qz _ M L _ H1 _ ⟨se2, m1, se1⟩ ?_⟩
    have pp1 := PostG.go stp1 pp
    have pp2 : Post F e L H1 σ W Q (ofBody n (gS cl (fun M' => db e M')) [cl] M) ∧ ∀ c5 fs5 M5, ofBody n (gS cl (fun M' => db e M')) [cl] M ≠ some (.exc c5 fs5, M5) := by
      rcases hden cl (fun M' => db e M') M with zn | zn
      · rw [zn] at pp1
        exact (show False from pp1).elim
      · rw [← zn] at pp1
        generalize ofBody n (gS cl (fun M' => db e M')) [cl] M = r at pp1
        refine ⟨post_cut sr1 ?_, fun c5 fs5 M5 z => ?_⟩
        · revert pp1
          cases cutR M r with
          | none => exact id
          | some y =>
            obtain ⟨o, M5⟩ := y
            cases o with
            | val d => exact id
            | exc c fs => exact False.elim
        · rw [z] at pp1
          unfold cutR at pp1
          simp only at pp1
          split at pp1
          · exact (show False from pp1).elim
          · exact (show False from pp1).elim
    obtain ⟨pp1, nex⟩ := pp2
    unfold ofBody at nex
    unfold ofBody at pp1
    revert pp1
    cases hgs : gS cl (fun M' => db e M') (List.map some [cl] ++ List.replicate (n - [cl].length) none) M with
    | none => exact id
    | some y =>
      obtain ⟨fl, M'⟩ := y
      cases fl with
      | nx e' => exact fun q L' H' σ' s' r' => q L' H' .non s' (sr1.stay s' r'.m) rfl
      | rt d' => exact fun q L' H' v s' r' rv => q L' H' v s' (sr1.stay s' r') rv
      | ex c5 fs5 e' => exact fun q => (nex c5 fs5 M' (by rw [hgs] <;> rfl)).elim
      | bk e' => exact False.elim
      | ct e' => exact False.elim
  refine wpAny_call (codeAny_mono rc fun res s2 hq => ?_)
  cases res with
  | error y => exact passL p₀ σ H1 s1 y s2 I1 hq
  | ok fl =>
    cases fl with
    | ret u => exact I1.after hq
    | next => exact (show False from hq).elim
    | brk => exact (show False from hq).elim
    | cont => exact (show False from hq).elim
theorem bd_mkD {K : PySem.W.Frag} {a T : Addr} {oc : Value} {od : Option Addr} {fd fd' : FuncData} {osl : Array (Option Value)} {s : Shared} {args : Args} {bs : List (Str × Value)} {o : Obj} {items : Array Value} {n : Nat} (h1 : K.lookup a = some ⟨oc, od, .func fd, osl⟩) (KX : K.In s.heap) (h2 : ∃ oc od osl, K.lookup a = some ⟨oc, od, .func fd', osl⟩) (hd : fd.defaults = .ref T) (ho : K.lookup T = some o) (hs : o.data = .seq items n)
    (h3 : ∃ k : Option (Array Value) → Sem (List (Str × Value)), bindArgs fd args = seqItems? fd.defaults >>= k ∧ k (some items) = pure bs) : BindsTo s fd' args bs := by
  obtain ⟨oc', od', osl', h2⟩ := h2
  rw [h1] at h2
  cases h2
  obtain ⟨k, k1, k2⟩ := h3
  exact BindsTo.of_defaults hd (KX _ _ ho) hs k1 k2
theorem callr_isiAll : CallR X (.builtin "isinstance") (fun vs H Q => rIsiXT X.K vs H Q ∨ (rIsiX X.K vs H Q ∨ rIsi X.K vs H Q)) := orC callr_isiXT callr_isi
theorem de_numE {x : Str} {i : Int} {pos : Pos} (hm : ∃ t, X.mg x = some (.int i t)) (hg : Gl X x := by rfl) (hd : (x == ("__debug__" : Str)) = false := by decide) : DE F X W (.Name x pos) (cD (.int i)) := by
  obtain ⟨t, h⟩ := hm
  exact de_num h hg hd
end
end DL
namespace DL
open PySem L2
def Bd (k : Nat) (i : Int) : Prop := i.natAbs < 2 ^ k
theorem Bd.mono {j k : Nat} {i : Int} (h : Bd j i) (hk : j ≤ k) : Bd k i := Nat.lt_of_lt_of_le h (Nat.pow_le_pow_right (by decide) hk)
theorem Bd.lg {k : Nat} {a : Int} (h : Bd k a) : a.natAbs.log2 ≤ k := by
  unfold Bd at h
  by_cases h0 : a.natAbs = 0
  · rw [h0]; simp
  · exact Nat.le_of_lt ((Nat.log2_lt h0).mpr h)
theorem bindE_v {α β : Type} (d : α) (M : Store) (f : α → Store → RD β) : bindE (ok d M) f = f d M := rfl
theorem thenS_v {α : Type} (d : α) (M : Store) (e : DL.Env) (f : α → Store → RS) : thenS (ok d M) e f = f d M := rfl
theorem bindE_x {α β : Type} (c : String) (fs : List (Str × D)) (M : Store) (f : α → Store → RD β) : bindE (some (.exc c fs, M)) f = some (.exc c fs, M) := rfl
theorem thenS_x {α : Type} (c : String) (fs : List (Str × D)) (M : Store) (e : DL.Env) (f : α → Store → RS) : thenS (some (.exc c fs, M)) e f = some (.ex c fs e, M) := rfl
theorem mulE {i j : Int} {M : Store} (h : i.natAbs.log2 + j.natAbs.log2 < 1000000) : mulF (.int i) (.int j) M = ok (.int (i * j)) M := if_pos h
theorem mulB {i j : Int} {k l : Nat} {M : Store} (hi : Bd k i) (hj : Bd l j) (h : k + l < 1000000) : mulF (.int i) (.int j) M = ok (.int (i * j)) M := mulE (by
  have := hi.lg
  have := hj.lg
  omega)
theorem addE {i j : Int} {M : Store} : addF (.int i) (.int j) M = ok (.int (i + j)) M := rfl
theorem subE {i j : Int} {M : Store} : subF (.int i) (.int j) M = ok (.int (i - j)) M := rfl
theorem ix0 (a : D) (r : List D) (M : Store) : ixF (.tup (a :: r)) (.int 0) M = ok a M := by
  unfold ixF
  simp [atI, ixN]
theorem ix1 (a b : D) (r : List D) (M : Store) : ixF (.tup (a :: b :: r)) (.int 1) M = ok b M := by
  have h : atI (a :: b :: r) 1 = some b := by
    unfold atI ixN
    rw [if_pos (by decide), if_pos (by rw [List.length_cons, List.length_cons]; omega)]
    rfl
  unfold ixF
  simp [h]
theorem fdivB {i j : Int} {k : Nat} {M : Store} (hj : Bd k j) (h0 : j ≠ 0) (h : k < 9000) : fdivF (.int i) (.int j) M = ok (.int (i.fdiv j)) M := by
  have h1 : j.natAbs.log2 < 9000 := Nat.lt_of_le_of_lt hj.lg h
  show (if decide (j ≠ 0 ∧ j.natAbs.log2 < 9000) = true then _ else _) = _
  exact if_pos (decide_eq_true ⟨h0, h1⟩)
theorem fmodE {i j : Int} {M : Store} (h0 : j ≠ 0) : fmodF (.int i) (.int j) M = ok (.int (i.fmod j)) M := if_pos (decide_eq_true h0)
theorem fdv {i j : Int} {M : Store} (h0 : 0 < j) (h : Bd 60 j) : fdivF (.int i) (.int j) M = ok (.int (i / j)) M := by
  rw [fdivB h (by omega) (by decide), Int.fdiv_eq_ediv_of_nonneg _ (by omega)]
theorem fmd {i j : Int} {M : Store} (h0 : 0 < j) : fmodF (.int i) (.int j) M = ok (.int (i % j)) M := by
  rw [fmodE (by omega), Int.fmod_eq_emod_of_nonneg _ (by omega)]
theorem eq_int {i j : Int} {M : Store} : eqF (.int i) (.int j) M = ok (.bl (decide (i = j))) M := by
  show ok (D.bl (false != decide (i = j))) M = _
  simp
theorem ne_int {i j : Int} {M : Store} : neF (.int i) (.int j) M = ok (.bl (!decide (i = j))) M := by
  show ok (D.bl (true != decide (i = j))) M = _
  simp
theorem ne_str {x y : Str} {M : Store} : neF (.str x) (.str y) M = ok (.bl (!decide (x = y))) M := by
  show ok (D.bl (true != decide (x = y))) M = _
  simp
theorem eq_str {x y : Str} {M : Store} : eqF (.str x) (.str y) M = ok (.bl (decide (x = y))) M := by
  show ok (D.bl (false != decide (x = y))) M = _
  simp
theorem lt_int {i j : Int} {M : Store} : ltF (.int i) (.int j) M = ok (.bl (decide (i < j))) M := rfl
theorem le_int {i j : Int} {M : Store} : leF (.int i) (.int j) M = ok (.bl (decide (i ≤ j))) M := rfl
theorem ge_int {i j : Int} {M : Store} : geF (.int i) (.int j) M = ok (.bl (decide (j ≤ i))) M := rfl
theorem seq_nx {a b : DenS} {e e' : DL.Env} {M M' : Store} (h : a e M = some (.nx e', M')) : seqS a b e M = b e' M' := by
  unfold seqS
  rw [h]
theorem seq_rt {a b : DenS} {e : DL.Env} {d : D} {M M' : Store} (h : a e M = some (.rt d, M')) : seqS a b e M = some (.rt d, M') := by
  unfold seqS
  rw [h]
theorem ix_lst {ds : List D} {i : Int} {M : Store} {d : D} (h : atI ds i = some d) : ixF (.lst ds) (.int i) M = ok d M := by
  unfold ixF
  simp [getL, h]
theorem ix_tup {ds : List D} {i : Int} {M : Store} {d : D} (h : atI ds i = some d) : ixF (.tup ds) (.int i) M = ok d M := by
  unfold ixF
  simp [h]
theorem ix_loc {n : Nat} {i : Int} {M : Store} {ds : List D} {d : D} (h : M[n]? = some (.lst ds)) (h2 : atI ds i = some d) : ixF (.loc n) (.int i) M = ok d M := by
  unfold ixF
  simp [getL, h, h2]
theorem ix_scr {ns : List Int} {i : Int} {M : Store} {d : D} (h2 : atI (ns.map D.int) i = some d) : ixF (.scr ns) (.int i) M = ok d M := by
  unfold ixF
  simp [getL, h2]
theorem at_nat {α : Type} {xs : List α} {n : Nat} {x : α} (h : xs[n]? = some x) : atI xs (n : Int) = some x := by
  have lt := (List.getElem?_eq_some_iff.mp h).1
  unfold atI ixN
  rw [if_pos (by omega)]
  rw [if_pos (by omega)]
  show xs[(n : Int).toNat]? = _
  rw [Int.toNat_natCast]
  exact h
theorem len_scr {ns : List Int} {M : Store} : lenF [.scr ns] M = ok (.int (ns.length : Int)) M := by
  unfold lenF
  simp [getL]
theorem len_tup {ds : List D} {M : Store} : lenF [.tup ds] M = ok (.int (ds.length : Int)) M := rfl
theorem len_lst {ds : List D} {M : Store} : lenF [.lst ds] M = ok (.int (ds.length : Int)) M := by
  unfold lenF
  simp [getL]
theorem abs_is {i a : Int} {M : Store} (h : a = (i.natAbs : Int)) : absF [.int i] M = ok (.int a) M := by
  have e : (if i < 0 then -i else i) = a := by split <;> omega
  show ok (D.int (if i < 0 then -i else i)) M = _
  rw [e]
theorem typ_int {i : Int} {M : Store} : typF [.int i] M = ok (.ty "int") M := rfl
theorem typ_tup {ds : List D} {M : Store} : typF [.tup ds] M = ok (.ty "tuple") M := rfl
theorem typ_non {M : Store} : typF [.non] M = ok (.ty "NoneType") M := rfl
theorem typ_lst {ds : List D} {M : Store} : typF [.lst ds] M = ok (.ty "list") M := rfl
theorem tup_tup {ds : List D} {M : Store} : tupcF [.tup ds] M = ok (.tup ds) M := rfl
theorem tup_lst {ds : List D} {M : Store} (h : ds.length ≤ 100000) : tupcF [.lst ds] M = ok (.tup ds) M := by
  unfold tupcF
  simp [getL, h]
theorem tup_loc {n : Nat} {ds : List D} {M : Store} (h : M[n]? = some (.lst ds)) (hl : ds.length ≤ 100000) : tupcF [.loc n] M = ok (.tup ds) M := by
  unfold tupcF
  simp [getL, h, hl]
theorem pow_nat {i : Int} {n : Nat} {M : Store} (h : (i.natAbs.log2 + 1) * n ≤ 134217728) : powF (.int i) (.int (n : Int)) M = ok (.int (i ^ n)) M := by
  show (if decide ((0 : Int) ≤ (n : Int) ∧ (i.natAbs.log2 + 1) * (n : Int).toNat ≤ 134217728) = true then ok (D.int (i ^ (n : Int).toNat)) M else none) = _
  exact if_pos (decide_eq_true ⟨by omega, h⟩)
theorem small_n {n : Nat} (h : n ≤ 1000000) : small62 (n : Int) = true := decide_eq_true (by omega)
mutual
theorem nl_mono (n : Nat) : ∀ d : D, nlD 0 d = true → nlD n d = true
  | .non, _ => rfl
  | .bl _, _ => rfl
  | .int _, _ => rfl
  | .str _, _ => rfl
  | .ty _, _ => rfl
  | .cls _, _ => rfl
  | .ktp _, _ => rfl
  | .scr _, _ => rfl
  | .emp, _ => rfl
  | .tup ds, h => nls_mono n ds h
  | .lst ds, h => nls_mono n ds h
  | .loc k, h => absurd (of_decide_eq_true (p := k < 0) h) (Nat.not_lt_zero k)
  | .exc _ fs, h => nlf_mono n fs h
  | .clo _ _ _ _ _ ds, h => nls_mono n ds h
theorem nls_mono (n : Nat) : ∀ ds : List D, nlDs 0 ds = true → nlDs n ds = true
  | [], _ => rfl
  | d :: ds, h => by
    have h' : (nlD 0 d && nlDs 0 ds) = true := h
    rw [Bool.and_eq_true] at h'
    show (nlD n d && nlDs n ds) = true
    rw [nl_mono n d h'.1, nls_mono n ds h'.2]
    rfl
theorem nlf_mono (n : Nat) : ∀ fs : List (Str × D), nlF 0 fs = true → nlF n fs = true
  | [], _ => rfl
  | (f, d) :: fs, h => by
    have h' : (nlD 0 d && nlF 0 fs) = true := h
    rw [Bool.and_eq_true] at h'
    show (nlD n d && nlF n fs) = true
    rw [nl_mono n d h'.1, nlf_mono n fs h'.2]
    rfl
end
theorem nls_all {n : Nat} : ∀ {ds : List D}, (∀ d ∈ ds, nlD n d = true) → nlDs n ds = true
  | [], _ => rfl
  | d :: ds, h => by
    show (nlD n d && nlDs n ds) = true
    rw [h d List.mem_cons_self, nls_all fun x hx => h x (List.mem_cons_of_mem _ hx)]
    rfl
theorem nls_map {α : Type} {n : Nat} {xs : List α} {f : α → D} (h : ∀ x ∈ xs, nlD n (f x) = true) : nlDs n (xs.map f) = true := nls_all fun d hd => by
  obtain ⟨x, hx, rfl⟩ := List.mem_map.mp hd
  exact h x hx
theorem cutD_nl {n : Nat} {M' : Store} {d : D} (h : nlD n d = true) (hl : ∀ k, d ≠ .loc k) : cutD n M' d = some d := by
  unfold cutD
  split
  · exact absurd rfl (hl _)
  · exact if_pos h
theorem cutD_pd {n : Nat} {M' : Store} {d : D} (h : nlD 0 d = true) : cutD n M' d = some d := cutD_nl (nl_mono n d h) fun k z => by
  rw [z] at h
  exact absurd (of_decide_eq_true (p := k < 0) h) (Nat.not_lt_zero k)
theorem cutD_loc {M X : Store} {ds : List D} (h : nlDs M.length ds = true) : cutD M.length (M ++ .lst ds :: X) (.loc M.length) = some (.lst ds) := by
  unfold cutD
  simp [h]
section
variable {n : Nat} {den : DenS} {args : List D} {e0 e' : DL.Env} {v : D} {M M1 X : Store}
theorem fv_rt (X : Store) (he : args.map some ++ List.replicate (n - args.length) none = e0) (h : den e0 M = some (.rt v, M ++ X)) (hv : nlD 0 v = true) : cutF (ofBody n den) args M = ok v M :=
  cut_val (by unfold ofBody; rw [he, h] <;> rfl) (cutD_pd hv)
theorem fv_rt0 (he : args.map some ++ List.replicate (n - args.length) none = e0) (h : den e0 M = some (.rt v, M)) (hv : nlD 0 v = true) : cutF (ofBody n den) args M = ok v M :=
  fv_rt [] he (by rw [h, List.append_nil]) hv
theorem fv_nx (X : Store) (he : args.map some ++ List.replicate (n - args.length) none = e0) (h : den e0 M = some (.nx e', M ++ X)) : cutF (ofBody n den) args M = ok .non M :=
  cut_val (by unfold ofBody; rw [he, h] <;> rfl) (cutD_pd rfl)
theorem fv_ex {c : String} {fs : List (Str × D)} (X : Store) (he : args.map some ++ List.replicate (n - args.length) none = e0) (h : den e0 M = some (.ex c fs e', M ++ X)) (hv : nlF 0 fs = true) : cutF (ofBody n den) args M = some (.exc c fs, M) :=
  cut_exc (by unfold ofBody; rw [he, h] <;> rfl) (nlf_mono _ fs hv)
/-- the first lists changed, too -/
theorem fv_rt2 (X : Store) (he : args.map some ++ List.replicate (n - args.length) none = e0) (h : den e0 M = some (.rt v, M1 ++ X)) (hl : M1.length = M.length) (hc : ∀ (j : Nat) (ob : Ob), j < M.length → M1[j]? = some ob → M[j]? = some ob ∨ nlOb M.length ob = true) (hv : nlD 0 v = true) : cutF (ofBody n den) args M = ok v M1 :=
  cut_val2 (by unfold ofBody; rw [he, h] <;> rfl) hl hc (cutD_pd hv)
theorem set_ok {ob : Ob} {i : Nat} (h : nlOb M.length ob = true) : ∀ (j : Nat) (o : Ob), j < M.length → (M.set i ob)[j]? = some o → M[j]? = some o ∨ nlOb M.length o = true := fun j o lt q => by
  by_cases hj : i = j
  · subst hj
    rw [List.getElem?_set_self lt] at q
    cases q
    exact .inr h
  · rw [List.getElem?_set_ne hj] at q
    exact .inl q
end
section
variable {α β : Type} {set set1 : D → DL.Env → Option DL.Env} {dt dt1 de : DenE} {vs vs1 : List Nat} {di di1 : DenI} {e : DL.Env} {M M1 : Store} {chk : Store → Prop} {g : α → D} {p : α → Bool} {f : α → D}
theorem compL_at {e0 : DL.Env} (M : Store) (hchk : ∀ acc, chk (M ++ [.lst acc])) : ∀ (xs : List α) (acc : List D), acc.length + xs.length ≤ 100000 →
    (∀ x ∈ xs, ∃ e1, set (g x) e0 = some e1 ∧ (∀ acc, dt e1 (M ++ [.lst acc]) = ok (.bl (p x)) (M ++ [.lst acc])) ∧ (p x = true → ∀ acc, de e1 (M ++ [.lst acc]) = ok (f x) (M ++ [.lst acc]))) →
    compL chk set dt de e0 M.length (xs.map g) (M ++ [.lst acc]) = ok () (M ++ [.lst (acc ++ (xs.filter p).map f)])
  | [], acc, _, _ => by
    unfold compL
    simp [hchk]
  | x :: xs, acc, hl, h => by
    obtain ⟨e1, h1, h2, h3⟩ := h x List.mem_cons_self
    have hl' : acc.length + (xs.length + 1) ≤ 100000 := hl
    have ih := compL_at (e0 := e0) M hchk xs
    show compL chk set dt de e0 M.length (g x :: xs.map g) _ = _
    unfold compL
    rw [if_pos (hchk acc), h1]
    dsimp only
    rw [h2 acc]
    cases hp : p x with
    | false =>
      show compL chk set dt de e0 M.length (xs.map g) (M ++ [.lst acc]) = _
      rw [ih acc (by omega) fun y hy => h y (List.mem_cons_of_mem _ hy), List.filter_cons_of_neg (by rw [hp]; exact Bool.false_ne_true)]
    | true =>
      show bindV (de e1 (M ++ [.lst acc])) _ = _
      rw [h3 hp acc]
      show (match (M ++ [Ob.lst acc])[M.length]? with | some (.lst acc) => _ | _ => none) = _
      rw [List.getElem?_append_right (Nat.le_refl _), Nat.sub_self]
      show (if acc.length < 100000 then _ else none) = _
      rw [if_pos (by omega)]
      have es : (M ++ [Ob.lst acc]).set M.length (.lst (acc ++ [f x])) = M ++ [.lst (acc ++ [f x])] := by
        rw [List.set_append_right _ _ (Nat.le_refl _), Nat.sub_self]
        rfl
      rw [es, ih (acc ++ [f x]) (by rw [List.length_append, List.length_singleton]; omega) fun y hy => h y (List.mem_cons_of_mem _ hy), List.filter_cons_of_pos hp, List.append_assoc]
      rfl
theorem comp_at (xs : List α) (hdi : di e M = ok (xs.map g, chk) M) (hchk : ∀ acc, chk (M ++ [.lst acc])) (hl : xs.length ≤ 100000)
    (h : ∀ x ∈ xs, ∃ e1, set (g x) (wipeE e vs) = some e1 ∧ (∀ acc, dt e1 (M ++ [.lst acc]) = ok (.bl (p x)) (M ++ [.lst acc])) ∧ (p x = true → ∀ acc, de e1 (M ++ [.lst acc]) = ok (f x) (M ++ [.lst acc]))) :
    compD set dt de vs di e M = ok (.loc M.length) (M ++ [.lst ((xs.filter p).map f)]) := by
  unfold compD
  rw [hdi, bindE_v]
  dsimp only
  rw [compL_at (p := p) (f := f) M hchk xs [] (by simpa using hl) h]
  rfl
theorem compC_at (xs : List α) (hdi : di e M = ok (xs.map g, chk) M) (hchk : ∀ acc, chk (M ++ [.lst acc])) (hl : xs.length ≤ 100000)
    (h : ∀ x ∈ xs, ∃ e1, set (g x) (wipeE e vs) = some e1 ∧ (∀ acc, dt e1 (M ++ [.lst acc]) = ok (.bl (p x)) (M ++ [.lst acc])) ∧ (p x = true → ∀ acc, de e1 (M ++ [.lst acc]) = ok (f x) (M ++ [.lst acc])))
    (hn : ∀ x ∈ xs, nlD M.length (f x) = true) : cutE (compD set dt de vs di) e M = ok (.lst ((xs.filter p).map f)) M :=
  cutE_val (comp_at xs hdi hchk hl h) (cutD_loc (X := []) (nls_map fun x hx => hn x (List.mem_filter.mp hx).1))
/-- nothing left out; over values; nothing of the store -/
theorem comp_v (xs : List α) (hdi : di e M = ok (xs.map g, fun _ => True) M) (hl : xs.length ≤ 100000)
    (h : ∀ x ∈ xs, ∃ e1, set (g x) (wipeE e vs) = some e1 ∧ ∀ M, de e1 M = ok (f x) M)
    (hn : ∀ x ∈ xs, nlD 0 (f x) = true) : cutE (compD set (cD (.bl true)) de vs di) e M = ok (.lst (xs.map f)) M := by
  have q := compC_at (p := fun _ => true) (dt := cD (.bl true)) xs hdi (fun _ => trivial) hl (fun x hx => by
    obtain ⟨e1, h1, h2⟩ := h x hx
    exact ⟨e1, h1, fun _ => rfl, fun _ acc => h2 _⟩) fun x hx => nl_mono _ _ (hn x hx)
  rw [List.filter_eq_self.mpr (fun _ _ => rfl)] at q
  exact q
/-- with a test; over values; nothing of the store -/
theorem comp_p (xs : List α) (hdi : di e M = ok (xs.map g, fun _ => True) M) (hl : xs.length ≤ 100000)
    (h : ∀ x ∈ xs, ∃ e1, set (g x) (wipeE e vs) = some e1 ∧ (∀ M, dt e1 M = ok (.bl (p x)) M) ∧ (p x = true → ∀ M, de e1 M = ok (f x) M))
    (hn : ∀ x ∈ xs, nlD 0 (f x) = true) : cutE (compD set dt de vs di) e M = ok (.lst ((xs.filter p).map f)) M :=
  compC_at xs hdi (fun _ => trivial) hl (fun x hx => by
    obtain ⟨e1, h1, h2, h3⟩ := h x hx
    exact ⟨e1, h1, fun acc => h2 _, fun hp acc => h3 hp _⟩) fun x hx => nl_mono _ _ (hn x hx)
end
theorem it_tup {da : DenE} {e : DL.Env} {M : Store} {ds : List D} (h : da e M = ok (.tup ds) M) : itD da e M = ok (ds, fun _ => True) M := by
  unfold itD
  rw [h]
  rfl
theorem it_lst {da : DenE} {e : DL.Env} {M : Store} {ds : List D} (h : da e M = ok (.lst ds) M) : itD da e M = ok (ds, fun _ => True) M := by
  unfold itD
  rw [h]
  rfl
theorem it_rng {dr : DenA} {e : DL.Env} {M : Store} {n : Nat} (h : dr e M = ok [.int (n : Int)] M) (hn : n ≤ 1000000) : rng1 dr e M = ok ((List.range n).map fun (j : Nat) => D.int (j : Int), fun _ => True) M := by
  unfold rng1
  rw [h, bindE_v]
  dsimp only
  rw [if_pos (small_n hn), Int.toNat_natCast]
  unfold rngI
  simp
section
variable {g : DenG} {body : DenS} {chk : Store → Prop} {di : DenI} {e : DL.Env} {M : Store}
/-- a loop through: what holds ahead of turn i -/
theorem for_inv (Inv : Nat → DL.Env → Store → Prop) : ∀ (ds : List D) (i : Nat) (e : DL.Env) (M : Store), (∀ (j : Nat) (d : D) (e : DL.Env) (M : Store), ds[j]? = some d → Inv (i + j) e M → chk M ∧ ∃ e1 M1 e2 M2, g d e M = some (.nx e1, M1) ∧ (body e1 M1 = some (.nx e2, M2) ∨ body e1 M1 = some (.ct e2, M2)) ∧ Inv (i + j + 1) e2 M2) →
    (∀ e M, Inv (i + ds.length) e M → chk M) → Inv i e M → ∃ e' M', forIL g chk body ds e M = some (.nx e', M') ∧ Inv (i + ds.length) e' M'
  | [], i, e, M, _, hc, h => ⟨e, M, by unfold forIL; rw [if_pos (hc e M h)], h⟩
  | d :: ds, i, e, M, hs, hc, h => by
    obtain ⟨c, e1, M1, e2, M2, h1, h2, h3⟩ := hs 0 d e M rfl h
    obtain ⟨e', M', h4, h5⟩ := for_inv Inv ds (i + 1) e2 M2 (fun j d' e M q w => by
      have := hs (j + 1) d' e M q (by rwa [show i + (j + 1) = i + 1 + j by omega])
      rwa [show i + (j + 1) + 1 = i + 1 + j + 1 by omega] at this) (fun e M w => hc e M (by rwa [List.length_cons, show i + (ds.length + 1) = i + 1 + ds.length by omega])) h3
    refine ⟨e', M', ?_, by rwa [List.length_cons, show i + (ds.length + 1) = i + 1 + ds.length by omega]⟩
    unfold forIL
    rw [if_pos c, h1]
    dsimp only
    rcases h2 with h2 | h2
    · rw [h2]
      exact h4
    · rw [h2]
      exact h4
theorem for_all (ds : List D) (Inv : Nat → DL.Env → Store → Prop) (hdi : di e M = ok (ds, chk) M) (hs : ∀ (j : Nat) (d : D) (e : DL.Env) (M : Store), ds[j]? = some d → Inv j e M → chk M ∧ ∃ e1 M1 e2 M2, g d e M = some (.nx e1, M1) ∧ (body e1 M1 = some (.nx e2, M2) ∨ body e1 M1 = some (.ct e2, M2)) ∧ Inv (j + 1) e2 M2)
    (hc : ∀ e M, Inv ds.length e M → chk M) (h : Inv 0 e M) : ∃ e' M', forI g di body e M = some (.nx e', M') ∧ Inv ds.length e' M' := by
  obtain ⟨e', M', h1, h2⟩ := for_inv Inv ds 0 e M (fun j d e M q w => by
    rw [Nat.zero_add] at w ⊢
    exact hs j d e M q w) (fun e M w => hc e M (by rwa [Nat.zero_add] at w)) h
  refine ⟨e', M', ?_, by rwa [Nat.zero_add] at h2⟩
  unfold forI
  rw [hdi, thenS_v]
  exact h1
end
def Wp (r : RS) (P : Flw → Store → Prop) : Prop := ∃ f M, r = some (f, M) ∧ P f M
section
variable {a b : DenS} {e e' : DL.Env} {M M' : Store} {P : Flw → Store → Prop} {v : D}
theorem wp_nx (h : a e M = some (.nx e', M')) (k : Wp (b e' M') P) : Wp (seqS a b e M) P := by
  rw [seq_nx h]
  exact k
theorem wp_of (f : Flw) (h : a e M = some (f, M')) (k : P f M') : Wp (a e M) P := ⟨f, M', h, k⟩
theorem wp_seq (h : Wp (a e M) (fun f M' => (∃ e', f = .nx e' ∧ Wp (b e' M') P) ∨ ((∀ e', f ≠ .nx e') ∧ P f M'))) : Wp (seqS a b e M) P := by
  obtain ⟨f, M', h1, h2⟩ := h
  rcases h2 with ⟨e', rfl, h2⟩ | ⟨h2, h3⟩
  · rw [seq_nx h1]
    exact h2
  · refine ⟨f, M', ?_, h3⟩
    unfold seqS
    rw [h1]
    cases f with
    | nx e' => exact absurd rfl (h2 e')
    | _ => rfl
theorem wp_if {dt : DenE} (c : Bool) (h : dt e M = ok (.bl c) M') (k : c = true → Wp (a e M') P) (k' : c = false → Wp (b e M') P) : Wp (ifS dt a b e M) P := by
  unfold ifS
  rw [h, thenS_v]
  cases c with
  | true => exact k rfl
  | false => exact k' rfl
theorem wp_for {g : DenG} {body : DenS} {chk : Store → Prop} {di : DenI} (ds : List D) (Inv : Nat → DL.Env → Store → Prop) (hdi : di e M = ok (ds, chk) M)
    (hs : ∀ (j : Nat) (d : D) (e : DL.Env) (M : Store), ds[j]? = some d → Inv j e M → chk M ∧ ∃ e1 M1, g d e M = some (.nx e1, M1) ∧ Wp (body e1 M1) fun f M2 => ∃ e2, (f = .nx e2 ∨ f = .ct e2) ∧ Inv (j + 1) e2 M2)
    (hc : ∀ e M, Inv ds.length e M → chk M) (h : Inv 0 e M) (k : ∀ e' M', Inv ds.length e' M' → P (.nx e') M') : Wp (forI g di body e M) P := by
  obtain ⟨e', M', h1, h2⟩ := for_all ds Inv hdi (fun j d e M q w => by
    obtain ⟨c, e1, M1, h1, f, M2, h2, e2, h3, h4⟩ := hs j d e M q w
    refine ⟨c, e1, M1, e2, M2, h1, ?_, h4⟩
    rcases h3 with rfl | rfl
    · exact .inl h2
    · exact .inr h2) hc h
  exact ⟨_, _, h1, k e' M' h2⟩
theorem wp_for_nx {g : DenG} {body : DenS} {chk : Store → Prop} {di : DenI} (ds : List D) (Inv : Nat → DL.Env → Store → Prop) (hdi : di e M = ok (ds, chk) M)
    (hs : ∀ (j : Nat) (d : D) (e : DL.Env) (M : Store), ds[j]? = some d → Inv j e M → chk M ∧ ∃ e1 M1, g d e M = some (.nx e1, M1) ∧ Wp (body e1 M1) fun f M2 => ∃ e2, (f = .nx e2 ∨ f = .ct e2) ∧ Inv (j + 1) e2 M2)
    (hc : ∀ e M, Inv ds.length e M → chk M) (h : Inv 0 e M) (k : ∀ e' M', Inv ds.length e' M' → Wp (b e' M') P) : Wp (seqS (forI g di body) b e M) P :=
  wp_seq (wp_for ds Inv hdi hs hc h fun e' M' w => .inl ⟨e', rfl, k e' M' w⟩)
variable {n : Nat} {den : DenS} {args : List D} {e0 : DL.Env}
theorem fv_wp (he : args.map some ++ List.replicate (n - args.length) none = e0) (h : Wp (den e0 M) fun f M' => f = .rt v ∧ ∃ X, M' = M ++ X) (hv : nlD 0 v = true) : cutF (ofBody n den) args M = ok v M := by
  obtain ⟨f, M', h1, rfl, X, rfl⟩ := h
  exact fv_rt X he h1 hv
theorem fv_wpn (he : args.map some ++ List.replicate (n - args.length) none = e0) (h : Wp (den e0 M) fun f M' => (∃ e', f = .nx e') ∧ ∃ X, M' = M ++ X) : cutF (ofBody n den) args M = ok .non M := by
  obtain ⟨f, M', h1, ⟨e', rfl⟩, X, rfl⟩ := h
  exact fv_nx X he h1
end
theorem chain_le {da db dc : DenE} {e : DL.Env} {M : Store} {i j k : Int} (ha : da e M = ok (.int i) M) (hb : db e M = ok (.int j) M) (hc : dc e M = ok (.int k) M) : chainD leF leF da db dc e M = ok (.bl (decide (i ≤ j) && decide (j ≤ k))) M := by
  unfold chainD
  rw [ha, bindE_v, hb, bindE_v, le_int, bindE_v]
  cases decide (i ≤ j) with
  | true =>
    show bindE (dc e M) _ = _
    rw [hc, bindE_v, le_int]
    rfl
  | false => rfl
def rowD (n : Nat) (f : Nat → D) : D := .tup ((List.range n).map f)
abbrev tabD (w h : Nat) (f : Nat → Nat → D) : D := rowD h fun y => rowD w fun x => f x y
section
variable {n w h : Nat} {f f2 : Nat → D} {M : Store}
theorem len_row : lenF [rowD n f] M = ok (.int (n : Int)) M := by
  unfold rowD
  rw [len_tup, List.length_map, List.length_range]
theorem typ_row : typF [rowD n f] M = ok (.ty "tuple") M := rfl
theorem ix_row {i : Nat} (hi : i < n) : ixF (rowD n f) (.int (i : Int)) M = ok (f i) M := ix_tup (at_nat (by rw [List.getElem?_map, List.getElem?_range hi]; rfl))
theorem ix_row0 (hi : 0 < n) : ixF (rowD n f) (.int 0) M = ok (f 0) M := ix_row (i := 0) hi
theorem nl_row (h : ∀ i, i < n → nlD 0 (f i) = true) : nlD 0 (rowD n f) = true := nls_map fun i hi => h i (List.mem_range.mp hi)
theorem row_ext (h : ∀ i, i < n → f i = f2 i) : rowD n f = rowD n f2 := congrArg D.tup (List.map_congr_left fun i hi => h i (List.mem_range.mp hi))
theorem tup_row (hn : n ≤ 100000) : tupcF [.lst ((List.range n).map f)] M = ok (rowD n f) M := tup_lst (by rw [List.length_map, List.length_range]; exact hn)
theorem it_row {da : DenE} {e : DL.Env} (h : da e M = ok (rowD n f) M) : itD da e M = ok ((List.range n).map f, fun _ => True) M := it_tup h
end
end DL
namespace DL
open PySem L2
section
variable {M : Store} {e : DL.Env} {n : Nat} {da db dob : DenE} {dr : DenA}
theorem get_mid {ob : Ob} {X : Store} : (M ++ ob :: X)[M.length]? = some ob := by
  rw [List.getElem?_append_right (Nat.le_refl _), Nat.sub_self]
  rfl
theorem set_mid {ob ob' : Ob} {X : Store} : (M ++ ob :: X).set M.length ob' = M ++ ob' :: X := by
  rw [List.set_append_right _ _ (Nat.le_refl _), Nat.sub_self]
  rfl
theorem get_lt {α : Type} {xs : List α} {j : Nat} {x : α} (h : xs[j]? = some x) : j < xs.length := (List.getElem?_eq_some_iff.mp h).1
theorem app_ok2 {ds : List D} {d : D} {M1 M2 : Store} (ho : dob e M = ok (.loc n) M1) (ha : da e M1 = ok d M2) (hn : M2[n]? = some (.lst ds)) (hl : ds.length < 100000) (hk : isL M1 n = true) : appS dob da e M = some (.nx e, M2.set n (.lst (ds ++ [d]))) := by
  unfold appS
  rw [ho, thenS_v]
  show (if isL M1 n = true then thenS (da e M1) e _ else none) = _
  rw [if_pos hk]
  rw [ha, thenS_v]
  show (match M2[n]? with | some (.lst ds) => _ | _ => none) = _
  rw [hn]
  exact if_pos hl
theorem app_ok {ds : List D} {d : D} {M1 : Store} (ho : dob e M = ok (.loc n) M1) (ha : da e M1 = ok d M1) (hn : M1[n]? = some (.lst ds)) (hl : ds.length < 100000) : appS dob da e M = some (.nx e, M1.set n (.lst (ds ++ [d]))) := app_ok2 ho ha hn hl (isL_at hn)
theorem own_ok {ds : List D} {i : Nat} (h : dr e M = ok ds M) (hl : ds.length ≤ 100000) : ownS i dr e M = some (.nx (e.set i (some (.loc M.length))), M ++ [.lst ds]) := by
  unfold ownS
  rw [h, thenS_v]
  exact if_pos hl
theorem ownAdd_ok {a b : List D} {i : Nat} (h : da e M = ok (.loc n) M) (hn : M[n]? = some (.lst a)) (h2 : db e M = ok (.lst b) M) (hl : a.length + b.length ≤ 100000) : ownAddS i da db e M = some (.nx (e.set i (some (.loc M.length))), M ++ [.lst (a ++ b)]) := by
  unfold ownAddS
  rw [h, thenS_v, h2, thenS_v]
  have g1 : getW M (.loc n) = some a := by
    show getL M (.loc n) = some a
    simp [getL, hn]
  have g2 : getW M (.lst b) = some b := rfl
  rw [g1, g2]
  exact if_pos hl
/-- the list of number n, behind M1 -/
structure At (M1 : Store) (n : Nat) (ds : List D) (M : Store) : Prop where
  ge : M1.length ≤ n
  get : M[n]? = some (.lst ds)
  ex : ∃ X, M = M1 ++ X
theorem At.new {M1 : Store} {ds : List D} (h : ∃ X, M = M1 ++ X) : At M1 M.length ds (M ++ [.lst ds]) := by
  obtain ⟨X, rfl⟩ := h
  exact ⟨by rw [List.length_append]; omega, get_mid, X ++ [.lst ds], List.append_assoc _ _ _⟩
theorem At.set {M1 : Store} {ds es : List D} (h : At M1 n ds M) : At M1 n es (M.set n (.lst es)) := by
  obtain ⟨X, rfl⟩ := h.ex
  refine ⟨h.ge, List.getElem?_set_self (get_lt h.get), X.set (n - M1.length) (.lst es), ?_⟩
  rw [List.set_append_right _ _ h.ge]
theorem At.more {M1 : Store} {ds es : List D} (h : At M1 n ds M) : At M1 n ds (M ++ [.lst es]) := by
  obtain ⟨X, rfl⟩ := h.ex
  exact ⟨h.ge, by rw [List.getElem?_append_left (get_lt h.get)]; exact h.get, X ++ [.lst es], List.append_assoc _ _ _⟩
theorem At.other {M1 : Store} {ds es : List D} {m : Nat} (h : At M1 n ds M) (hm : At M1 m es M) (ne : m ≠ n) {fs : List D} : At M1 n ds (M.set m (.lst fs)) := ⟨h.ge, by rw [List.getElem?_set_ne ne]; exact h.get, hm.set.ex⟩
theorem bin_v {f : D → D → Store → RE} {a b : D} {M1 M2 : Store} (h1 : da e M = ok a M1) (h2 : db e M1 = ok b M2) : binD f da db e M = f a b M2 := by
  unfold binD
  rw [h1, bindE_v, h2, bindE_v]
theorem body_rt {n : Nat} {den : DenS} {ds : List D} {d : D} {M M' : Store} (h : den (ds.map some ++ List.replicate (n - ds.length) none) M = some (.rt d, M')) : ofBody n den ds M = ok d M' := by
  unfold ofBody
  rw [h]
theorem asg_v {i : Nat} {a : D} {M1 : Store} (h : da e M = ok a M1) : asgS i da e M = some (.nx (e.set i (some a)), M1) := by
  unfold asgS
  rw [h, thenS_v]
theorem cutR_more {d : D} {M1 X : Store} (hd : ∀ k, d ≠ .loc k) : cutR M (some (.val d, M1)) = none ∨ cutR M (some (.val d, M1 ++ X)) = cutR M (some (.val d, M1)) := by
  by_cases hl : M.length ≤ M1.length
  · right
    have c : CutOk M (M1 ++ X) ↔ CutOk M M1 := by
      constructor
      · exact fun q => ⟨hl, fun j ob lt g => q.2 j ob lt (by rw [List.getElem?_append_left (by omega)]; exact g)⟩
      · exact fun q => ⟨by rw [List.length_append]; omega, fun j ob lt g => q.2 j ob lt (by rwa [List.getElem?_append_left (by omega)] at g)⟩
    have cd : ∀ M', cutD M.length M' d = if nlD M.length d = true then some d else none := fun M' => by
      unfold cutD
      split
      · exact absurd rfl (hd _)
      · rfl
    have t : (M1 ++ X).take M.length = M1.take M.length := List.take_append_of_le_length hl
    unfold cutR
    simp only [cd, t]
    by_cases q : CutOk M M1
    · rw [if_pos (c.mpr q), if_pos q]
    · rw [if_neg fun z => q (c.mp z), if_neg q]
  · left
    unfold cutR
    simp only
    rw [if_neg fun q => hl q.1]
end
noncomputable def askDen (S : String → D → Option Bool) (ct o1 o2 o3 o4 : String → Bool) (cl : D) (cden : Store → RE) : DenS := seqS (asgG (tupD (consA (cD .non) (consA (cD .non) (nilA)))) (tupG 2 (consG (nameG 1) (consG (nameG 2) (nilG))))) (seqS (tryS 3 ct (asgS 2 (callC 0 cl cden)) (asgS 1 (nameD 3))) (seqS (ifS (binD (isF false) (nameD 1) (cD .non)) (retS (lstD (consA (nameD 2) (nilA)))) (nilS)) (seqS (ownS 4 (consA (tupD (consA (cD (.str "field")) (consA (callD (isiB S) (consA (nameD 1) (consA (cD (.cls "BadField")) (nilA)))) (nilA)))) (consA (tupD (consA (cD (.str "fraction")) (consA (callD (isiB S) (consA (nameD 1) (consA (cD (.cls "BadFraction")) (nilA)))) (nilA)))) (nilA)))) (seqS (ownAddS 4 (nameD 4) (lstD (consA (tupD (consA (cD (.str "rule")) (consA (callD (isiB S) (consA (nameD 1) (consA (cD (.cls "BadRule")) (nilA)))) (nilA)))) (consA (tupD (consA (cD (.str "spot")) (consA (callD (isiB S) (consA (nameD 1) (consA (cD (.cls "BadSpot")) (nilA)))) (nilA)))) (nilA))))) (seqS (ownAddS 4 (nameD 4) (lstD (consA (tupD (consA (cD (.str "target")) (consA (callD (isiB S) (consA (nameD 1) (consA (cD (.cls "BadTarget")) (nilA)))) (nilA)))) (consA (tupD (consA (cD (.str "row")) (consA (callD (isiB S) (consA (nameD 1) (consA (cD (.cls "BadRow")) (nilA)))) (nilA)))) (nilA))))) (seqS (appS (nameD 4) (tupD (consA (cD (.str "heights")) (consA (callD (isiB S) (consA (nameD 1) (consA (cD (.cls "BadHeights")) (nilA)))) (nilA))))) (seqS (appS (nameD 4) (tupD (consA (cD (.str "great")) (consA (callD (isiB S) (consA (nameD 1) (consA (cD (.cls "TooGreat")) (nilA)))) (nilA))))) (seqS (ownAddS 4 (nameD 4) (lstD (consA (tupD (consA (cD (.str "hollow")) (consA (callD (isiB S) (consA (nameD 1) (consA (cD (.cls "NoHollow")) (nilA)))) (nilA)))) (consA (tupD (consA (cD (.str "peak")) (consA (callD (isiB S) (consA (nameD 1) (consA (cD (.cls "NoPeak")) (nilA)))) (nilA)))) (nilA))))) (seqS (ownAddS 4 (nameD 4) (lstD (consA (tupD (consA (cD (.str "nought")) (consA (callD (isiB S) (consA (nameD 1) (consA (cD (.cls "Nought")) (nilA)))) (nilA)))) (consA (tupD (consA (cD (.str "gone")) (consA (callD (isiB S) (consA (nameD 1) (consA (cD (.cls "Gone")) (nilA)))) (nilA)))) (nilA))))) (seqS (appS (nameD 4) (tupD (consA (cD (.str "pairing")) (consA (callD (isiB S) (consA (nameD 1) (consA (tupD (consA (cD (.cls "BadPairing")) (consA (cD (.cls "BadPaper")) (consA (cD (.cls "BadCoin")) (consA (cD (.cls "TooFew")) (consA (cD (.cls "BadText")) (nilA))))))) (nilA)))) (nilA))))) (seqS (asgS 5 (cutE (compD (set2 9 8) (tstD (nameD 8)) (nameD 9) [8, 9] (itD (nameD 4))))) (seqS (ownS 6 (consA (callD (isiB S) (consA (nameD 1) (consA (cD (.ty "ValueError")) (nilA)))) (consA (callD (isiB S) (consA (nameD 1) (consA (cD (.ty "RuntimeError")) (nilA)))) (nilA)))) (seqS (ownS 7 (consA (callD (isiB S) (consA (nameD 1) (consA (cD (.cls "HollowError")) (nilA)))) (consA (callD (isiB S) (consA (nameD 1) (consA (cD (.cls "DeedError")) (nilA)))) (nilA)))) (seqS (appS (nameD 6) (callD (isiB S) (consA (nameD 1) (consA (cD (.ty "LookupError")) (nilA))))) (seqS (appS (nameD 7) (callD (isiB S) (consA (nameD 1) (consA (cD (.cls "BookError")) (nilA))))) (seqS (ifS (orD (binD (neF) (callD (lenF) (consA (nameD 5) (nilA))) (cD (.int 1))) (orD (binD (neF) (nameD 6) (nameD 7)) (binD (neF) (cntD (nameD 7) (cD (.bl true))) (cD (.int 1))))) (retS (cD (.str "several"))) (nilS)) (seqS (ifS (binD (inF false) (binD ixF (nameD 5) (cD (.int 0))) (tupD (consA (cD (.str "hollow")) (consA (cD (.str "peak")) (consA (cD (.str "nought")) (nilA)))))) (retS (tupD (consA (binD ixF (nameD 5) (cD (.int 0))) (consA (unD (fldF o1 "spot") (nameD 1)) (nilA))))) (nilS)) (seqS (ifS (binD (eqF) (binD ixF (nameD 5) (cD (.int 0))) (cD (.str "field"))) (retS (tupD (consA (cD (.str "field")) (consA (unD (fldF o2 "place") (nameD 1)) (nilA))))) (nilS)) (seqS (ifS (binD (eqF) (binD ixF (nameD 5) (cD (.int 0))) (cD (.str "great"))) (retS (tupD (consA (cD (.str "great")) (consA (unD (fldF o3 "most") (nameD 1)) (nilA))))) (nilS)) (retS (brD (binD (eqF) (binD ixF (nameD 5) (cD (.int 0))) (cD (.str "row"))) (tupD (consA (cD (.str "row")) (consA (unD (fldF o4 "number") (nameD 1)) (nilA)))) (binD ixF (nameD 5) (cD (.int 0))))))))))))))))))))))))
/-- the words with their classes -/
def askV (fs : List (Str × D)) (w : Str) : Option D :=
  if w = "hollow" ∨ w = "peak" ∨ w = "nought" then (List.lookup ("spot" : Str) fs).map fun d => .tup [.str w, d]
  else if w = "field" then (List.lookup ("place" : Str) fs).map fun d => .tup [.str "field", d]
  else if w = "great" then (List.lookup ("most" : Str) fs).map fun d => .tup [.str "great", d]
  else if w = "row" then (List.lookup ("number" : Str) fs).map fun d => .tup [.str "row", d]
  else some (.str w)
section
variable {S : String → D → Option Bool} {ct o1 o2 o3 o4 : String → Bool} {cl : D} {cden : Store → RE} {M M1 : Store}
theorem ask_val {v : D} (h : cden M = some (.val v, M1)) : ofBody 10 (askDen S ct o1 o2 o3 o4 cl cden) [cl] M = ok (.lst [v]) M1 := by
  have q : callC 0 cl cden [some cl, some .non, some .non, none, none, none, none, none, none, none] M = ok v M1 := by
    simp [callC, h]
    rfl
  have st : askDen S ct o1 o2 o3 o4 cl cden [some cl, none, none, none, none, none, none, none, none, none] M = some (.rt (.lst [v]), M1) := by
    unfold askDen
    rw [seq_nx (e' := [some cl, some .non, some .non, none, none, none, none, none, none, none]) (M' := M) rfl]
    rw [seq_nx (e' := [some cl, some .non, some v, none, none, none, none, none, none, none]) (M' := M1) (by
      unfold tryS
      rw [asg_v q]
      rfl)]
    exact seq_rt rfl
  exact body_rt st
/-- the pairs -/
abbrev askL (b : String → Bool) : List (Str × Bool) := [("field", b "BadField"), ("fraction", b "BadFraction"), ("rule", b "BadRule"), ("spot", b "BadSpot"), ("target", b "BadTarget"), ("row", b "BadRow"), ("heights", b "BadHeights"), ("great", b "TooGreat"), ("hollow", b "NoHollow"), ("peak", b "NoPeak"), ("nought", b "Nought"), ("gone", b "Gone"), ("pairing", b "pairing")]
abbrev prD (p : Str × Bool) : D := .tup [.str p.1, .bl p.2]
theorem ask_exc {c : String} {fs : List (Str × D)} {b : String → Bool} {w : Str} {v : D} (h : cden M = some (.exc c fs, M1)) (hc : ct c = true)
    (hS : ∀ k ∈ ["BadField", "BadFraction", "BadRule", "BadSpot", "BadTarget", "BadRow", "BadHeights", "TooGreat", "NoHollow", "NoPeak", "Nought", "Gone", "HollowError", "DeedError", "BookError"], S c (.cls k) = some (b k))
    (hT : ∀ k ∈ ["ValueError", "RuntimeError", "LookupError"], S c (.ty k) = some (b k))
    (hP : anyS S c [.cls "BadPairing", .cls "BadPaper", .cls "BadCoin", .cls "TooFew", .cls "BadText"] = some (b "pairing"))
    (hw : ((askL b).filter fun p => p.2).map (fun p => D.str p.1) = [.str w])
    (hk : b "ValueError" = b "HollowError" ∧ b "RuntimeError" = b "DeedError" ∧ b "LookupError" = b "BookError")
    (h1 : cntV (.bl true) [.bl (b "HollowError"), .bl (b "DeedError"), .bl (b "BookError")] = 1)
    (ho : w = "hollow" ∨ w = "peak" ∨ w = "nought" → o1 c = true) (ho2 : w = "field" → o2 c = true) (ho3 : w = "great" → o3 c = true) (ho4 : w = "row" → o4 c = true)
    (hv : askV fs w = some v) : ∃ X, ofBody 10 (askDen S ct o1 o2 o3 o4 cl cden) [cl] M = ok v (M1 ++ X) := by
  obtain ⟨x, hx⟩ : ∃ x, x = D.exc c fs := ⟨_, rfl⟩
  let E : Option D → Option D → Option D → Option D → DL.Env := fun a4 a5 a6 a7 => [some cl, some x, some .non, none, a4, a5, a6, a7, none, none]
  have isi : ∀ k, S c (.cls k) = some (b k) → ∀ a4 a5 a6 a7 M, callD (isiB S) (consA (nameD 1) (consA (cD (.cls k)) nilA)) (E a4 a5 a6 a7) M = ok (.bl (b k)) M := fun k q a4 a5 a6 a7 M => by
    show isiB S [x, .cls k] M = _
    rw [hx]
    show (match S c (.cls k) with | some b => ok (D.bl b) M | none => none) = _
    rw [q]
  have ist : ∀ k, S c (.ty k) = some (b k) → ∀ a4 a5 a6 a7 M, callD (isiB S) (consA (nameD 1) (consA (cD (.ty k)) nilA)) (E a4 a5 a6 a7) M = ok (.bl (b k)) M := fun k q a4 a5 a6 a7 M => by
    show isiB S [x, .ty k] M = _
    rw [hx]
    show (match S c (.ty k) with | some b => ok (D.bl b) M | none => none) = _
    rw [q]
  have isp : ∀ a4 a5 a6 a7 M, callD (isiB S) (consA (nameD 1) (consA (tupD (consA (cD (.cls "BadPairing")) (consA (cD (.cls "BadPaper")) (consA (cD (.cls "BadCoin")) (consA (cD (.cls "TooFew")) (consA (cD (.cls "BadText")) (nilA))))))) nilA)) (E a4 a5 a6 a7) M = ok (.bl (b "pairing")) M := fun a4 a5 a6 a7 M => by
    show isiB S [x, .tup [.cls "BadPairing", .cls "BadPaper", .cls "BadCoin", .cls "TooFew", .cls "BadText"]] M = _
    rw [hx]
    show (match anyS S c [.cls "BadPairing", .cls "BadPaper", .cls "BadCoin", .cls "TooFew", .cls "BadText"] with | some b => ok (D.bl b) M | none => none) = _
    rw [hP]
  have pr : ∀ (wd : Str) (dc : DenE) (bb : Bool) (e : DL.Env), (∀ M, dc e M = ok (.bl bb) M) → ∀ M, tupD (consA (cD (.str wd)) (consA dc nilA)) e M = ok (prD (wd, bb)) M := fun wd dc bb e q M => by
    simp [tupD, consA, nilA, cD, bindE_v, q]
  have pr2 : ∀ (d1 d2 : DenE) (v1 v2 : D) (e : DL.Env), (∀ M, d1 e M = ok v1 M) → (∀ M, d2 e M = ok v2 M) → ∀ M, consA d1 (consA d2 nilA) e M = ok [v1, v2] M := fun d1 d2 v1 v2 e q1 q2 M => by
    simp [consA, nilA, bindE_v, q1, q2]
  have pl2 : ∀ (d1 d2 : DenE) (v1 v2 : D) (e : DL.Env), (∀ M, d1 e M = ok v1 M) → (∀ M, d2 e M = ok v2 M) → ∀ M, lstD (consA d1 (consA d2 nilA)) e M = ok (.lst [v1, v2]) M := fun d1 d2 v1 v2 e q1 q2 M => by
    simp [lstD, consA, nilA, bindE_v, q1, q2]
  have cls : ∀ k ∈ ["BadField", "BadFraction", "BadRule", "BadSpot", "BadTarget", "BadRow", "BadHeights", "TooGreat", "NoHollow", "NoPeak", "Nought", "Gone", "HollowError", "DeedError", "BookError"], ∀ a4 a5 a6 a7 M, callD (isiB S) (consA (nameD 1) (consA (cD (.cls k)) nilA)) (E a4 a5 a6 a7) M = ok (.bl (b k)) M := fun k hk => isi k (hS k hk)
  have tys : ∀ k ∈ ["ValueError", "RuntimeError", "LookupError"], ∀ a4 a5 a6 a7 M, callD (isiB S) (consA (nameD 1) (consA (cD (.ty k)) nilA)) (E a4 a5 a6 a7) M = ok (.bl (b k)) M := fun k hk => ist k (hT k hk)
  have key : Wp (askDen S ct o1 o2 o3 o4 cl cden [some cl, none, none, none, none, none, none, none, none, none] M) (fun f M' => f = .rt v ∧ ∃ X, M' = M1 ++ X) := by
    unfold askDen
    refine wp_nx (e' := [some cl, some .non, some .non, none, none, none, none, none, none, none]) (M' := M) rfl ?_
    refine wp_nx (e' := E none none none none) (M' := M1) (by
      have q : callC 0 cl cden [some cl, some .non, some .non, none, none, none, none, none, none, none] M = some (.exc c fs, M1) := by
        simp [callC, h]
      unfold tryS asgS
      rw [q, thenS_x]
      show (if ct c = true then _ else none) = _
      rw [if_pos hc]
      show _ = some (Flw.nx [some cl, some x, some D.non, none, none, none, none, none, none, none], M1)
      rw [hx]
      rfl) ?_
    refine wp_nx (e' := E none none none none) (M' := M1) (by rw [show E none none none none = [some cl, some x, some .non, none, none, none, none, none, none, none] from rfl, hx]; rfl) ?_
    refine wp_nx (own_ok (pr2 _ _ _ _ (E none none none none) (pr _ _ _ _ (cls "BadField" (by simp) _ _ _ _)) (pr _ _ _ _ (cls "BadFraction" (by simp) _ _ _ _)) M1) (by simp)) ?_
    have t1 : At M1 M1.length _ (M1 ++ [.lst [prD ("field", b "BadField"), prD ("fraction", b "BadFraction")]]) := At.new ⟨[], (List.append_nil _).symm⟩
    revert t1
    generalize M1 ++ [Ob.lst [prD ("field", b "BadField"), prD ("fraction", b "BadFraction")]] = P1
    intro t1
    refine wp_nx (ownAdd_ok (n := M1.length) rfl t1.get (pl2 _ _ _ _ (E (some (.loc M1.length)) none none none) (pr _ _ _ _ (cls "BadRule" (by simp) _ _ _ _)) (pr _ _ _ _ (cls "BadSpot" (by simp) _ _ _ _)) P1) (by simp)) ?_
    have t2 := At.new (ds := [prD ("field", b "BadField"), prD ("fraction", b "BadFraction")] ++ [prD ("rule", b "BadRule"), prD ("spot", b "BadSpot")]) t1.ex
    revert t2
    generalize P1 ++ [Ob.lst ([prD ("field", b "BadField"), prD ("fraction", b "BadFraction")] ++ [prD ("rule", b "BadRule"), prD ("spot", b "BadSpot")])] = P2
    generalize P1.length = n2
    intro t2
    refine wp_nx (ownAdd_ok (n := n2) rfl t2.get (pl2 _ _ _ _ (E (some (.loc n2)) none none none) (pr _ _ _ _ (cls "BadTarget" (by simp) _ _ _ _)) (pr _ _ _ _ (cls "BadRow" (by simp) _ _ _ _)) P2) (by simp)) ?_
    have t3 := At.new (ds := ([prD ("field", b "BadField"), prD ("fraction", b "BadFraction")] ++ [prD ("rule", b "BadRule"), prD ("spot", b "BadSpot")]) ++ [prD ("target", b "BadTarget"), prD ("row", b "BadRow")]) t2.ex
    revert t3
    generalize P2 ++ [Ob.lst (([prD ("field", b "BadField"), prD ("fraction", b "BadFraction")] ++ [prD ("rule", b "BadRule"), prD ("spot", b "BadSpot")]) ++ [prD ("target", b "BadTarget"), prD ("row", b "BadRow")])] = P3
    generalize P2.length = n3
    intro t3
    refine wp_nx (app_ok (n := n3) rfl (pr _ _ _ (E (some (.loc n3)) none none none) (cls "BadHeights" (by simp) _ _ _ _) P3) t3.get (by simp)) ?_
    have t4 := t3.set (es := (([prD ("field", b "BadField"), prD ("fraction", b "BadFraction")] ++ [prD ("rule", b "BadRule"), prD ("spot", b "BadSpot")]) ++ [prD ("target", b "BadTarget"), prD ("row", b "BadRow")]) ++ [prD ("heights", b "BadHeights")])
    revert t4
    generalize P3.set n3 (Ob.lst ((([prD ("field", b "BadField"), prD ("fraction", b "BadFraction")] ++ [prD ("rule", b "BadRule"), prD ("spot", b "BadSpot")]) ++ [prD ("target", b "BadTarget"), prD ("row", b "BadRow")]) ++ [prD ("heights", b "BadHeights")])) = P4
    intro t4
    refine wp_nx (app_ok (n := n3) rfl (pr _ _ _ (E (some (.loc n3)) none none none) (cls "TooGreat" (by simp) _ _ _ _) P4) t4.get (by simp)) ?_
    have t5 := t4.set (es := ((([prD ("field", b "BadField"), prD ("fraction", b "BadFraction")] ++ [prD ("rule", b "BadRule"), prD ("spot", b "BadSpot")]) ++ [prD ("target", b "BadTarget"), prD ("row", b "BadRow")]) ++ [prD ("heights", b "BadHeights")]) ++ [prD ("great", b "TooGreat")])
    revert t5
    generalize P4.set n3 (Ob.lst (((([prD ("field", b "BadField"), prD ("fraction", b "BadFraction")] ++ [prD ("rule", b "BadRule"), prD ("spot", b "BadSpot")]) ++ [prD ("target", b "BadTarget"), prD ("row", b "BadRow")]) ++ [prD ("heights", b "BadHeights")]) ++ [prD ("great", b "TooGreat")])) = P5
    generalize hl5 : ((([prD ("field", b "BadField"), prD ("fraction", b "BadFraction")] ++ [prD ("rule", b "BadRule"), prD ("spot", b "BadSpot")]) ++ [prD ("target", b "BadTarget"), prD ("row", b "BadRow")]) ++ [prD ("heights", b "BadHeights")]) ++ [prD ("great", b "TooGreat")] = l5
    have z5 : l5.length = 8 := by rw [← hl5]; rfl
    intro t5
    refine wp_nx (ownAdd_ok (n := n3) rfl t5.get (pl2 _ _ _ _ (E (some (.loc n3)) none none none) (pr _ _ _ _ (cls "NoHollow" (by simp) _ _ _ _)) (pr _ _ _ _ (cls "NoPeak" (by simp) _ _ _ _)) P5) (by simp [z5])) ?_
    have t6 := At.new (ds := l5 ++ [prD ("hollow", b "NoHollow"), prD ("peak", b "NoPeak")]) t5.ex
    revert t6
    generalize P5 ++ [Ob.lst (l5 ++ [prD ("hollow", b "NoHollow"), prD ("peak", b "NoPeak")])] = P6
    generalize P5.length = n6
    intro t6
    refine wp_nx (ownAdd_ok (n := n6) rfl t6.get (pl2 _ _ _ _ (E (some (.loc n6)) none none none) (pr _ _ _ _ (cls "Nought" (by simp) _ _ _ _)) (pr _ _ _ _ (cls "Gone" (by simp) _ _ _ _)) P6) (by simp [z5])) ?_
    have t7 := At.new (ds := (l5 ++ [prD ("hollow", b "NoHollow"), prD ("peak", b "NoPeak")]) ++ [prD ("nought", b "Nought"), prD ("gone", b "Gone")]) t6.ex
    revert t7
    generalize P6 ++ [Ob.lst ((l5 ++ [prD ("hollow", b "NoHollow"), prD ("peak", b "NoPeak")]) ++ [prD ("nought", b "Nought"), prD ("gone", b "Gone")])] = P7
    generalize P6.length = n7
    intro t7
    refine wp_nx (app_ok (n := n7) rfl (pr _ _ _ (E (some (.loc n7)) none none none) (isp _ _ _ _) P7) t7.get (by simp [z5])) ?_
    have t8 := t7.set (es := ((l5 ++ [prD ("hollow", b "NoHollow"), prD ("peak", b "NoPeak")]) ++ [prD ("nought", b "Nought"), prD ("gone", b "Gone")]) ++ [prD ("pairing", b "pairing")])
    revert t8
    generalize P7.set n7 (Ob.lst (((l5 ++ [prD ("hollow", b "NoHollow"), prD ("peak", b "NoPeak")]) ++ [prD ("nought", b "Nought"), prD ("gone", b "Gone")]) ++ [prD ("pairing", b "pairing")])) = P8
    have hl8 : ((l5 ++ [prD ("hollow", b "NoHollow"), prD ("peak", b "NoPeak")]) ++ [prD ("nought", b "Nought"), prD ("gone", b "Gone")]) ++ [prD ("pairing", b "pairing")] = (askL b).map prD := by rw [← hl5]; rfl
    rw [hl8]
    intro t8
    -- the words
    have cw : cutE (compD (set2 9 8) (tstD (nameD 8)) (nameD 9) [8, 9] (itD (nameD 4))) (E (some (.loc n7)) none none none) P8 = ok (.lst [.str w]) P8 := by
      rw [← hw]
      refine compC_at (M := P8) (g := prD) (p := fun p => p.2) (f := fun p : Str × Bool => D.str p.1) (chk := fun M' => M'[n7]? = some (.lst ((askL b).map prD))) (askL b) ?_ (fun acc => ?_) (by simp) (fun p _ => ⟨[some cl, some x, some .non, none, some (.loc n7), none, none, none, some (.bl p.2), some (.str p.1)], rfl, fun _ => rfl, fun _ _ => rfl⟩) (fun _ _ => rfl)
      · unfold itD
        show bindE (ok (D.loc n7) P8) itemsF = _
        rw [bindE_v]
        unfold itemsF
        simp only [t8.get]
      · show (P8 ++ [Ob.lst acc])[n7]? = _
        rw [List.getElem?_append_left (get_lt t8.get)]
        exact t8.get
    refine wp_nx (asg_v cw) ?_
    refine wp_nx (own_ok (pr2 _ _ _ _ (E (some (.loc n7)) (some (.lst [.str w])) none none) (tys "ValueError" (by simp) _ _ _ _) (tys "RuntimeError" (by simp) _ _ _ _) P8) (by simp)) ?_
    have t9 := At.new (ds := [.bl (b "ValueError"), .bl (b "RuntimeError")]) t8.ex
    revert t9
    generalize P8 ++ [Ob.lst [.bl (b "ValueError"), .bl (b "RuntimeError")]] = P9
    generalize P8.length = n9
    intro t9
    refine wp_nx (own_ok (pr2 _ _ _ _ (E (some (.loc n7)) (some (.lst [.str w])) (some (.loc n9)) none) (cls "HollowError" (by simp) _ _ _ _) (cls "DeedError" (by simp) _ _ _ _) P9) (by simp)) ?_
    have tA := At.new (ds := [.bl (b "HollowError"), .bl (b "DeedError")]) t9.ex
    have tB := t9.more (es := [.bl (b "HollowError"), .bl (b "DeedError")])
    have ne : n9 ≠ P9.length := Nat.ne_of_lt (get_lt t9.get)
    revert tA tB ne
    generalize P9 ++ [Ob.lst [.bl (b "HollowError"), .bl (b "DeedError")]] = PA
    generalize P9.length = nA
    intro tA tB ne
    refine wp_nx (app_ok (n := n9) rfl (tys "LookupError" (by simp) (some (.loc n7)) (some (.lst [.str w])) (some (.loc n9)) (some (.loc nA)) PA) tB.get (by simp)) ?_
    have tC := tB.set (es := [.bl (b "ValueError"), .bl (b "RuntimeError")] ++ [.bl (b "LookupError")])
    have tD := tA.other tB ne (fs := [.bl (b "ValueError"), .bl (b "RuntimeError")] ++ [.bl (b "LookupError")])
    revert tC tD
    generalize PA.set n9 (Ob.lst ([.bl (b "ValueError"), .bl (b "RuntimeError")] ++ [.bl (b "LookupError")])) = PB
    intro tC tD
    refine wp_nx (app_ok (n := nA) rfl (cls "BookError" (by simp) (some (.loc n7)) (some (.lst [.str w])) (some (.loc n9)) (some (.loc nA)) PB) tD.get (by simp)) ?_
    have tE := tC.other tD (Ne.symm ne) (fs := [.bl (b "HollowError"), .bl (b "DeedError")] ++ [.bl (b "BookError")])
    have tF := tD.set (es := [.bl (b "HollowError"), .bl (b "DeedError")] ++ [.bl (b "BookError")])
    revert tE tF
    generalize PB.set nA (Ob.lst ([.bl (b "HollowError"), .bl (b "DeedError")] ++ [.bl (b "BookError")])) = PC
    intro tE tF
    let EE : DL.Env := [some cl, some x, some .non, none, some (.loc n7), some (.lst [.str w]), some (.loc n9), some (.loc nA), none, none]
    have q5 : ∀ M, nameD 5 EE M = ok (.lst [.str w]) M := fun _ => rfl
    have q6 : ∀ M, nameD 6 EE M = ok (.loc n9) M := fun _ => rfl
    have q7 : ∀ M, nameD 7 EE M = ok (.loc nA) M := fun _ => rfl
    have q1 : ∀ M, nameD 1 EE M = ok x M := fun _ => rfl
    have i0 : ∀ M, ixF (.lst [.str w]) (.int 0) M = ok (.str w) M := fun _ => ix_lst rfl
    have ne1 : neF (.loc n9) (.loc nA) PC = ok (.bl false) PC := by
      have g1 : pyV PC (.loc n9) = some (.list [.bool (b "ValueError"), .bool (b "RuntimeError"), .bool (b "LookupError")]) := by
        show (getL PC (.loc n9)).bind (fun ds => (D.pys ds).map PyData.list) = _
        rw [show getL PC (.loc n9) = some [.bl (b "ValueError"), .bl (b "RuntimeError"), .bl (b "LookupError")] by simp [getL, tE.get]]
        rfl
      have g2 : pyV PC (.loc nA) = some (.list [.bool (b "HollowError"), .bool (b "DeedError"), .bool (b "BookError")]) := by
        show (getL PC (.loc nA)).bind (fun ds => (D.pys ds).map PyData.list) = _
        rw [show getL PC (.loc nA) = some [.bl (b "HollowError"), .bl (b "DeedError"), .bl (b "BookError")] by simp [getL, tF.get]]
        rfl
      show eqvF true (.loc n9) (.loc nA) PC = _
      unfold eqvF
      simp only [g1, g2]
      rw [hk.1, hk.2.1, hk.2.2]
      cases b "HollowError" <;> cases b "DeedError" <;> cases b "BookError" <;> rfl
    have cn : cntD (nameD 7) (cD (.bl true)) EE PC = ok (.int 1) PC := by
      show bindE (nameD 7 EE PC) _ = _
      rw [q7, bindE_v]
      show (if isL PC nA = true then bindE (cD (.bl true) EE PC) (cntF nA) else none) = _
      rw [if_pos (isL_at tF.get)]
      show cntF nA (.bl true) PC = _
      unfold cntF
      rw [show getL PC (.loc nA) = some [.bl (b "HollowError"), .bl (b "DeedError"), .bl (b "BookError")] by simp [getL, tF.get]]
      show ok (D.int (cntV (.bl true) [.bl (b "HollowError"), .bl (b "DeedError"), .bl (b "BookError")] : Nat)) PC = _
      rw [h1]
      rfl
    have ts : orD (binD (neF) (callD (lenF) (consA (nameD 5) (nilA))) (cD (.int 1))) (orD (binD (neF) (nameD 6) (nameD 7)) (binD (neF) (cntD (nameD 7) (cD (.bl true))) (cD (.int 1)))) EE PC = ok (.bl false) PC := by
      simp [orD, brD, binD, callD, consA, nilA, q5, q6, q7, bindE_v, len_lst, cD, ne_int, ne1]
      rw [cn]
      simp [bindE_v, ne_int]
    refine wp_nx (e' := EE) (M' := PC) (by
      show ifS _ _ _ EE PC = _
      unfold ifS
      rw [ts]
      rfl) ?_
    have ix : ∀ M, binD ixF (nameD 5) (cD (.int 0)) EE M = ok (.str w) M := fun M => (bin_v (q5 M) rfl).trans (i0 M)
    have tin : ∀ M, binD (inF false) (binD ixF (nameD 5) (cD (.int 0))) (tupD (consA (cD (.str "hollow")) (consA (cD (.str "peak")) (consA (cD (.str "nought")) (nilA))))) EE M = ok (.bl (decide (w = "hollow" ∨ w = "peak" ∨ w = "nought"))) M := fun M => by
      refine (bin_v (M2 := M) (b := .tup [.str "hollow", .str "peak", .str "nought"]) (ix M) (by simp [tupD, consA, nilA, cD, bindE_v])).trans ?_
      show ok (D.bl (inV (.str w) [.str "hollow", .str "peak", .str "nought"])) M = _
      unfold inV
      have eu : ∀ u : Str, eqV (.str u) (.str w) = decide (w = u) := fun u => by
        show (u == w) = decide (w = u)
        by_cases z : w = u
        · rw [z, decide_eq_true rfl]
          exact beq_self_eq_true u
        · rw [decide_eq_false z]
          exact beq_eq_false_iff_ne.mpr fun q => z q.symm
      simp only [List.any_cons, List.any_nil, eu, Bool.or_false, Bool.decide_or]
    have teq : ∀ (u : Str) M, binD (eqF) (binD ixF (nameD 5) (cD (.int 0))) (cD (.str u)) EE M = ok (.bl (decide (w = u))) M := fun u M => (bin_v (ix M) rfl).trans eq_str
    have fld : ∀ (o : String → Bool) (f : Str) (d : D), o c = true → List.lookup f fs = some d → ∀ M, unD (fldF o f) (nameD 1) EE M = ok d M := fun o f d q1' q2 M => by
      show bindE (nameD 1 EE M) (fldF o f) = _
      rw [q1, bindE_v, hx]
      unfold fldF
      simp only
      rw [if_pos q1', q2]
    have ps : ∀ (d1 d2 : DenE) (v1 v2 : D), (∀ M, d1 EE M = ok v1 M) → (∀ M, d2 EE M = ok v2 M) → ∀ M, retS (tupD (consA d1 (consA d2 nilA))) EE M = some (.rt (.tup [v1, v2]), M) := fun d1 d2 v1 v2 q1 q2 M => by
      simp [retS, tupD, consA, nilA, bindE_v, q1, q2, thenS_v]
    have fin : ∀ (v' : D), v' = v → ∀ (dn : DenS), dn EE PC = some (.rt v', PC) → Wp (dn EE PC) (fun f M' => f = .rt v ∧ ∃ X, M' = M1 ++ X) := fun v' hv' dn q => ⟨_, _, q, by rw [hv'], tE.ex⟩
    unfold askV at hv
    have ifs : ∀ (dt : DenE) (a : DenS) (rest : DenS) (t : Bool), dt EE PC = ok (.bl t) PC → (t = true → ∃ v', v' = v ∧ a EE PC = some (.rt v', PC)) → (t = false → Wp (rest EE PC) (fun f M' => f = .rt v ∧ ∃ X, M' = M1 ++ X)) → Wp (seqS (ifS dt a nilS) rest EE PC) (fun f M' => f = .rt v ∧ ∃ X, M' = M1 ++ X) := fun dt a rest t q1 q2 q3 => by
      cases t with
      | true =>
        obtain ⟨v', e1, e2⟩ := q2 rfl
        refine ⟨.rt v', PC, ?_, by rw [e1], tE.ex⟩
        refine seq_rt ?_
        unfold ifS
        rw [q1]
        exact e2
      | false =>
        refine wp_nx (e' := EE) (M' := PC) ?_ (q3 rfl)
        unfold ifS
        rw [q1]
        rfl
    refine ifs _ _ _ _ (tin PC) (fun z => ?_) (fun z => ?_)
    · rw [if_pos (of_decide_eq_true z)] at hv
      obtain ⟨d, hd, e1⟩ := Option.map_eq_some_iff.mp hv
      exact ⟨_, e1, ps _ _ _ _ ix (fld o1 "spot" d (ho (of_decide_eq_true z)) hd) PC⟩
    rw [if_neg (of_decide_eq_false z)] at hv
    refine ifs _ _ _ _ (teq "field" PC) (fun z => ?_) (fun z => ?_)
    · rw [if_pos (of_decide_eq_true z)] at hv
      obtain ⟨d, hd, e1⟩ := Option.map_eq_some_iff.mp hv
      exact ⟨_, e1, ps (cD (.str "field")) _ (.str "field") _ (fun _ => rfl) (fld o2 "place" d (ho2 (of_decide_eq_true z)) hd) PC⟩
    rw [if_neg (of_decide_eq_false z)] at hv
    refine ifs _ _ _ _ (teq "great" PC) (fun z => ?_) (fun z => ?_)
    · rw [if_pos (of_decide_eq_true z)] at hv
      obtain ⟨d, hd, e1⟩ := Option.map_eq_some_iff.mp hv
      exact ⟨_, e1, ps (cD (.str "great")) _ (.str "great") _ (fun _ => rfl) (fld o3 "most" d (ho3 (of_decide_eq_true z)) hd) PC⟩
    rw [if_neg (of_decide_eq_false z)] at hv
    by_cases z : w = "row"
    · rw [if_pos z] at hv
      obtain ⟨d, hd, e1⟩ := Option.map_eq_some_iff.mp hv
      refine fin _ e1 _ ?_
      have := ps (cD (.str "row")) _ (.str "row") _ (fun _ => rfl) (fld o4 "number" d (ho4 z) hd) PC
      unfold retS brD
      rw [teq, decide_eq_true z, bindE_v]
      exact this
    · rw [if_neg z] at hv
      refine fin _ (Option.some.inj hv) _ ?_
      unfold retS brD
      rw [teq, decide_eq_false z, bindE_v]
      show thenS (binD ixF (nameD 5) (cD (.int 0)) EE PC) EE _ = _
      rw [ix, thenS_v]
  obtain ⟨f, M', k1, rfl, X, rfl⟩ := key
  exact ⟨X, body_rt k1⟩
noncomputable def gdAsk (T : String → List (Str × D) → Option D) (cden : Store → RE) (M : Store) : RE := match cden M with
  | some (.val v, M1) => cutR M (some (.val (.lst [v]), M1))
  | some (.exc c fs, M1) => (match T c fs with
    | some v => cutR M (some (.val v, M1))
    | none => none)
  | none => none
theorem gdAsk_eq {T : String → List (Str × D) → Option D} (hT : ∀ c fs v, T c fs = some v → (∀ k, v ≠ .loc k) ∧ ∀ (cden : Store → RE) (M M1 : Store), cden M = some (.exc c fs, M1) → ∃ X, ofBody 10 (askDen S ct o1 o2 o3 o4 cl cden) [cl] M = ok v (M1 ++ X)) :
    gdAsk T cden M = none ∨ cutR M (ofBody 10 (askDen S ct o1 o2 o3 o4 cl cden) [cl] M) = gdAsk T cden M := by
  unfold gdAsk
  split
  · rename_i v M1 h
    right
    rw [ask_val h]
    rfl
  · rename_i c fs M1 h
    split
    · rename_i v hv
      obtain ⟨h1, h2⟩ := hT c fs v hv
      obtain ⟨X, h3⟩ := h2 cden M M1 h
      rw [h3]
      exact cutR_more h1
    · exact .inl rfl
  · exact .inl rfl
/-- a deed that tells v -/
theorem gdAsk_val {T : String → List (Str × D) → Option D} {v : D} (h : cden M = ok v M) (hv : nlD 0 v = true) : gdAsk T cden M = ok (.lst [v]) M := by
  unfold gdAsk
  rw [h]
  show cutR M (some (.val (.lst [v]), M)) = _
  unfold cutR
  simp only
  have n1 : nlD M.length (.lst [v]) = true := nl_mono _ (.lst [v]) (by
    show (nlD 0 v && true) = true
    rw [hv]
    rfl)
  have c : CutOk M M := ⟨Nat.le_refl _, fun _ _ _ e => .inl e⟩
  have cd : cutD M.length M (.lst [v]) = some (.lst [v]) := if_pos n1
  rw [if_pos c, cd, List.take_length]
  rfl
/-- a deed that is refused -/
theorem gdAsk_exc {T : String → List (Str × D) → Option D} {c : String} {fs : List (Str × D)} {v : D} (h : cden M = some (.exc c fs, M)) (ht : T c fs = some v) (hv : nlD 0 v = true) : gdAsk T cden M = ok v M := by
  unfold gdAsk
  rw [h]
  simp only [ht]
  unfold cutR
  simp only
  have c : CutOk M M := ⟨Nat.le_refl _, fun _ _ _ e => .inl e⟩
  rw [if_pos c, cutD_pd hv, List.take_length]
  rfl
end
end DL
namespace DL
open PySem L2
section
variable {F : Fx} {X : Cx} {W : WX} {L L1 : List Addr} {H H1 : Hp} {M : Store} {e : DL.Env} {σ : L2.St} {T : Ends} {k : Nat}
/-- +, an empty tuple ahead, too -/
def addGF : D → D → Store → RE
  | .tup [], .tup ys, M => if ys.length ≤ 100000 then ok (.tup ys) M else none
  | x, y, M => addF x y M
abbrev rAddG (K : PySem.W.Frag) : R2 := fun x y H Q => rAddD K x y H Q ∨ rCatA K x y H Q
theorem opr_addG : OpR X (binaryOp .Add) (rAddG X.K) := orR opr_add op_catA
theorem addG_ok : OpOk F (rAddG F.K) addGF := fun d1 d2 M L H e σ W v1 v2 Q sr r1 r2 p => by
  unfold addGF at p
  split at p
  · rename_i ys
    obtain ⟨a, vs, rfl, a2, a3⟩ := r1
    obtain ⟨b, ws, rfl, b2, b3⟩ := r2
    have a3 : vs = [] := a3
    split at p
    · rename_i hz
      refine .inr ⟨a, b, vs, ws, rfl, rfl, (.inl (.inl a2)), (.inl (.inl b2)), ?_, fun _ => p.ok sr ⟨b, ws, rfl, b2, b3⟩, fun z => absurd a3 z, fun z => absurd a3 z⟩
      rw [a3, ← reps_len b3]
      exact Nat.le_trans (Nat.le_of_eq (Nat.zero_add _)) (sz_ok hz)
    · exact False.elim p
  · exact .inl (add_ok d1 d2 M L H e σ W v1 v2 Q sr r1 r2 p)
end
end DL
namespace DL
open PySem L2
theorem meets_enum1 {v : Value} {o : Obj} {H : Heap → Prop} (B : Begins v o H) :
    Meets (Builtin.«enumerate.__new__» { pos := [Value.type "enumerate", v] }) fun _ R s =>
      H s.heap ∧ R (.ok (.ret (.ref (s.heap.push o).objs.size))) { heap := (s.heap.push o).push {cls := .type "enumerate", data := .fields #[.none, .bool false, .ref s.heap.objs.size, rawInt 0, .none, .none]}, gens := s.gens, drawn := s.drawn, toks := s.toks, os := s.os } := by
  refine Meets.of_wp (fun prog w A R s h => ?_)
  rcases s with ⟨hp, g, d, tk, os⟩
  obtain ⟨h1, h⟩ := h
  have hsub := sub_enumerate
  have q1 : ∀ {A' E Q}, Q (Value.ref hp.objs.size) { heap := hp.push o, gens := g, drawn := d, toks := tk, os := os } → wpAny (model prog w) A' (pyIter v) Q E { heap := hp, gens := g, drawn := d, toks := tk, os := os } := fun {A'} {E Q} q => B.iter prog w A' E { heap := hp, gens := g, drawn := d, toks := tk, os := os } Q h1 q
  unfold Builtin.«enumerate.__new__»
  refine wpAny_bind ?_
  refine wpAny_bind ?_
  refine wpAny_pure ?_
  apply wpAny_ite_false (by first | rfl | decide)
  refine wpAny_bind ?_
  refine wpAny_of_eq hsub ?_
  apply wpAny_ite_false (by first | rfl | decide)
  refine wpAny_pure ?_
  apply wpAny_ite_true (by first | rfl | decide)
  refine wpAny_bind ?_
  refine wpAny_bind ?_
  refine wpAny_stack_any fun st => ?_
  refine wpAny_pure ?_
  split
  · rename_i c tl kw sn tl2 hh
    generalize (c == Value.type "enumerate") = sh
    cases sh
    · apply wpAny_ite_false (by first | rfl | decide)
      refine wpAny_bind ?_
      refine wpAny_of_eq (show _ = (pure (v, (none : Option Value)) : Sem _) from rfl) ?_
      refine wpAny_bind (q1 ?_)
      refine wpAny_bind ?_
      unfold Builtin.SmallTypes.newRecord
      dsimp only
      unfold newObj
      dsimp only
      apply wpAny_ite_false (by rfl)
      unfold newObjAsIs
      refine wpAny_bind <| wpAny_alloc' ?_
      refine wpAny_pure ?_
      refine wpAny_pure ?_
      exact ⟨_, rfl, h⟩
    · apply wpAny_ite_true (by first | rfl | decide)
      refine wpAny_bind ?_
      refine wpAny_pure ?_
      refine wpAny_bind (q1 ?_)
      refine wpAny_bind ?_
      unfold Builtin.SmallTypes.newRecord
      dsimp only
      unfold newObj
      dsimp only
      apply wpAny_ite_false (by rfl)
      unfold newObjAsIs
      refine wpAny_bind <| wpAny_alloc' ?_
      refine wpAny_pure ?_
      refine wpAny_pure ?_
      exact ⟨_, rfl, h⟩
  · apply wpAny_ite_false (by first | rfl | decide)
    refine wpAny_bind ?_
    refine wpAny_of_eq (show _ = (pure (v, (none : Option Value)) : Sem _) from rfl) ?_
    refine wpAny_bind (q1 ?_)
    refine wpAny_bind ?_
    unfold Builtin.SmallTypes.newRecord
    dsimp only
    unfold newObj
    dsimp only
    apply wpAny_ite_false (by rfl)
    unfold newObjAsIs
    refine wpAny_bind <| wpAny_alloc' ?_
    refine wpAny_pure ?_
    refine wpAny_pure ?_
    exact ⟨_, rfl, h⟩
theorem call_enum1 {prog : Program} {w : World} {A : Around} {E : Value → Shared → Prop} {s : Shared} {v : Value} {o : Obj} {H : Heap → Prop} {Q : Value → Shared → Prop} (B : Begins v o H) (h0 : H s.heap)
    (h : ∀ (h' : Heap), IsEnum h' (s.heap.objs.size + 1) s.heap.objs.size 0 Value.none → h'.get? s.heap.objs.size = some o → h'.objs.size = s.heap.objs.size + 2 →
      (∀ (b : Addr) (o : Obj), s.heap.get? b = some o → h'.get? b = some o) → Q (Value.ref (s.heap.objs.size + 1)) { heap := h', gens := s.gens, drawn := s.drawn, toks := s.toks, os := s.os }) :
    wpAny (model prog w) A (call (Value.type "enumerate") [v]) Q E s := by
  refine callType_new F.called_enumerate (by decide) (F.typeCall_enumerate_1 v) (F.newCall_enumerate_1 v) (fun obj => F.args_object_init_2 obj v) F.entry_enumerate_new (meets_enum1 B) ⟨h0, ?_⟩
  have hz : (s.heap.push o).objs.size = s.heap.objs.size + 1 := Heap.size_push s.heap o
  have he := Heap.get?_push_size (s.heap.push o) (o := { cls := Value.type "enumerate", data := Data.fields #[Value.none, Value.bool false, Value.ref s.heap.objs.size, rawInt 0, Value.none, Value.none] }) rfl
  rw [hz] at he
  show _ ∧ _
  simp only [hz]
  refine ⟨⟨_, he, rfl⟩, h _ he (Heap.get?_push_of_some _ (Heap.get?_push_size s.heap B.free)) (by rw [Heap.size_push, hz]) fun b o y => Heap.get?_push_of_some _ (Heap.get?_push_of_some _ y)⟩
/-- enumerate over a tuple -/
def IteT (K : W.Frag) (a : Addr) : It where
  go := fun i H => ∃ xs x, SqT K H a xs ∧ xs[i]? = some x
  yld := fun i H v H' => ∃ T x, v = .ref T ∧ H T = none ∧ H' = upd H T (.tup [.int i, x]) ∧ ∀ xs, SqT K H a xs → xs[i]? = some x
  stop := fun i H => ∃ xs, SqT K H a xs ∧ xs.length = i
theorem hget_lt {h : Heap} {a : Addr} {o : Obj} (e : h.get? a = some o) : a < h.objs.size := by
  by_cases z : a < h.objs.size
  · exact z
  · have z2 : h.objs[a]? = none := Array.getElem?_eq_none (Nat.le_of_not_lt z)
    unfold Heap.get? at e
    rw [z2] at e
    cases e
theorem sqt_ne {s : Shared} {a b it : Addr} {i : Nat} {its : Array Value} (ht : PyProof.Rows.IsTup s.heap a its) (h : s.heap.IsTupleIter it b i) : a ≠ it := by
  rintro rfl
  obtain ⟨o, h1, h2, h3⟩ := ht
  obtain ⟨o', g1, g2, g3⟩ := h
  rw [h1] at g1
  cases g1
  rw [h2] at g2
  exact absurd g2 (by decide)
theorem turn_enumT {P : Program} {w : World} {K : W.Frag} {elts : List Expr} {kk : Nat} {tpos : Pos} (a e it : Addr) :
    Turn P w K (.Tuple elts kk tpos) (IteT K a) [e, it] e (fun i h => (∃ old, IsEnum h e it (i : Nat) old) ∧ h.IsTupleIter it a i ∧ e ≠ it) := by
  refine ⟨by simp, fun i h ⟨⟨old, h1⟩, ⟨o, h2, h3, h4⟩, h5⟩ b hb => ?_, fun i h h' ⟨⟨old, h1⟩, ⟨o, h2, h3, h4⟩, h5⟩ k => ?_, ?_, ?_, fun A i s Q E ⟨⟨old, h1⟩, _⟩ q => wpAny_pyIter_enum h1 q⟩
  · simp only [List.not_mem_nil, or_false, List.mem_cons] at hb
    rcases hb with rfl | rfl
    · exact ⟨_, h1, fun v z => by cases z⟩
    · exact ⟨o, h2, fun v z => by rw [h4] at z; cases z⟩
  · exact ⟨⟨old, k e (by simp) _ h1⟩, ⟨o, k it (by simp) _ h2, h3, h4⟩, h5⟩
  · rintro X rfl rfl rfl hc i pins s σ H E I hf ⟨⟨old, h1⟩, h2, h5⟩ ⟨xs, x, q, hx⟩
    obtain ⟨its, rv, p, hz⟩ := I.tuple q
    have pt : s.heap.IsTuple a its.toArray := p
    have hne : a ≠ it := sqt_ne p h2
    have hea : e ≠ a := by
      rintro rfl
      obtain ⟨o, g1, g2, g3⟩ := p
      rw [h1] at g1
      cases g1
      exact Value.noConfusion g2 (fun z => absurd z (by decide))
    have hi : i < its.toArray.size := by
      have := (List.getElem?_eq_some_iff.mp hx).1
      rw [List.size_toArray, ← Paired.length rv]
      exact this
    have G := GoesN.enumFrom (elts := elts) (x1 := kk) (pos := tpos) (prog := X.prog) (w := X.w) (A := X.A) (0 : Int) (Draws.tuple (prog := X.prog) (w := X.w) (A := X.A.in1) (I.ok.hd hc) it a hne its.toArray) e h5 (by simp [h5, hea]) (by simp)
    refine G.goes i s (fun v s2 => _) E hi ⟨⟨old, by simpa using h1⟩, h2, pt⟩ fun v h' tk ⟨T, t, y, hv, hT, hy, hp⟩ ⟨⟨old', k1⟩, k2, k3⟩ keep htk => ?_
    subst hv
    rcases rv.get hx with ⟨u, hu, ru⟩
    have e1 : y = u := by
      rw [List.getElem?_toArray, hu] at hy
      exact (Option.some.inj hy).symm
    subst e1
    have hTn : H T = none := I.hok.fresh hT
    have I2 : L2.Inv X pins σ (upd H T (.tup [.int i, x])) { heap := h', gens := s.gens, drawn := s.drawn, toks := tk, os := s.os } := by
      refine I.turnedNew (ch := [e, it]) keep hf hT ?_
      rw [ObjOk.eq_2]
      refine ⟨by show 2 ≤ sizeLine; decide, [.int ((0 : Int) + (i : Nat)) t, y], .cons ⟨t, by simp⟩ (.cons ru .nil), hp⟩
    refine ⟨.ref T, _, I2, rfl, ⟨T, x, rfl, hTn, rfl, fun zs hz2 => ?_⟩, ⟨⟨old', by simpa using k1⟩, k2, h5⟩, fun b hb => ?_⟩
    · rw [I.tuple_inj hz2 q]
      exact hx
    · have hb0 : ∃ o, s.heap.get? b = some o := by
        simp only [List.not_mem_nil, or_false, List.mem_cons] at hb
        rcases hb with rfl | rfl
        · exact ⟨_, h1⟩
        · obtain ⟨o, g1, _⟩ := h2
          exact ⟨o, g1⟩
      obtain ⟨o, g1⟩ := hb0
      have hbT : b ≠ T := by
        rintro rfl
        exact absurd (hget_lt g1) (Nat.not_lt_of_le hT)
      show (if b = T then _ else H b) = none
      rw [if_neg hbT]
      exact (hf b hb).1
  · rintro X rfl rfl rfl hc i pins s σ H E I hf ⟨⟨old, h1⟩, h2, h5⟩ ⟨xs, q, hx⟩
    obtain ⟨its, rv, p, hz⟩ := I.tuple q
    have pt : s.heap.IsTuple a its.toArray := p
    have hne : a ≠ it := sqt_ne p h2
    have hea : e ≠ a := by
      rintro rfl
      obtain ⟨o, g1, g2, g3⟩ := p
      rw [h1] at g1
      cases g1
      exact Value.noConfusion g2 (fun z => absurd z (by decide))
    have hi : i = its.toArray.size := by
      rw [List.size_toArray, ← Paired.length rv]
      exact hx.symm
    have G := GoesN.enumFrom (elts := elts) (x1 := kk) (pos := tpos) (prog := X.prog) (w := X.w) (A := X.A) (0 : Int) (Draws.tuple (prog := X.prog) (w := X.w) (A := X.A.in1) (I.ok.hd hc) it a hne its.toArray) e h5 (by simp [h5, hea]) (by simp)
    refine G.stops s (fun s2 => L2.Inv X pins σ H s2) E ⟨⟨old, by rw [← hi]; simpa using h1⟩, hi ▸ h2, pt⟩ fun h' tk keep htk => I.turnedL (ch := [e, it]) keep hf
def iEnum2 (K : PySem.W.Frag) (ta : TA) : TI := fun σ H R => ta σ H fun vs H1 => ∃ a, vs = [.ref a] ∧ (((∃ xs, SqL K H1 a xs) ∧ R (Ite K a) H1) ∨ ((∃ xs, SqT K H1 a xs) ∧ R (IteT K a) H1))
theorem pi_enum2 {X : Cx} {e : Expr} {ta : TA} {p pos tpos : Pos} {elts : List Expr} {kk : Nat} (hg : Gl X "enumerate") (hm : X.mg "enumerate" = none) (ha : PA X [e] ta) (hs : starEach [e] X.env = [(false, eval e X.env)]) :
    PI X (.Tuple elts kk tpos) (.Call (.Name "enumerate" p) [e] [] pos) (iEnum2 X.K ta) := by
  refine ⟨fun pns s σ H R I h => PyProof.Rows.Call_ (ld_blt I hg hm PyProof.Rows.boot_enumerate (PyProof.Rows.callWith_type1 (thn (ha.run pos pns s σ H _ I h) fun us s1 hh => ?_) hs rfl))⟩
  obtain ⟨vs, H1, I1, r1, a, rfl, q⟩ := hh
  obtain rfl := r1.ref1
  have nne : s1.heap.objs.size + 1 ≠ s1.heap.objs.size := by omega
  have hfp : ∀ b ∈ [s1.heap.objs.size + 1, s1.heap.objs.size], FpOk X pns H1 b := by
    intro b hb
    simp only [List.not_mem_nil, or_false, List.mem_cons] at hb
    rcases hb with rfl | rfl
    · exact I1.fpOk (Nat.le_succ _) (I1.hok.fresh (Nat.le_succ _))
    · exact I1.fpOk Nat.le.refl (I1.hok.fresh Nat.le.refl)
  rcases q with ⟨⟨xs, hq⟩, q⟩ | ⟨⟨xs, hq⟩, q⟩
  · obtain ⟨its, rv, p2, hz⟩ := I1.list hq
    refine call_enumerate_list p2.isList fun h' k1 k2 k3 keep => wpAny_pyIter_enum k1 ?_
    exact ⟨_, _, _, _, H1, rfl, I1.kept (t' := s1.toks) keep, turn_enum a _ _, ⟨⟨_, k1⟩, k2, nne⟩, hfp, q⟩
  · obtain ⟨its, rv, p2, hz⟩ := I1.tuple hq
    refine call_enum1 (begins_tuple a its.toArray) (show s1.heap.IsTuple a its.toArray from p2) fun h' k1 k2 k3 keep => wpAny_pyIter_enum k1 ?_
    exact ⟨_, _, _, _, H1, rfl, I1.kept (t' := s1.toks) keep, turn_enumT a _ _, ⟨⟨_, k1⟩, ⟨_, k2, rfl, rfl⟩, nne⟩, hfp, q⟩
section
variable {F : Fx} {X : Cx} {W : WX} {L L1 : List Addr} {H H1 : Hp} {M : Store} {e : DL.Env} {σ : L2.St} {T : Ends} {k : Nat}
/-- numbered things -/
def enumI : Nat → List D → List D
  | _, [] => []
  | k, d :: r => .tup [.int (k : Int), d] :: enumI (k + 1) r
theorem enum_len (ds : List D) : ∀ k, (enumI k ds).length = ds.length := by
  induction ds with
  | nil => intro k; rfl
  | cons d r ih => intro k; simp [enumI, ih]
theorem enum_get (ds : List D) : ∀ (k i : Nat), (enumI k ds)[i]? = ds[i]?.map fun d => .tup [.int ((k + i : Nat) : Int), d] := by
  induction ds with
  | nil => intro k i; rfl
  | cons d r ih =>
    intro k i
    cases i with
    | zero => rfl
    | succ i =>
      show (enumI (k + 1) r)[i]? = _
      rw [ih, List.getElem?_cons_succ]
      congr 1
      funext x
      rw [show k + 1 + i = k + (i + 1) by omega]
def enumD (dr : DenA) : DenI := fun e M => bindE (dr e M) fun ds M1 => match ds with
  | [d] => bindE (itemsF d M1) fun p M2 => ok (enumI 0 p.1, p.2) M2
  | _ => none
theorem stp_tup {H' : Hp} {M' : Store} {L' : List Addr} {Tt : Addr} {i : Nat} {x : V} {d : D} (m : SM F L' H' M') (hT : H' Tt = none) (r : Rep F L' H' d x) : Stp L' H' L' (upd H' Tt (.tup [.int (i : Nat), x])) ∧ SM F L' (upd H' Tt (.tup [.int (i : Nat), x])) M' ∧ Rep F L' (upd H' Tt (.tup [.int (i : Nat), x])) (.tup [.int ((0 + i : Nat) : Int), d]) (.ref Tt) := by
  have s : Stp L' H' L' (upd H' Tt (.tup [.int (i : Nat), x])) := Stp.alloc hT
  refine ⟨s, m.alloc hT, ⟨Tt, _, rfl, upd_same, .int (i : Nat), [x], rfl, ?_, x, [], rfl, Rep.stay m s _ _ r, rfl⟩⟩
  rw [Nat.zero_add]
  rfl
theorem walk_enumL {a : Addr} {ds : List D} {chk : Store → Prop} (h : ∀ (L' : List Addr) (H' : Hp) (M' : Store), Stp L H L' H' → SM F L' H' M' → chk M' → ∃ ws, SqL F.K H' a ws ∧ Reps F L' H' ds ws) : Walk F L H (Ite F.K a) (enumI 0 ds) chk := by
  refine ⟨fun L' H' M' s m' c => ?_, fun i d hd L' H' M' s m' c => ?_⟩
  · obtain ⟨ws, q, rr⟩ := h L' H' M' s m' c
    rw [enum_len]
    exact ⟨ws, q, Nat.le_of_eq (reps_len rr).symm⟩
  · rw [enum_get] at hd
    obtain ⟨d0, hd0, rfl⟩ := Option.map_eq_some_iff.mp hd
    obtain ⟨ws, q, rr⟩ := h L' H' M' s m' c
    obtain ⟨y, h1, h2⟩ := reps_get rr hd0
    refine ⟨⟨ws, y, q, h1⟩, fun x H'' hy => ?_⟩
    obtain ⟨Tt, x0, rfl, hT, rfl, z⟩ := hy
    have e := z ws q
    rw [h1] at e
    cases e
    exact stp_tup m' hT h2
theorem walk_enumT {a : Addr} {vs : List V} {ds : List D} {chk : Store → Prop} (m : SM F L H M) (q0 : SqT F.K H a vs) (r : Reps F L H ds vs) : Walk F L H (IteT F.K a) (enumI 0 ds) chk := by
  refine ⟨fun L' H' M' s m' c => ?_, fun i d hd L' H' M' s m' c => ?_⟩
  · rw [enum_len]
    exact ⟨vs, sqt_stay m s q0, (reps_len r).symm⟩
  · rw [enum_get] at hd
    obtain ⟨d0, hd0, rfl⟩ := Option.map_eq_some_iff.mp hd
    obtain ⟨y, h1, h2⟩ := reps_get r hd0
    refine ⟨⟨vs, y, sqt_stay m s q0, h1⟩, fun x H'' hy => ?_⟩
    obtain ⟨Tt, x0, rfl, hT, rfl, z⟩ := hy
    have e := z vs (sqt_stay m s q0)
    rw [h1] at e
    cases e
    exact stp_tup m' hT (Rep.stay m s _ _ h2)
theorem di_enum {elts : List Expr} {kk : Nat} {tpos : Pos} {l : Expr} {da : DenE} {p pos : Pos} (hm : X.mg "enumerate" = none) (ha : DE F X W l da) (hK : X.K = F.K := by rfl) (hg : Gl X "enumerate" := by rfl) (hse : starEach [l] X.env = [(false, eval l X.env)] := by rfl) (hst : starEach (l :: []) X.env = (false, eval l X.env) :: starEach [] X.env := by rfl) :
    DI F X W (.Tuple elts kk tpos) (.Call (.Name "enumerate" p) [l] [] pos) (enumD (consA da nilA)) := by
  obtain ⟨t, pa, qa⟩ := da_cons ha da_nil hst
  refine ⟨_, pi_enum2 hg hm pa hse, fun e M L σ H R sr pp => qa e M L σ H _ sr (PostG.bind (fun ds M1 L1 H1 vs s1 r1 rv p2 => ?_) pp)⟩
  rw [hK]
  split at p2
  · rename_i d
    obtain ⟨v, ev, rw1⟩ := reps1 rv
    clear rv
    subst ev
    cases d with
    | tup ds =>
      obtain ⟨a, vs, rfl, a2, a3⟩ := rw1
      refine ⟨a, rfl, .inr ⟨⟨vs, (.inl (.inl a2))⟩, p2.ok r1 (walk_enumT r1.m (.inl (.inl a2)) a3)⟩⟩
    | lst ds =>
      obtain ⟨a, vs, rfl, a2, a3⟩ := rw1
      refine ⟨a, rfl, .inl ⟨⟨vs, (LstAt.sq (L := L1) (.inl a2))⟩, p2.ok r1 (walk_enumL fun L' H' M' s m' _ => ⟨vs, (LstAt.stay r1.m s (.inl a2)).sq, Reps.stay r1.m s _ _ a3⟩)⟩⟩
    | scr ns =>
      obtain ⟨a, rfl, a2⟩ := rw1
      have a3 : LstAt F.K L1 H1 a (ns.map V.int) := .inr a2
      refine ⟨a, rfl, .inl ⟨⟨_, a3.sq⟩, p2.ok r1 (walk_enumL fun L' H' M' s m' _ => ⟨_, (LstAt.stay r1.m s a3).sq, reps_ints ns⟩)⟩⟩
    | loc n =>
      obtain ⟨a, rfl, a2⟩ := rw1
      unfold itemsF at p2
      simp only at p2
      split at p2
      · rename_i ds hm
        obtain ⟨vs, k1, k2⟩ := r1.m.obs n a _ a2 hm
        refine ⟨a, rfl, .inl ⟨⟨vs, .inl (.inl k1)⟩, p2.ok r1 (walk_enumL fun L' H' M' s m' c => ?_)⟩⟩
        obtain ⟨ws, j1, j2⟩ := m'.obs n a _ (s.get a2) c
        exact ⟨ws, .inl (.inl j1), j2⟩
      · exact False.elim p2
    | non => exact False.elim p2
    | bl b => exact False.elim p2
    | int i => exact False.elim p2
    | str x => exact False.elim p2
    | emp => exact False.elim p2
    | exc c fs => exact False.elim p2
    | ty n => exact False.elim p2
    | cls n => exact False.elim p2
    | clo f c q σd is ds => exact False.elim p2
    | ktp ns =>
      obtain ⟨a, rfl, a2⟩ := rw1
      have a3 : SqT F.K H1 a (ns.map V.int) := .inr a2
      exact ⟨a, rfl, .inr ⟨⟨_, a3⟩, p2.ok r1 (walk_enumT r1.m a3 (reps_ints ns))⟩⟩
  · exact False.elim p2
end
end DL
namespace DL
open PySem L2
mutual
inductive Dq (K : PySem.W.Frag) (H : Hp) : V → PyData → Prop where
  | non : Dq K H .non .none
  | bl (b : Bool) : Dq K H (.bl b) (.bool b)
  | int (i : Int) : Dq K H (.int i) (.int i)
  | str (x : Str) : Dq K H (.str x) (.str x)
  | lst {a : Addr} {xs : List V} {ds : List PyData} (hs : SqL K H a xs) (ha : DqAll K H xs ds) : Dq K H (.ref a) (.list ds)
  | tup {a : Addr} {xs : List V} {ds : List PyData} (hs : SqT K H a xs) (ha : DqAll K H xs ds) : Dq K H (.ref a) (.tuple ds)
  | dct {a : Addr} (ha : H a = some (.dK [])) : Dq K H (.ref a) (.dict [])
inductive DqAll (K : PySem.W.Frag) (H : Hp) : List V → List PyData → Prop where
  | nil : DqAll K H [] []
  | cons {v : V} {vs : List V} {d : PyData} {ds : List PyData} (h : Dq K H v d) (t : DqAll K H vs ds) : DqAll K H (v :: vs) (d :: ds)
end
section
variable {pins : List (Addr × Obj)} {X : Cx} {σ : L2.St} {H : Hp} {s : Shared}
/-- what repr needs of a value -/
def RQ (X : Cx) (s : Shared) (u : Value) (d : PyData) : Prop :=
  (∃ as, Reads s.heap u d as) ∧ (d.showable = true → d.shown.length ≤ sizeLine → ∃ bs, ReadAtMost s.heap d.depth bs ∧ ReprK X.prog X.w bs s.heap d.depth u d.shown)
def RQA (X : Cx) (s : Shared) (us : List Value) (ds : List PyData) : Prop :=
  (∃ as, ReadsAll s.heap us ds as) ∧ (PyData.showableAll ds = true → (∀ t ∈ PyData.shownAll ds, t.length ≤ sizeLine) → ∃ bs, ReadAtMost s.heap (PyData.depthAll ds) bs ∧ ReprAllK X.prog X.w bs s.heap (PyData.depthAll ds) us (PyData.shownAll ds))
theorem emp_at (I : L2.Inv X pins σ H s) {a : Addr} (ha : H a = some (.dK [])) : ∃ o n, s.heap.get? a = some o ∧ o.cls = .type "dict" ∧ o.data = .dict #[] n ∧ (a == sysModules) = false := by
  have h := I.hok a _ ha
  rw [ObjOk.eq_3] at h
  obtain ⟨_, h1, vs, hv, o, es, ep, g1, g2, g3, g4, g5, g6⟩ := h
  cases hv
  refine ⟨o, ep, g1, g2.1, ?_, h1⟩
  rw [g3]
  obtain ⟨es⟩ := es
  cases g5
  rfl
theorem ram0 {h : Heap} {n : Nat} : ReadAtMost h n [] := fun _ z => nomatch z
mutual
theorem Dq.rq (I : L2.Inv X pins σ H s) : ∀ {v : V} {d : PyData} {u : Value}, Dq X.K H v d → RelV v u → RQ X s u d
  | _, _, u, .non, r => by
    obtain rfl : u = .none := r
    exact ⟨⟨_, .none⟩, fun _ _ => ⟨[], ram0, ReprK.of_is .none _ _ _⟩⟩
  | _, _, u, .bl b, r => by
    obtain rfl : u = .bool b := r
    exact ⟨⟨_, .bool b⟩, fun _ _ => ⟨[], ram0, ReprK.of_is (.bool b) _ _ _⟩⟩
  | _, _, u, .int i, r => by
    obtain ⟨t, rfl⟩ : ∃ t, u = .int i t := r
    exact ⟨⟨_, .int i t⟩, fun h _ => ⟨[], ram0, ReprK.of_is (.int t (of_decide_eq_true h)) _ _ _⟩⟩
  | _, _, u, .str x, r => by
    obtain ⟨t, rfl⟩ : ∃ t, u = .str x t := r
    exact ⟨⟨_, .str x t⟩, fun _ h => ⟨[], ram0, ReprK.of_is (.str x t h) _ _ _⟩⟩
  | _, _, u, @Dq.lst _ _ a xs ds hs ha, r => by
    obtain rfl : u = .ref a := r
    obtain ⟨its, rv, ⟨o, n, g1, g2, g3, g4⟩, hz⟩ := I.list hs
    obtain ⟨⟨as, rd⟩, q⟩ := DqAll.rq I ha rv
    have rl : Reads s.heap (.ref a) (.list ds) (a :: as) := .list g1 g2 g4 rd
    refine ⟨⟨_, rl⟩, fun hs2 hl => ?_⟩
    obtain ⟨bs, hb, hk⟩ := q hs2 fun t ht => Nat.le_trans (listText_mem_le ht) hl
    have hna : ¬ a ∈ bs := not_mem_of_deeper rl (Nat.lt_succ_self _) hb
    refine ⟨a :: bs, ReadAtMost.cons rl (Nat.le_succ _) hb, ?_⟩
    cases rv with
    | nil =>
      cases rd
      exact (ReprK.listEmpty g1 g2 g4)
    | cons rr rt =>
      exact ReprK.list g1 g2 g4 hna (by rw [List.size_toArray]; exact hk.length_eq) fun i y hy => hk.item i y (by simpa using hy)
  | _, _, u, @Dq.tup _ _ a xs ds hs ha, r => by
    obtain rfl : u = .ref a := r
    obtain ⟨its, rv, ⟨o, g1, g2, n, g4⟩, hz⟩ := I.tuple hs
    obtain ⟨⟨as, rd⟩, q⟩ := DqAll.rq I ha rv
    have rl : Reads s.heap (.ref a) (.tuple ds) as := .tuple g1 g2 g4 rd
    refine ⟨⟨_, rl⟩, fun hs2 hl => ?_⟩
    obtain ⟨bs, hb, hk⟩ := q hs2 fun t ht => Nat.le_trans (tupleText_mem_le ht) hl
    have hna : ¬ a ∈ bs := not_mem_of_deeper rl (Nat.lt_succ_self _) hb
    exact ⟨a :: bs, ReadAtMost.cons rl (Nat.le_succ _) hb, ReprK.tuple g1 g2 g4 hna hk⟩
  | _, _, u, @Dq.dct _ _ a ha, r => by
    obtain rfl : u = .ref a := r
    obtain ⟨o, n, g1, g2, g3, g4⟩ := emp_at I ha
    have rl : Reads s.heap (.ref a) (.dict []) (a :: [] ++ []) := .dict g1 g2 g3 .nil .nil
    refine ⟨⟨_, rl⟩, fun hs2 hl => ⟨[a], ReadAtMost.cons rl (Nat.zero_le _) (n := 0) ram0, ?_⟩⟩
    exact ReprK.dict (d := 0) g1 g2 g3 g4 (fun h => nomatch h) .nil
theorem DqAll.rq (I : L2.Inv X pins σ H s) : ∀ {vs : List V} {ds : List PyData} {us : List Value}, DqAll X.K H vs ds → Vals vs us → RQA X s us ds
  | _, _, _, .nil, .nil => ⟨⟨_, .nil⟩, fun _ _ => ⟨[], ram0, .nil⟩⟩
  | _, _, _, @DqAll.cons _ _ v vs d ds h t, .cons r rt => by
    obtain ⟨⟨as, r1⟩, q1⟩ := Dq.rq I h r
    obtain ⟨⟨as2, r2⟩, q2⟩ := DqAll.rq I t rt
    refine ⟨⟨_, .cons r1 r2⟩, fun hs hl => ?_⟩
    have hs' : (d.showable && PyData.showableAll ds) = true := hs
    rw [Bool.and_eq_true] at hs'
    obtain ⟨bs, hb, hk⟩ := q1 hs'.1 (hl _ (List.mem_cons_self ..))
    obtain ⟨bs2, hb2, hk2⟩ := q2 hs'.2 fun t ht => hl t (List.mem_cons_of_mem _ ht)
    have m1 : d.depth ≤ PyData.depthAll (d :: ds) := Nat.le_max_left _ _
    have m2 : PyData.depthAll ds ≤ PyData.depthAll (d :: ds) := Nat.le_max_right _ _
    exact ⟨bs ++ bs2, ReadAtMost.append (hb.mono m1) (hb2.mono m2), .cons ((hk.level_le m1).more fun b hb => List.mem_append_left _ hb) (hk2.more_le (fun b hb => List.mem_append_right _ hb) m2)⟩
end
end
section
variable {F : Fx} {X : Cx} {W : WX} {L L1 : List Addr} {H H1 : Hp} {M : Store} {e : DL.Env} {σ : L2.St} {T : Ends} {k : Nat}
def rRepE (K : PySem.W.Frag) : List V → Hp → VK → Prop := fun vs H Q => ∃ v d, vs = [v] ∧ Dq K H v d ∧ d.showable = true ∧ d.depth ≤ 60 ∧ d.shown.length ≤ sizeLine ∧ Q (.str d.shown) H
theorem callr_reprE (hg : X.A.guards = some []) (hu : X.A.units + 64 < cLine) : CallR X (.builtin "repr") (rRepE X.K) := by
  intro p₀ s₀ σ₀ H₀ vs us Q₀ I₀ r h
  obtain ⟨v, d, rfl, hd, h1, h3, h4, q⟩ := h
  obtain ⟨u, eu1, rx⟩ := vals1 r
  subst eu1
  cases hd with
  | non =>
    have z : u = .none := rx
    subst z
    exact P.repr_of_none ⟨.str _, H₀, I₀.tok _, ⟨_, rfl⟩, q⟩
  | bl b =>
    have z : u = .bool b := rx
    subst z
    exact P.repr_of_bool ⟨.str _, H₀, I₀.tok _, ⟨_, rfl⟩, q⟩
  | int i =>
    obtain ⟨k, rfl⟩ := rx
    exact P.repr_of_int (of_decide_eq_true h1) ⟨.str _, H₀, I₀.tok _, ⟨_, rfl⟩, q⟩
  | str x =>
    obtain ⟨k, rfl⟩ := rx
    exact P.repr_of_str ⟨.str _, H₀, I₀.tok _, ⟨_, rfl⟩, q⟩ h4
  | @lst a xs ds hs ha =>
    obtain rfl : u = .ref a := rx
    obtain ⟨its, rv, ⟨o, n, g1, g2, g3, g4⟩, hz⟩ := I₀.list hs
    obtain ⟨⟨as, rd⟩, qa⟩ := DqAll.rq I₀ ha rv
    have rl : Reads s₀.heap (.ref a) (.list ds) (a :: as) := .list g1 g2 g4 rd
    obtain ⟨bs, hb, hk⟩ := qa h1 fun t ht => Nat.le_trans (listText_mem_le ht) h4
    have hna : ¬ a ∈ bs := not_mem_of_deeper rl (Nat.lt_succ_self _) hb
    have hd : PyData.depthAll ds + 1 ≤ 60 := h3
    refine call_repr_slot (by omega) ⟨o, g1, g2⟩ (Slot.toG F.slot_list_repr) ?_
    cases rv with
    | nil =>
      cases rd
      exact call_list_repr_empty ⟨o, g1, g2⟩ g1 g4 ⟨_, _, rfl, .str _, H₀, I₀.tok _, ⟨_, rfl⟩, q⟩
    | cons rr rt =>
      exact call_list_reprK g1 g2 g4 hna (by rw [List.size_toArray]; exact hk.length_eq) (fun i y hy => hk.item i y (by simpa using hy)) (g := []) hg (fun b _ => Clear.nil b) (show X.A.units + 1 + (PyData.depthAll ds + 1) < cLine by omega) (fun _ _ z => z) (fun h' u tk hk => ⟨_, _, rfl, .str _, H₀, I₀.kept (t' := tk) hk, ⟨_, rfl⟩, q⟩) h4
  | @tup a xs ds hs ha =>
    obtain rfl : u = .ref a := rx
    obtain ⟨its, rv, ⟨o, g1, g2, n, g4⟩, hz⟩ := I₀.tuple hs
    obtain ⟨⟨as, rd⟩, qa⟩ := DqAll.rq I₀ ha rv
    have rl : Reads s₀.heap (.ref a) (.tuple ds) as := .tuple g1 g2 g4 rd
    obtain ⟨bs, hb, hk⟩ := qa h1 fun t ht => Nat.le_trans (tupleText_mem_le ht) h4
    have hna : ¬ a ∈ bs := not_mem_of_deeper rl (Nat.lt_succ_self _) hb
    have hd : PyData.depthAll ds + 1 ≤ 60 := h3
    refine call_repr_slot (by omega) ⟨o, g1, g2⟩ F.slot_tuple_repr ?_
    exact call_tuple_reprK g1 g2 g4 hna hk (g := []) hg (fun b _ => Clear.nil b) (show X.A.units + 1 + (PyData.depthAll ds + 1) < cLine by omega) (fun _ _ z => z) (fun h' u tk hk => ⟨_, _, rfl, .str _, H₀, I₀.kept (t' := tk) hk, ⟨_, rfl⟩, q⟩) h4
  | @dct a ha =>
    obtain rfl : u = .ref a := rx
    obtain ⟨o, n, g1, g2, g3, g4⟩ := emp_at I₀ ha
    refine call_repr_slot (by omega) ⟨o, g1, g2⟩ F.slot_dict_repr ?_
    exact call_dict_reprK (d := 0) (as := []) (ps := []) g1 g2 g3 g4 (fun h => nomatch h) .nil (g := []) hg (fun b _ => Clear.nil b) (show X.A.units + 1 + (0 + 1) < cLine by omega) (fun _ _ z => z) (fun h' u tk hk => ⟨_, _, rfl, .str _, H₀, I₀.kept (t' := tk) hk, ⟨_, rfl⟩, q⟩) h4
mutual
/-- a value read whole, with empty dicts -/
def D.pye : D → Option PyData
  | .non => some .none
  | .bl b => some (.bool b)
  | .int i => some (.int i)
  | .str x => some (.str x)
  | .tup ds => (D.pyes ds).map .tuple
  | .lst ds => (D.pyes ds).map .list
  | .emp => some (.dict [])
  | _ => none
def D.pyes : List D → Option (List PyData)
  | [] => some []
  | d :: ds => match D.pye d, D.pyes ds with
    | some p, some ps => some (p :: ps)
    | _, _ => none
end
mutual
theorem dq_of : ∀ {d : D} {v : V} {p : PyData}, Rep F L H d v → D.pye d = some p → Dq F.K H v p
  | .non, v, p, r, h => by
    obtain rfl : v = V.non := r
    obtain rfl : PyData.none = p := Option.some.inj h
    exact .non
  | .bl b, v, p, r, h => by
    obtain rfl : v = V.bl b := r
    obtain rfl : PyData.bool b = p := Option.some.inj h
    exact .bl b
  | .int i, v, p, r, h => by
    obtain rfl : v = V.int i := r
    obtain rfl : PyData.int i = p := Option.some.inj h
    exact .int i
  | .str x, v, p, r, h => by
    obtain rfl : v = V.str x := r
    obtain rfl : PyData.str x = p := Option.some.inj h
    exact .str x
  | .tup ds, v, p, r, h => by
    obtain ⟨a, vs, rfl, h1, h2⟩ := r
    have h' : (D.pyes ds).map PyData.tuple = some p := h
    obtain ⟨ps, hp, rfl⟩ := Option.map_eq_some_iff.mp h'
    exact .tup (.inl (.inl h1)) (dqs_of h2 hp)
  | .lst ds, v, p, r, h => by
    obtain ⟨a, vs, rfl, h1, h2⟩ := r
    have h' : (D.pyes ds).map PyData.list = some p := h
    obtain ⟨ps, hp, rfl⟩ := Option.map_eq_some_iff.mp h'
    exact .lst (.inl (.inl h1.1)) (dqs_of h2 hp)
  | .emp, v, p, r, h => by
    obtain ⟨a, rfl, h1, h2⟩ := r
    obtain rfl : PyData.dict [] = p := Option.some.inj h
    exact .dct h1
  | .scr _, _, _, _, h => nomatch h
  | .loc _, _, _, _, h => nomatch h
  | .exc _ _, _, _, _, h => nomatch h
  | .ty _, _, _, _, h => nomatch h
  | .cls _, _, _, _, h => nomatch h
  | .clo _ _ _ _ _ _, _, _, _, h => nomatch h
  | .ktp _, _, _, _, h => nomatch h
theorem dqs_of : ∀ {ds : List D} {vs : List V} {ps : List PyData}, Reps F L H ds vs → D.pyes ds = some ps → DqAll F.K H vs ps
  | [], vs, ps, r, h => by
    obtain rfl : vs = [] := r
    obtain rfl : [] = ps := Option.some.inj h
    exact .nil
  | d :: ds, vs, ps, r, h => by
    obtain ⟨v, rr, rfl, h1, h2⟩ := r
    have h' : (match D.pye d, D.pyes ds with | some p, some ps => some (p :: ps) | _, _ => none) = some ps := h
    cases q1 : D.pye d with
    | none => rw [q1] at h'; cases h'
    | some p =>
      cases q2 : D.pyes ds with
      | none => rw [q1, q2] at h'; cases h'
      | some qs =>
        rw [q1, q2] at h'
        obtain rfl := Option.some.inj h'
        exact .cons (dq_of h1 q1) (dqs_of h2 q2)
end
/-- repr of data -/
def reprGF : List D → Store → RE
  | [d], M => match D.pye d with
    | some p => if p.showable = true ∧ p.depth ≤ 60 ∧ p.shown.length ≤ sizeLine then ok (.str p.shown) M else none
    | none => none
  | _, _ => none
theorem reprG_ok : CallOk F (rRepE F.K) reprGF := fun ds M L H e σ W vs Q sr rv p => by
  unfold reprGF at p
  split at p
  · obtain ⟨v, rfl, h1⟩ := reps1 rv
    split at p
    · rename_i y hy
      split at p
      · rename_i hz
        exact ⟨v, y, rfl, dq_of h1 hy, hz.1, hz.2.1, hz.2.2, p.ok sr rfl⟩
      · exact False.elim p
    · exact False.elim p
  · exact False.elim p
end
end DL
namespace DL
open PySem L2
section
variable {F : Fx} {X : Cx} {W : WX} {L L1 : List Addr} {H H1 : Hp} {M : Store} {e : DL.Env} {σ : L2.St} {T : Ends} {k : Nat}
/-- behind the body's exception: the suite -/
def sufS0 (su : DenS) (e' : DL.Env) (M' : Store) : RS := match su e' M' with
  | some (.ex _ _ _, _) => none
  | r => r
def tryS0 (ct : String → Bool) (db su : DenS) : DenS := fun e M => match db e M with
  | some (.ex c fs e', M') => if ct c = true then sufS0 su e' M' else none
  | r => r
theorem ds_try0 {te : Expr} {b₀ : Stmt} {suite body : List Stmt} {pos pos' : Pos} {db su : DenS} {cv : Value → Bool} (ct : String → Bool) (d : Dc X W k) (hs : X.stack = X.env :: X.outer) (hf : X.env.frame = some X.env.locals) (hex : X.ex = [])
    (hc : Cla X te cv) (hcv : ∀ c C, F.cl c = some C → ct c = true → cv (.ref C) = true)
    (hb : ∀ (W' : WX) (pn : List (Addr × Obj)) (xe : Value → Shared → Prop), Dc (X.tr pn xe) W' k → DSs F (X.tr pn xe) W' body db)
    (hsu : ∀ (a : Addr) (pn : List (Addr × Obj)), DSs F (X.suite a pn) (fun _ _ _ _ => False) (b₀ :: suite) su) :
    DS F X W (.Try body [.ExceptHandler (some te) none (b₀ :: suite) pos'] [] [] pos) (tryS0 ct db su) := by
  refine ⟨fun T σ H => ∃ (e : DL.Env) (M : Store) (L : List Addr), SR F L H M e σ ∧ PostS F L H W T (tryS0 ct db su e M), ⟨fun p₁ s₁ σ₁ H₁ T₁ I₁ h₁ => ?_⟩, fun e M L σ H T sr pp => ⟨e, M, L, sr, pp⟩⟩
  obtain ⟨e, M, L, sr, pp⟩ := h₁
  have okk := I₁.ok
  have hfr : X.A.frames = some (X.env :: X.outer) := by rw [okk.frames, hs]
  -- the wish about the body's exceptions
  let W' : WX := fun cls dd σ' H' => ∃ (c : String) (fs : List (Str × D)) (e' : DL.Env) (M' : Store) (L' : List Addr), SR F L' H' M' e' σ' ∧ ExR F L' H' c fs cls dd ∧ ct c = true ∧ PostS F L' H' W T₁ (sufS0 su e' M')
  let xe' : Value → Shared → Prop := fun u s1 => wpAny (model X.prog X.w) X.A (noteFrame u X.env) (fun _ s2 => wpAny (model X.prog X.w) X.A (setFlight u none) (fun _ s3 => wpAny (model X.prog X.w) X.A (handleBy u X.env [.ExceptHandler (some te) none (b₀ :: suite) pos']) (SP X p₁ T₁) X.xe s3) X.xe s2) X.xe s1
  have tk' : Takes (X.tr (X.pn ++ p₁) xe') W' := by
    intro u s' xx
    obtain ⟨a, B, sI, pins', σ', H', cls, dd, rfl, J', nb, up, sky, na, os, ag, c, fs, e', M', L', sr', hx', hct, pp'⟩ := xx
    have J : L2.Inv X p₁ σ' H' sI := J'.ofTry okk
    have sky' : Sky B (X.env :: X.outer) a (Zc cls dd) X.env.locals s'.heap := by rw [← hs]; exact sky
    show wpAny _ X.A (noteFrame (.ref a) X.env) _ _ _
    have Bn : B.get? a = none := by
      rcases sky' with ⟨_, z, _⟩ | z | z
      · exact z
      · exact z.2.1
      · exact z.2.1
    refine Sky.land Zc.steady hfr hf sky' fun hh ff uu => ?_
    have JL : L2.Inv X p₁ σ' H' { s' with heap := hh } := J.landed nb ff.1 (up.trans uu) os ag
    obtain ⟨ox, xs9, eo, zo, od9⟩ := ff.there
    have nfr : a ∉ frs (X.env :: X.outer) := fun hm => by
      obtain ⟨_, o', e2, hnf⟩ := ff.2.2.1.mem hm
      rw [eo] at e2
      cases e2
      exact hnf _ od9
    have nl1 : a ≠ X.env.locals := fun z => nfr (List.mem_filterMap.mpr ⟨X.env, List.mem_cons_self, by rw [hf, z]⟩)
    have nf1 : a ∉ X.fs := fun hm => by
      obtain ⟨env', he, q⟩ := List.mem_filterMap.mp hm
      exact nfr (List.mem_filterMap.mpr ⟨env', List.mem_cons_of_mem _ he, q⟩)
    have sIn : sI.heap.get? a = none := by
      cases z : sI.heap.get? a with
      | none => rfl
      | some o =>
        have z2 := nb a o z (by rw [hs]; exact nfr)
        rw [Bn] at z2
        cases z2
    have s0n : X.s_0.heap.get? a = none := by
      cases z : X.s_0.heap.get? a with
      | none => rfl
      | some o =>
        obtain ⟨o', z2⟩ := J.base.there a o z (by rw [hex]; simp)
        rw [sIn] at z2
        cases z2
    have np : ∀ p ∈ X.pn ++ p₁, p.1 ≠ a := fun p hp z => by
      obtain ⟨q1, _⟩ := J.pin p hp
      rw [z, sIn] at q1
      cases q1
    have SU := JL.suite eo od9 na nl1 nf1
    refine wpAny_handleBy_cons (codeAny_handlers_test ?_) fun q => nomatch q
    obtain ⟨C, hC, rfl, hfd⟩ := hx'
    refine hc a _ [] σ' H' _ (.ref C) _ _ SU ⟨ox, eo, zo.1⟩ (hcv c C hC hct) fun s4 k4 o4 b4 => ?_
    apply codeAny_handlers_suite
    have fl4 : HandSPX.FlyingZ B (X.env :: X.outer) a (Zc (.ref C) dd) s4.heap := flying_keep ff k4
    refine HandSPX.lands_againZ fl4 fun h5 fl5 up5 => ?_
    have up4 : hh.UpToSlots s4.heap := Heap.UpToSlots.of_keeps k4
    have J5 : L2.Inv X p₁ σ' H' { s4 with heap := h5 } := J.landed nb fl5.1 (((up.trans uu).trans up4).trans up5) (o4.trans os) b4
    obtain ⟨oe5, vs5, he5, hz5, hd5⟩ := fl5.there
    have J6 : L2.Inv X p₁ σ' (upd H' a (.ext (exP C a dd))) { s4 with heap := h5 } := inv_track J5 he5 hd5 na nl1 s0n np ⟨oe5, vs5, he5, hz5.1, hz5.2, hd5⟩ fun h1 h2 ⟨o1, w1, q1, q2, q3, q4⟩ kk => ⟨o1, w1, kk _ q1, q2, q3, q4⟩
    have S6 : L2.Inv (X.suite a (X.pn ++ p₁)) [] σ' (upd H' a (.ext (exP C a dd))) { s4 with heap := h5 } :=
      ⟨J6.ok.suite _ _, J6.os, J6.bare, J6.base, J6.loc, J6.cell, J6.free, J6.freeC, fun p hp => J6.pin p (by rw [List.append_nil] at hp; exact hp), J6.hok, J6.len⟩
    have stp : Stp L' H' L' (upd H' a (.ext (exP C a dd))) := Stp.alloc na
    have sr6 : SR F L' (upd H' a (.ext (exP C a dd))) M' e' σ' := sr'.stay stp (sr'.m.alloc na)
    have rep6 : Rep F L' (upd H' a (.ext (exP C a dd))) (.exc c fs) (.ref a) := by
      refine ⟨a, C, dd, rfl, hC, ⟨_, upd_same, fun h z => z⟩, fresh_out sr'.m na, ?_⟩
      cases dd with
      | none => exact hfd
      | some x =>
        obtain ⟨ws, q1, q2, q3⟩ := hfd
        exact ⟨ws, by rw [upd_ne (ne_of_none q1 na)]; exact q1, q2, RepF.stay sr'.m stp fs ws q3⟩
    have back : ∀ {σ7 : L2.St} {H7 : Hp} {s7 : Shared}, L2.Inv (X.suite a (X.pn ++ p₁)) [] σ7 H7 s7 → L2.Inv X p₁ σ7 H7 s7 := fun {σ7 H7 s7} J7 =>
      ⟨okk, J7.os, J7.bare, J7.base, J7.loc, J7.cell, J7.free, J7.freeC, fun p hp => J7.pin p (by rw [List.append_nil]; exact hp), J7.hok, J7.len⟩
    obtain ⟨tu, pu, qu⟩ := hsu a (X.pn ++ p₁)
    have ps6 : PostS F L' (upd H' a (.ext (exP C a dd))) (fun _ _ _ _ => False) T₁ (su e' M') := by
      have pp6 := PostS.go stp pp'
      unfold sufS0 at pp6
      revert pp6
      cases su e' M' with
      | none => exact id
      | some y =>
        obtain ⟨fl, M7⟩ := y
        cases fl with
        | nx e7 => exact id
        | bk e7 => exact id
        | ct e7 => exact id
        | rt d7 => exact id
        | ex c7 fs7 e7 => exact fun q => (show False from q).elim
    refine wpAny_mono (pu.run [] _ _ _ T₁ S6 (qu _ M' L' _ _ T₁ sr6 ps6)) (fun f s8 hsp => ?_) (fun _ _ z => (show False from z).elim)
    cases f with
    | next =>
      obtain ⟨σ8, H8, S8, q8⟩ := hsp
      exact ⟨_, _, back S8, q8⟩
    | brk =>
      obtain ⟨σ8, H8, S8, q8⟩ := hsp
      exact ⟨_, _, back S8, q8⟩
    | cont =>
      obtain ⟨σ8, H8, S8, q8⟩ := hsp
      exact ⟨_, _, back S8, q8⟩
    | ret u =>
      obtain ⟨v8, σ8, H8, S8, r8, q8⟩ := hsp
      exact ⟨_, _, _, back S8, r8, q8⟩
  have dc' : Dc (X.tr (X.pn ++ p₁) xe') W' k := ⟨tk', d.room, d.calm, d.gd, PassesOwn.looking⟩
  obtain ⟨tb, pb, qb⟩ := hb W' (X.pn ++ p₁) xe' dc'
  refine wpAny_Try_except ?_
  have psb : PostS F L H₁ W' T₁ (db e M) := by
    unfold tryS0 at pp
    revert pp
    cases db e M with
    | none => exact id
    | some y =>
      obtain ⟨fl, M7⟩ := y
      cases fl with
      | nx e7 => exact id
      | bk e7 => exact id
      | ct e7 => exact id
      | rt d7 => exact id
      | ex c7 fs7 e7 =>
        intro q L7 H7 σ7 cls dd s7 r7 x7
        dsimp only at q
        split at q
        · rename_i hct
          exact ⟨c7, fs7, e7, M7, L7, r7, x7, hct, PostS.go s7 q⟩
        · exact False.elim q
  refine wpAny_mono (pb.run [] s₁ σ₁ H₁ T₁ (I₁.toTry _) (qb e M L σ₁ H₁ T₁ sr psb)) (fun f s2 hsp => ?_) (fun u s2 he => he)
  cases f with
  | next =>
    obtain ⟨σ', H', J', q⟩ := hsp
    exact wpAny_execs_nil ⟨σ', H', J'.ofTry okk, q⟩
  | brk =>
    obtain ⟨σ', H', J', q⟩ := hsp
    exact ⟨σ', H', J'.ofTry okk, q⟩
  | cont =>
    obtain ⟨σ', H', J', q⟩ := hsp
    exact ⟨σ', H', J'.ofTry okk, q⟩
  | ret u =>
    obtain ⟨v, σ', H', J', rv9, q⟩ := hsp
    exact ⟨v, σ', H', J'.ofTry okk, rv9, q⟩
def isTF (n : Bool) : D → D → Store → RE
  | .bl a, .bl b, M => ok (.bl (n != (a == b))) M
  | x, y, M => isF n x y M
abbrev rIsT (n : Bool) : R2 := fun x y H Q => (∃ a b, x = .bl a ∧ y = .bl b ∧ Q (.bl (n != (a == b))) H) ∨ rIsV n x y H Q
theorem opr_isTnot : OpR X (compareOp .IsNot) (rIsT true) := by
  refine orR (fun p₀ s₀ σ₀ H₀ x y v u Q₀ I₀ rx ry q => ?_) opr_isnot
  obtain ⟨a, b, rfl, rfl, q2⟩ := q
  cases rx
  cases ry
  rw [t_ne] at q2
  refine PyProof.Rows.isnot_bool ⟨.bl (a != b), H₀, I₀, rfl, q2⟩
theorem isT_ok {n : Bool} : OpOk F (rIsT n) (isTF n) := fun d1 d2 M L H e σ W v1 v2 Q sr r1 r2 p => by
  unfold isTF at p
  split at p
  · rename_i a b
    have q1 : v1 = .bl a := r1
    have q2 : v2 = .bl b := r2
    exact .inl ⟨a, b, q1, q2, p.ok sr rfl⟩
  · exact .inr (is_ok _ _ _ _ _ _ _ _ _ _ _ sr r1 r2 p)
def b2z (b : Bool) : Int := if b = true then 1 else 0
def addBF : D → D → Store → RE
  | .bl a, .int j, M => ok (.int (b2z a + j)) M
  | x, y, M => addGF x y M
abbrev rAddB (K : PySem.W.Frag) : R2 := fun x y H Q => (∃ a j, x = .bl a ∧ y = .int j ∧ Q (.int (b2z a + j)) H) ∨ rAddG K x y H Q
theorem opr_addB : OpR X (binaryOp .Add) (rAddB X.K) := by
  refine orR (fun p₀ s₀ σ₀ H₀ x y v u Q₀ I₀ rx ry q => ?_) opr_addG
  obtain ⟨a, b, rfl, rfl, q2⟩ := q
  cases rx
  obtain ⟨t, rfl⟩ := ry
  exact PySem.IntBool.add_bool_int ⟨.int (b2z a + b), H₀, I₀.tok _, ⟨_, rfl⟩, q2⟩
theorem addB_ok : OpOk F (rAddB F.K) addBF := fun d1 d2 M L H e σ W v1 v2 Q sr r1 r2 p => by
  unfold addBF at p
  split at p
  · rename_i a b
    have q1 : v1 = .bl a := r1
    have q2 : v2 = .int b := r2
    exact .inl ⟨a, b, q1, q2, p.ok sr rfl⟩
  · exact .inr (addG_ok _ _ _ _ _ _ _ _ _ _ _ sr r1 r2 p)
abbrev rEqE (K : PySem.W.Frag) : R2 := fun x y H Q => ∃ a b xs, x = .ref a ∧ y = .ref b ∧ SqT K H a xs ∧ SqT K H b [] ∧ Q (.bl xs.isEmpty) H
theorem op_eqE (hu : X.A.units + 64 < cLine) : OpR X (compareOp .Eq) (rEqE X.K) := by
  intro p₀ s₀ σ₀ H₀ x y v u Q₀ I₀ rx ry q
  obtain ⟨a, b, xs, rfl, rfl, h1, h2, h3⟩ := q
  obtain rfl : v = .ref a := rx
  obtain rfl : u = .ref b := ry
  obtain ⟨its, rv, p, hz⟩ := I₀.tuple h1
  obtain ⟨its2, rv2, p2, hz2⟩ := I₀.tuple h2
  cases rv2
  refine SeqAt.eq_tupleAt (e := fun _ => true) p p2 (by omega) (fun j _ z => absurd z (by simp)) ?_
  refine ⟨_, H₀, I₀, ?_, h3⟩
  have hl := Paired.length rv
  cases rv with
  | nil => rfl
  | cons r rt => rfl
def eqGF : D → D → Store → RE
  | .tup ds, .tup [], M => ok (.bl ds.isEmpty) M
  | x, y, M => eqF x y M
theorem opr_eqG (hu : X.A.units + 64 < cLine) : OpR X (compareOp .Eq) (fun x y H Q => rEqE X.K x y H Q ∨ rEqV X.K x y H Q) := orR (op_eqE hu) (opr_eq hu)
theorem eqG_ok : OpOk F (fun x y H Q => rEqE F.K x y H Q ∨ rEqV F.K x y H Q) eqGF := fun d1 d2 M L H e σ W v1 v2 Q sr r1 r2 p => by
  unfold eqGF at p
  split at p
  · rename_i ds
    obtain ⟨a, vs, rfl, q1, q2⟩ := r1
    obtain ⟨b, ws, rfl, q3, q4⟩ := r2
    obtain rfl : ws = [] := q4
    refine .inl ⟨a, b, vs, rfl, rfl, (.inl (.inl q1)), (.inl (.inl q3)), ?_⟩
    have hl := reps_len q2
    have e1 : vs.isEmpty = ds.isEmpty := by
      cases vs with
      | nil => cases ds with
        | nil => rfl
        | cons d r => cases hl
      | cons v r => cases ds with
        | nil => cases hl
        | cons d r => rfl
    rw [e1]
    exact p.ok sr rfl
  · exact .inr (eq_ok _ _ _ _ _ _ _ _ _ _ _ sr r1 r2 p)
theorem dt_chain {op op' : CmpOp} {r r' : R2} {f g : D → D → Store → RE} {a b c : Expr} {da db dc : DenE} {pos : Pos} (hf : OpOk F r f) (ho : OpR X (compareOp op) r) (hf' : OpOk F r' g) (ho' : OpR X (compareOp op') r') (tf : Truths f) (ha : DE F X W a da) (hb : DE F X W b db) (hc : DE F X W c dc)
    (hm : lastMarks [op, op'] [b, c] = false := by with_unfolding_all rfl) : DT F X W (.Compare a [op, op'] [b, c] pos) (chainD f g da db dc) := by
  obtain ⟨ta, pa, qa⟩ := ha
  obtain ⟨tb, pb, qb⟩ := hb
  obtain ⟨tc, pc, qc⟩ := hc
  exact ⟨_, pt_chain ho ho' pa pb pc hm, fun e M L σ H Q sr p => chain_t (op := op) (op' := op') (a := a) (b := b) (c := c) hf hf' tf qa qb qc e M L σ H _ sr p⟩
end
end DL
namespace DL
open PySem L2
section
variable {F : Fx} {X : Cx} {W : WX} {L L1 : List Addr} {H H1 : Hp} {M : Store} {e : Env} {σ : St} {T : Ends} {k : Nat}
theorem PSet.or {t t' : V → V → V → Hp → (Hp → Prop) → Prop} (h : PSet X t) (h' : PSet X t') : PSet X (fun o i v H Q => t o i v H Q ∨ t' o i v H Q) := by
  intro pins s σ H o i v ov iv u Q I ro ri rv q
  rcases q with q | q
  · exact h pins s σ H o i v ov iv u Q I ro ri rv q
  · exact h' pins s σ H o i v ov iv u Q I ro ri rv q
end
end DL
namespace DL
open PySem L2
/-- as Stp, nothing said of what is locked -/
structure Stp0 (L : List Addr) (H : Hp) (L' : List Addr) (H' : Hp) : Prop where
  ext : ∀ a o, H a = some o → a ∉ L → (∀ ps, o ≠ .tbl ps) → H' a = some o
  new : ∃ N, L' = L ++ N ∧ ∀ x ∈ N, ∀ o, H x = some o → ∃ ps, o = .tbl ps
section
variable {F : Fx} {L L' : List Addr} {H H' : Hp} {M M' : Store}
theorem Stp0.get (s : Stp0 L H L' H') {n : Nat} {a : Addr} (e : L[n]? = some a) : L'[n]? = some a := by
  obtain ⟨N, rfl, _⟩ := s.new
  rw [List.getElem?_append_left (List.getElem?_eq_some_iff.mp e).1]
  exact e
theorem Stp0.out (s : Stp0 L H L' H') {a : Addr} {o : HO} (e : H a = some o) (n : a ∉ L) (ht : NoTb o := by exact fun ps z => nomatch z) : a ∉ L' := by
  obtain ⟨N, rfl, f⟩ := s.new
  intro z
  rcases List.mem_append.mp z with z | z
  · exact n z
  · obtain ⟨ps, q⟩ := f a z o e
    exact ht ps q
end
theorem Stp.z {L L' : List Addr} {H H' : Hp} (s : Stp L H L' H') : Stp0 L H L' H' := ⟨s.ext, s.new⟩
end DL
namespace DL
open PySem L2
section
variable {F : Fx} {X : Cx} {W : WX} {L L1 : List Addr} {H H1 : Hp} {M : Store} {e : DL.Env} {σ : L2.St} {T : Ends} {k : Nat}
/-- a list, whichever -/
def lsty : D → Bool
  | .lst _ => true
  | .scr _ => true
  | .loc _ => true
  | _ => false
theorem items_lst (sr : SM F L H M) {d : D} {v : V} {ds : List D} {chk : Store → Prop} {M' : Store} (hl : lsty d = true) (h : itemsF d M = some (.val (ds, chk), M')) (r : Rep F L H d v) :
    M' = M ∧ ∃ a, v = .ref a ∧ (∃ vs, SqL F.K H a vs) ∧ ∀ (L' : List Addr) (H' : Hp) (M2 : Store), Stp L H L' H' → SM F L' H' M2 → chk M2 → ∃ ws, SqL F.K H' a ws ∧ Reps F L' H' ds ws := by
  cases d with
  | lst es =>
    cases h
    obtain ⟨a, vs, rfl, a2, a3⟩ := r
    exact ⟨rfl, a, rfl, ⟨vs, (LstAt.sq (L := L) (.inl a2))⟩, fun L' H' M2 s m' _ => ⟨vs, (LstAt.stay sr s (.inl a2)).sq, Reps.stay sr s _ _ a3⟩⟩
  | scr ns =>
    cases h
    obtain ⟨a, rfl, a2⟩ := r
    have a3 : LstAt F.K L H a (ns.map V.int) := .inr a2
    exact ⟨rfl, a, rfl, ⟨_, a3.sq⟩, fun L' H' M2 s m' _ => ⟨_, (LstAt.stay sr s a3).sq, reps_ints ns⟩⟩
  | loc n =>
    unfold itemsF at h
    simp only at h
    split at h
    · rename_i es hm
      cases h
      obtain ⟨a, rfl, a2⟩ := r
      obtain ⟨vs, k1, k2⟩ := sr.obs n a _ a2 hm
      refine ⟨rfl, a, rfl, ⟨vs, .inl (.inl k1)⟩, fun L' H' M2 s m' c => ?_⟩
      obtain ⟨ws, j1, j2⟩ := m'.obs n a _ (s.get a2) c
      exact ⟨ws, .inl (.inl j1), j2⟩
    · cases h
  | _ => cases hl
def zipI (xs ys : List D) : List D := List.zipWith (fun x y => .tup [x, y]) xs ys
theorem zip_len (xs ys : List D) : (zipI xs ys).length = min xs.length ys.length := by simp [zipI]
theorem zip_get {xs ys : List D} {i : Nat} {d : D} (h : (zipI xs ys)[i]? = some d) : ∃ x y, xs[i]? = some x ∧ ys[i]? = some y ∧ d = .tup [x, y] := by
  unfold zipI at h
  rw [List.getElem?_zipWith] at h
  split at h
  · rename_i x y h1 h2
    cases h
    exact ⟨x, y, h1, h2, rfl⟩
  · cases h
def zipD (dr : DenA) : DenI := fun e M => bindE (dr e M) fun ds M1 => match ds with
  | [.tup xs, .tup ys] => ok (zipI xs ys, fun _ => True) M1
  | [x, y] => if lsty x = true ∧ lsty y = true then (match itemsF x M1, itemsF y M1 with
    | some (.val p, _), some (.val q, _) => ok (zipI p.1 q.1, fun M' => p.2 M' ∧ q.2 M') M1
    | _, _ => none) else none
  | _ => none
theorem stp_tup2 {H' : Hp} {M' : Store} {L' : List Addr} {Tt : Addr} {x y : V} {d d' : D} (m : SM F L' H' M') (hT : H' Tt = none) (r : Rep F L' H' d x) (r' : Rep F L' H' d' y) : Stp L' H' L' (upd H' Tt (.tup [x, y])) ∧ SM F L' (upd H' Tt (.tup [x, y])) M' ∧ Rep F L' (upd H' Tt (.tup [x, y])) (.tup [d, d']) (.ref Tt) := by
  have s : Stp L' H' L' (upd H' Tt (.tup [x, y])) := Stp.alloc hT
  exact ⟨s, m.alloc hT, ⟨Tt, _, rfl, upd_same, x, [y], rfl, Rep.stay m s _ _ r, y, [], rfl, Rep.stay m s _ _ r', rfl⟩⟩
theorem walk_zipLL {a b : Addr} {xs ys : List D} {c1 c2 : Store → Prop} (h : ∀ (L' : List Addr) (H' : Hp) (M' : Store), Stp L H L' H' → SM F L' H' M' → c1 M' → ∃ ws, SqL F.K H' a ws ∧ Reps F L' H' xs ws) (h' : ∀ (L' : List Addr) (H' : Hp) (M' : Store), Stp L H L' H' → SM F L' H' M' → c2 M' → ∃ ws, SqL F.K H' b ws ∧ Reps F L' H' ys ws) :
    Walk F L H (Itz F.K a b) (zipI xs ys) (fun M' => c1 M' ∧ c2 M') := by
  refine ⟨fun L' H' M' s m' c => ?_, fun i d hd L' H' M' s m' c => ?_⟩
  · obtain ⟨ws, q, rr⟩ := h L' H' M' s m' c.1
    obtain ⟨us, q', rr'⟩ := h' L' H' M' s m' c.2
    refine ⟨ws, us, q, q', ?_⟩
    rw [zip_len, ← reps_len rr, ← reps_len rr']
    omega
  · obtain ⟨x, y, hx, hy, rfl⟩ := zip_get hd
    obtain ⟨ws, q, rr⟩ := h L' H' M' s m' c.1
    obtain ⟨us, q', rr'⟩ := h' L' H' M' s m' c.2
    obtain ⟨v, h1, h2⟩ := reps_get rr hx
    obtain ⟨u, h3, h4⟩ := reps_get rr' hy
    refine ⟨⟨ws, us, v, u, q, q', h1, h3⟩, fun x0 H'' hz => ?_⟩
    obtain ⟨Tt, v0, u0, rfl, hT, rfl, z, z'⟩ := hz
    have e := z ws q
    rw [h1] at e
    cases e
    have e := z' us q'
    rw [h3] at e
    cases e
    exact stp_tup2 m' hT h2 h4
theorem walk_zipTT {a b : Addr} {xs ys : List D} {vs us : List V} (m : SM F L H M) (q : H a = some (.tup vs)) (r : Reps F L H xs vs) (q' : H b = some (.tup us)) (r' : Reps F L H ys us) : Walk F L H (RZ.ItzT F.K a b) (zipI xs ys) (fun _ => True) := by
  have st : ∀ {L' : List Addr} {H' : Hp}, Stp L H L' H' → SqT F.K H' a vs ∧ SqT F.K H' b us := fun s => ⟨sqt_stay m s (.inl (.inl q)), sqt_stay m s (.inl (.inl q'))⟩
  refine ⟨fun L' H' M' s m' c => ?_, fun i d hd L' H' M' s m' c => ?_⟩
  · refine ⟨vs, us, (st s).1, (st s).2, ?_⟩
    rw [zip_len, ← reps_len r, ← reps_len r']
    omega
  · obtain ⟨x, y, hx, hy, rfl⟩ := zip_get hd
    obtain ⟨v, h1, h2⟩ := reps_get r hx
    obtain ⟨u, h3, h4⟩ := reps_get r' hy
    refine ⟨⟨vs, us, v, u, (st s).1, (st s).2, h1, h3⟩, fun x0 H'' hz => ?_⟩
    obtain ⟨Tt, v0, u0, rfl, hT, rfl, z, z'⟩ := hz
    have e := z vs (st s).1
    rw [h1] at e
    cases e
    have e := z' us (st s).2
    rw [h3] at e
    cases e
    exact stp_tup2 m' hT (Rep.stay m s _ _ h2) (Rep.stay m s _ _ h4)
theorem di_zip {elts : List Expr} {kk : Nat} {tpos : Pos} {l l2 : Expr} {da db : DenE} {p pos : Pos} (hm : X.mg "zip" = none) (ha : DE F X W l da) (hb : DE F X W l2 db) (hK : X.K = F.K := by rfl) (hg : Gl X "zip" := by rfl) (hst : starEach (l :: [l2]) X.env = (false, eval l X.env) :: starEach [l2] X.env := by rfl) (hst2 : starEach (l2 :: []) X.env = (false, eval l2 X.env) :: starEach [] X.env := by rfl) (hpl : (backTo pos (starEach [l2] X.env)).any (·.1) = false := by rfl) :
    DI F X W (.Tuple elts kk tpos) (.Call (.Name "zip" p) [l, l2] [] pos) (zipD (consA da (consA db nilA))) := by
  obtain ⟨t, pa, qa⟩ := da_cons ha (da_cons hb da_nil hst2) hst
  refine ⟨_, RZ.pi_zipA hg hm pa hst hpl, fun e M L σ H R sr pp => qa e M L σ H _ sr (PostG.bind (fun ds M1 L1 H1 vs s1 r1 rv p2 => ?_) pp)⟩
  rw [hK]
  split at p2
  · rename_i xs ys
    obtain ⟨v, v', rfl, r2, r3⟩ := reps2 rv
    obtain ⟨a, us, rfl, a2, a3⟩ := r2
    obtain ⟨b, ws, rfl, b2, b3⟩ := r3
    exact ⟨a, b, us, ws, rfl, .inr ⟨.inl (.inl a2), .inl (.inl b2), p2.ok r1 (walk_zipTT r1.m a2 a3 b2 b3)⟩⟩
  · rename_i x y _
    obtain ⟨v, v', rfl, r2, r3⟩ := reps2 rv
    split at p2
    · rename_i hl
      split at p2
      · rename_i p' M2 q' M3 h1 h2
        obtain ⟨_, a, rfl, ⟨us, a2⟩, a3⟩ := items_lst r1.m hl.1 h1 r2
        obtain ⟨_, b, rfl, ⟨ws, b2⟩, b3⟩ := items_lst r1.m hl.2 h2 r3
        exact ⟨a, b, us, ws, rfl, .inl ⟨a2, b2, p2.ok r1 (walk_zipLL a3 b3)⟩⟩
      · exact False.elim p2
    · exact False.elim p2
  · exact False.elim p2
def intsOf : List D → Option (List Int)
  | [] => some []
  | .int i :: ds => (intsOf ds).map (i :: ·)
  | _ => none
theorem intsOf_rep : ∀ {ds : List D} {vs : List V} {ns : List Int}, intsOf ds = some ns → Reps F L H ds vs → vs = ns.map V.int
  | [], _, _, h, r => by
    cases h
    exact r
  | .int i :: ds, _, _, h, ⟨v, r, e, h1, h2⟩ => by
    obtain ⟨ns, q, rfl⟩ := Option.map_eq_some_iff.mp h
    have h1' : v = .int i := h1
    rw [e, h1', intsOf_rep q h2]
    rfl
  | .non :: _, _, _, h, _ => nomatch h
  | .bl _ :: _, _, _, h, _ => nomatch h
  | .str _ :: _, _, _, h, _ => nomatch h
  | .tup _ :: _, _, _, h, _ => nomatch h
  | .lst _ :: _, _, _, h, _ => nomatch h
  | .scr _ :: _, _, _, h, _ => nomatch h
  | .emp :: _, _, _, h, _ => nomatch h
  | .loc _ :: _, _, _, h, _ => nomatch h
  | .exc _ _ :: _, _, _, h, _ => nomatch h
  | .ty _ :: _, _, _, h, _ => nomatch h
  | .cls _ :: _, _, _, h, _ => nomatch h
  | .clo _ _ _ _ _ _ :: _, _, _, h, _ => nomatch h
  | .ktp _ :: _, _, _, h, _ => nomatch h
/-- the whole numbers of a list -/
def intsL (M : Store) (d : D) : Option (List Int) := (getL M d).bind intsOf
theorem intsL_rep (m : SM F L H M) {d : D} {v : V} {ns : List Int} (h : intsL M d = some ns) (r : Rep F L H d v) : ∃ a, v = .ref a ∧ SqL F.K H a (ns.map V.int) := by
  obtain ⟨ds, h1, h2⟩ := Option.bind_eq_some_iff.mp h
  obtain ⟨a, vs, rfl, q1, q2⟩ := getL_sq m h1 r
  rw [intsOf_rep h2 q2] at q1
  exact ⟨a, rfl, q1⟩
/-- the greatest, the least -/
def mxI : Int → List Int → Int
  | m, [] => m
  | m, x :: xs => mxI (if x > m then x else m) xs
def mnI : Int → List Int → Int
  | m, [] => m
  | m, x :: xs => mnI (if x < m then x else m) xs
theorem mxI_ge : ∀ (m : Int) (xs : List Int), m ≤ mxI m xs ∧ ∀ x ∈ xs, x ≤ mxI m xs
  | m, [] => ⟨Int.le_refl _, fun x hx => absurd hx (by simp)⟩
  | m, x :: xs => by
    obtain ⟨h1, h2⟩ := mxI_ge (if x > m then x else m) xs
    show m ≤ mxI _ xs ∧ ∀ y ∈ x :: xs, y ≤ mxI _ xs
    have q1 : m ≤ (if x > m then x else m) := by split <;> omega
    have q2 : x ≤ (if x > m then x else m) := by split <;> omega
    refine ⟨Int.le_trans q1 h1, fun y hy => ?_⟩
    rcases (List.mem_cons.mp hy) with rfl | hy
    · exact Int.le_trans q2 h1
    · exact h2 y hy
theorem mnI_le : ∀ (m : Int) (xs : List Int), mnI m xs ≤ m ∧ ∀ x ∈ xs, mnI m xs ≤ x
  | m, [] => ⟨Int.le_refl _, fun x hx => absurd hx (by simp)⟩
  | m, x :: xs => by
    obtain ⟨h1, h2⟩ := mnI_le (if x < m then x else m) xs
    show mnI _ xs ≤ m ∧ ∀ y ∈ x :: xs, mnI _ xs ≤ y
    have q1 : (if x < m then x else m) ≤ m := by split <;> omega
    have q2 : (if x < m then x else m) ≤ x := by split <;> omega
    refine ⟨Int.le_trans h1 q1, fun y hy => ?_⟩
    rcases (List.mem_cons.mp hy) with rfl | hy
    · exact Int.le_trans h1 q2
    · exact h2 y hy
theorem mxI_mem : ∀ (m : Int) (xs : List Int), mxI m xs ∈ m :: xs
  | m, [] => List.mem_cons_self
  | m, x :: xs => by
    have h := mxI_mem (if x > m then x else m) xs
    show mxI _ xs ∈ m :: x :: xs
    rcases List.mem_cons.mp h with h | h
    · rw [h]
      split <;> simp
    · exact List.mem_cons_of_mem _ (List.mem_cons_of_mem _ h)
theorem mnI_mem : ∀ (m : Int) (xs : List Int), mnI m xs ∈ m :: xs
  | m, [] => List.mem_cons_self
  | m, x :: xs => by
    have h := mnI_mem (if x < m then x else m) xs
    show mnI _ xs ∈ m :: x :: xs
    rcases List.mem_cons.mp h with h | h
    · rw [h]
      split <;> simp
    · exact List.mem_cons_of_mem _ (List.mem_cons_of_mem _ h)
def maxLF : List D → Store → RE
  | [d], M => match intsL M d with
    | some (n :: ns) => ok (.int (mxI n ns)) M
    | _ => none
  | _, _ => none
theorem maxL_ok : CallOk F (rMax F.K) maxLF := fun ds M L H e σ W vs Q sr rv p => by
  unfold maxLF at p
  split at p
  · rename_i d
    obtain ⟨v, rfl, r⟩ := reps1 rv
    split at p
    · rename_i n ns hn
      obtain ⟨a, rfl, q⟩ := intsL_rep sr.m hn r
      refine ⟨a, n :: ns, rfl, q, by simp, fun m hm hle => ?_⟩
      have e : m = mxI n ns := by
        have h1 := hle _ (mxI_mem n ns)
        obtain ⟨h2, h3⟩ := mxI_ge n ns
        rcases (List.mem_cons.mp hm) with rfl | hm
        · omega
        · have := h3 m hm
          omega
      rw [e]
      exact p.ok sr rfl
    · exact False.elim p
  · exact False.elim p
def minLF : List D → Store → RE
  | [d], M => match intsL M d with
    | some (n :: ns) => ok (.int (mnI n ns)) M
    | _ => none
  | _, _ => none
theorem minL_ok : CallOk F (rMin F.K) minLF := fun ds M L H e σ W vs Q sr rv p => by
  unfold minLF at p
  split at p
  · rename_i d
    obtain ⟨v, rfl, r⟩ := reps1 rv
    split at p
    · rename_i n ns hn
      obtain ⟨a, rfl, q⟩ := intsL_rep sr.m hn r
      refine ⟨a, n :: ns, rfl, q, by simp, fun m hm hle => ?_⟩
      have e : m = mnI n ns := by
        have h1 := hle _ (mnI_mem n ns)
        obtain ⟨h2, h3⟩ := mnI_le n ns
        rcases (List.mem_cons.mp hm) with rfl | hm
        · omega
        · have := h3 m hm
          omega
      rw [e]
      exact p.ok sr rfl
    · exact False.elim p
  · exact False.elim p
end
end DL
namespace DL
open PySem L2
end DL
namespace DL
open PySem L2
end DL
namespace DL
open PySem L2
section
variable {F : Fx} {X : Cx} {W : WX} {L L1 : List Addr} {H H1 : Hp} {M : Store} {e : Env} {σ : St}
theorem PG.or {t : Expr} {g g' : TG} (h : PG X t g) (h' : PG X t g') : PG X t (fun v σ H Q => g v σ H Q ∨ g' v σ H Q) :=
  ⟨fun p s σ H v u Q I r q => q.elim (h.run p s σ H v u Q I r) (h'.run p s σ H v u Q I r)⟩
end
end DL
namespace DL
open PySem L2
abbrev kk (a b : Int) : List Key := [.inl a, .inl b]
/-- the pairs row by row -/
def cells (w h : Nat) : List (Nat × Nat) := (List.range h).flatMap fun y => (List.range w).map fun x => (x, y)
end DL
namespace DL
open PySem L2
structure Sz (k : Nat) (r : Rat) : Prop where
  n : Bd k r.num
  d : r.den < 2 ^ k
theorem Sz.mono {j k : Nat} {r : Rat} (s : Sz j r) (h : j ≤ k) : Sz k r := ⟨s.n.mono h, Nat.lt_of_lt_of_le s.d (Nat.pow_le_pow_right (by decide) h)⟩
theorem Sz.int {k : Nat} {i : Int} (h : Bd k i) (hk : 1 ≤ k) : Sz k (i : Rat) := ⟨by rw [Rat.num_intCast]; exact h, by rw [Rat.den_intCast]; exact Nat.lt_of_lt_of_le (by decide : 1 < 2 ^ 1) (Nat.pow_le_pow_right (by decide) hk)⟩
end DL
namespace DL
open PySem L2
mutual
/-- data with short leaves -/
def okD : D → Bool
  | .non => true
  | .bl _ => true
  | .int i => decide (i.natAbs.log2 < 100)
  | .str x => ((PyData.str x).showable && (PyData.str x).leavesShort 200 && decide (x.cps.size ≤ 100)) && (PyData.str x).canLay0
  | .tup ds => okDs ds
  | .lst ds => okDs ds
  | _ => false
def okDs : List D → Bool
  | [] => true
  | d :: ds => okD d && okDs ds
end
mutual
def szD' : D → Nat
  | .tup ds => szDs ds
  | .lst ds => szDs ds
  | .str x => x.cps.size
  | _ => 0
def szDs : List D → Nat
  | [] => 0
  | d :: ds => szD' d + 1 + szDs ds
end
mutual
def dpD : D → Nat
  | .tup ds => dpDs ds + 1
  | .lst ds => dpDs ds + 1
  | _ => 0
def dpDs : List D → Nat
  | [] => 0
  | d :: ds => max (dpD d) (dpDs ds)
end
section
variable {n w h : Nat} {f : Nat → D}
theorem okDs_map : ∀ (l : List Nat), (∀ i ∈ l, okD (f i) = true) → okDs (l.map f) = true
  | [], _ => rfl
  | i :: l, h => by
    show (okD (f i) && okDs (l.map f)) = true
    rw [h i List.mem_cons_self, okDs_map l fun j hj => h j (List.mem_cons_of_mem _ hj)]
    rfl
theorem szDs_map {k : Nat} : ∀ (l : List Nat), (∀ i ∈ l, szD' (f i) ≤ k) → szDs (l.map f) ≤ l.length * (k + 1)
  | [], _ => Nat.zero_le _
  | i :: l, h => by
    have h1 := h i List.mem_cons_self
    have h2 := szDs_map (k := k) l fun j hj => h j (List.mem_cons_of_mem _ hj)
    show szD' (f i) + 1 + szDs (l.map f) ≤ (l.length + 1) * (k + 1)
    rw [Nat.succ_mul]
    omega
theorem dpDs_map {k : Nat} : ∀ (l : List Nat), (∀ i ∈ l, dpD (f i) ≤ k) → dpDs (l.map f) ≤ k
  | [], _ => Nat.zero_le _
  | i :: l, h => by
    have h1 := h i List.mem_cons_self
    have h2 := dpDs_map (k := k) l fun j hj => h j (List.mem_cons_of_mem _ hj)
    show max (dpD (f i)) (dpDs (l.map f)) ≤ k
    omega
theorem ok_row (h : ∀ i, i < n → okD (f i) = true) : okD (rowD n f) = true := okDs_map _ fun i hi => h i (List.mem_range.mp hi)
theorem sz_row {k : Nat} (hn : n ≤ 11) (h : ∀ i, i < n → szD' (f i) ≤ k) : szD' (rowD n f) ≤ 11 * (k + 1) := by
  have := szDs_map (f := f) (k := k) (List.range n) fun i hi => h i (List.mem_range.mp hi)
  rw [List.length_range] at this
  exact Nat.le_trans this (Nat.mul_le_mul_right _ hn)
theorem dp_row {k : Nat} (h : ∀ i, i < n → dpD (f i) ≤ k) : dpD (rowD n f) ≤ k + 1 := Nat.succ_le_succ (dpDs_map _ fun i hi => h i (List.mem_range.mp hi))
theorem lg {i : Int} (h : i.natAbs ≤ 1000000) : okD (.int i) = true := decide_eq_true (by
  have : Bd 20 i := by unfold Bd; omega
  have := this.lg
  omega)
end
end DL
namespace DL
open PySem L2 PyProof.Rows
/-- what an object of the top names, as far as it is asked of -/
def refsN (o : Obj) : List Addr := match o.data with
  | .func fd => He.refV fd.code ++ (He.refV fd.kwdefaults ++ (He.refV fd.defaults ++ fd.closure.map (·.2)))
  | .cls cd => [cd.ns]
  | .dict es _ => es.toList.flatMap fun e => He.refV e.val
  | _ => []
def lvl (g : Addr → Option Obj) : List Addr → List Addr
  | [] => []
  | a :: r => (match g a with
    | some o => refsN o
    | none => []) ++ lvl g r
/-- a list of addresses, each told as a number -/
def frA {α : Type} : List Addr → (List Addr → α) → α
  | [], k => k []
  | a :: r, k => HandSHeadRun.frNat a fun a => frA r fun r => k (a :: r)
theorem frA_eq {α : Type} : ∀ (l : List Addr) (k : List Addr → α), frA l k = k l
  | [], k => rfl
  | a :: r, k => by
    show (HandSHeadRun.frNat a fun a => frA r fun r => k (a :: r)) = _
    rw [HandSHeadRun.frNat_eq, frA_eq r]
/-- the objects at these places, but for empty tables -/
def frK {α : Type} (g : Addr → Option Obj) : List Addr → (PySem.W.Frag → α) → α
  | [], k => k []
  | a :: r, k => match g a with
    | some o => (match He.emptyTab o with
      | true => frK g r k
      | false => frK g r fun K => k ((a, o) :: K))
    | none => frK g r k
theorem frK_eq {α : Type} (g : Addr → Option Obj) : ∀ (l : List Addr) (k : PySem.W.Frag → α), frK g l k = k (He.frT g l)
  | [], k => rfl
  | a :: r, k => by
    show (match g a with
      | some o => (match He.emptyTab o with
        | true => frK g r k
        | false => frK g r fun K => k ((a, o) :: K))
      | none => frK g r k) = _
    unfold He.frT He.frG
    rw [List.filterMap_cons]
    cases h : g a with
    | none => exact frK_eq g r k
    | some o =>
      dsimp only [Option.map_some]
      rw [List.filter_cons]
      cases h2 : He.emptyTab o with
      | true => exact frK_eq g r k
      | false => exact frK_eq g r _
/-- four steps from the module's names -/
def asN {α : Type} (g : Addr → Option Obj) (k : List Addr → α) : α :=
  frA (lvl g [mainGlobals]) fun l1 => frA (lvl g l1) fun l2 => frA (lvl g l2) fun l3 => frA (lvl g l3) fun l4 => k (mainGlobals :: PySem.cStatics :: (l1 ++ (l2 ++ (l3 ++ l4))))
def asL (g : Addr → Option Obj) : List Addr := mainGlobals :: PySem.cStatics :: (lvl g [mainGlobals] ++ (lvl g (lvl g [mainGlobals]) ++ (lvl g (lvl g (lvl g [mainGlobals])) ++ lvl g (lvl g (lvl g (lvl g [mainGlobals]))))))
theorem asN_eq {α : Type} (g : Addr → Option Obj) (k : List Addr → α) : asN g k = k (asL g) := by
  unfold asN asL
  simp only [frA_eq]
def KZ (_n : Nat) (g : Addr → Option Obj) : PySem.W.Frag := He.frT g (asL g)
theorem KZ_in {n : Nat} {h : Heap} : (KZ n h.get?).In h := He.frT_in
abbrev FnM : Type := Option (Str × Str × Arguments × FuncBody × Scope × Addr × List Str × Addr)
/-- a function as it stands -/
def fnM (K : PySem.W.Frag) (a : Addr) : FnM := match K.lookup a with
  | some ⟨_, _, .func fd, _⟩ => some (fd.name, fd.qualname, fd.params, fd.body, fd.scope, fd.globals, fd.closure.map (·.1), fd.builtins)
  | _ => none
def fdOf (K : PySem.W.Frag) (a : Addr) : FuncData := match K.lookup a with
  | some ⟨_, _, .func fd, _⟩ => fd
  | _ => default
abbrev AlZ : Type := Bool × List FnM
abbrev FzL : Type := List (List (PySem.W.Frag → Bool))
abbrev MzL : Type := List (PySem.W.Frag → FnM)
def obsZ (fs : FzL) (ms : MzL) (K : PySem.W.Frag) : AlZ := (fs.all fun l => l.all fun f => f K, ms.map fun m => m K)
def SaysZ (fs : FzL) (ms : MzL) (vs : List FnM) (K : PySem.W.Frag) : Prop := obsZ fs ms K = (true, vs)
def hookZ (n : Nat) (fs : FzL) (ms : MzL) (vs : List FnM) : PySem.W.Hook where
  α := AlZ
  obs := fun s => obsZ fs ms (KZ n s.heap.get?)
  val := fun _ => (true, vs)
  says := fun _ h => ∃ K : PySem.W.Frag, K.In h ∧ SaysZ fs ms vs K
  of := fun _ _ e => ⟨_, KZ_in, e⟩
  keeps := fun _ _ _ ⟨Kw, hKw, cw⟩ kw => ⟨Kw, PySem.W.Frag.In.keeps hKw kw, cw⟩
def obZ (_n : Nat) (fs : FzL) (ms : MzL) (s : PySem.W.SharedT) : AlZ := asN (HandSHeadRun.getT s) fun as => frK (HandSHeadRun.getT s) as fun K => obsZ fs ms K
theorem obZ_eq {n : Nat} {fs : FzL} {ms : MzL} {vs : List FnM} (s : PySem.W.SharedT) : obZ n fs ms s = (hookZ n fs ms vs).obs s.abs := by
  have e : HandSHeadRun.getT s = s.abs.heap.get? := funext (HandSHeadRun.getT_eq s)
  unfold obZ
  rw [asN_eq, frK_eq, e] <;> rfl
section
variable {fs : FzL} {ms : MzL} {vs : List FnM} {K : PySem.W.Frag}
theorem SaysZ.fact (c : SaysZ fs ms vs K) (i j : Nat) {l : List (PySem.W.Frag → Bool)} {f : PySem.W.Frag → Bool} (hi : fs[i]? = some l := by rfl) (hj : l[j]? = some f := by rfl) : f K = true := by
  have c1 : (fs.all fun l => l.all fun f => f K) = true := congrArg (fun z : AlZ => z.1) c
  exact List.all_eq_true.mp (List.all_eq_true.mp c1 l (List.mem_of_getElem? hi)) f (List.mem_of_getElem? hj)
theorem SaysZ.fn (c : SaysZ fs ms vs K) (i : Nat) {m : PySem.W.Frag → FnM} {v : FnM} (hm : ms[i]? = some m := by rfl) (hv : vs[i]? = some v := by rfl) : m K = v := by
  have e : ms.map (fun m => m K) = vs := congrArg (fun z : AlZ => z.2) c
  have e2 : (ms.map fun m => m K)[i]? = vs[i]? := by rw [e]
  rw [List.getElem?_map, hm, hv] at e2
  exact Option.some.inj e2
end
def gloZ (x : Str) (K : PySem.W.Frag) : Bool := He.eqO (PySem.W.nsIn K mainGlobals x) (some (some (.ref (He.ga K x))))
def freeZ (x : Str) (K : PySem.W.Frag) : Bool := He.eqO (PySem.W.nsIn K mainGlobals x) (some none)
def bltZ (x : Str) (id : String) (K : PySem.W.Frag) : Bool := He.eqO (PySem.W.nsIn K mainGlobals x) (some (some (.builtin id)))
def intZ (x : Str) (i : Int) (K : PySem.W.Frag) : Bool := (He.Fa.int x i).ok K
section
variable {mg : Str → Option Value} {h : Heap} {K : PySem.W.Frag}
theorem gloZ_ok (X : K.In h) (G : h.Ns mainGlobals mg) {x : Str} (c : gloZ x K = true) : mg x = some (.ref (He.ga K x)) := PySem.W.mg_of X G (He.eqO_ok c)
theorem freeZ_ok (X : K.In h) (G : h.Ns mainGlobals mg) {x : Str} (c : freeZ x K = true) : mg x = none := PySem.W.mg_none_of X G (He.eqO_ok c)
theorem bltZ_ok (X : K.In h) (G : h.Ns mainGlobals mg) {x : Str} {id : String} (c : bltZ x id K = true) : mg x = some (.builtin id) := PySem.W.mg_of X G (He.eqO_ok c)
theorem intZ_ok (X : K.In h) (G : h.Ns mainGlobals mg) {x : Str} {i : Int} (c : intZ x i K = true) : ∃ t, mg x = some (.int i t) := He.int_ok X G c
end
/-- a def: its code object bears its name, no defaults -/
def defZ (x : Str) (K : PySem.W.Frag) : Bool := match K.lookup (He.ga K x) with
  | some ⟨_, _, .func fd, _⟩ => PySem.W.codeIn K fd.code x && (fd.defaults == Value.none && PySem.W.keepIn K (.ref (He.ga K x)))
  | _ => false
theorem fn_look {K : PySem.W.Frag} {a : Addr} {nm q : Str} {pa : Arguments} {body : List Stmt} {sc : Scope} {cn : List Str} {gl bi : Addr} (e : fnM K a = some (nm, q, pa, .stmts body, sc, gl, cn, bi)) :
    ∃ (oc : Value) (od : Option Addr) (osl : Array (Option Value)) (cl : List (Str × Addr)) (dV kV doc pm : Value) (an : Option Addr) (cdv ct : Value), cl.map (·.1) = cn ∧
      fdOf K a = ⟨nm, q, pa, .stmts body, sc, gl, cl, dV, kV, doc, pm, an, cdv, ct, bi⟩ ∧ K.lookup a = some ⟨oc, od, .func (fdOf K a), osl⟩ := by
  unfold fnM at e
  cases q1 : K.lookup a with
  | none =>
    rw [q1] at e
    cases e
  | some o =>
    obtain ⟨oc, od, dt, osl⟩ := o
    rw [q1] at e
    cases dt with
    | func fd =>
      rcases fd with ⟨n1, n2, n3, n4, n5, n6, n7, n8, n9, n10, n11, n12, n13, n14, n15⟩
      have e2 : (some (n1, n2, n3, n4, n5, n6, n7.map (·.1), n15) : FnM) = some (nm, q, pa, .stmts body, sc, gl, cn, bi) := e
      simp only [Prod.mk.injEq, Option.some.injEq] at e2
      rcases e2 with ⟨h1, h2, h3, h4, h5, h6, h7, h8⟩
      subst h1 h2 h3 h4 h5 h6 h7 h8
      have e3 : fdOf K a = ⟨n1, n2, n3, .stmts body, n5, n6, n7, n8, n9, n10, n11, n12, n13, n14, n15⟩ := by
        unfold fdOf
        rw [q1]
      exact ⟨oc, od, osl, n7, n8, n9, n10, n11, n12, n13, n14, rfl, e3, by rw [e3]⟩
    | _ => cases e
theorem map_nil {α β : Type} {f : α → β} {l : List α} (h : l.map f = []) : l = [] := List.map_eq_nil_iff.mp h
theorem fun_z {K : PySem.W.Frag} {x : Str} {st : Stmt} (e : fnM K (He.ga K x) = some (x, x, defArgs st, .stmts (defBody st), defScope st, mainGlobals, [], builtinsNs)) (b : defZ x K = true) : Fun K x x st (He.ga K x) (fdOf K (He.ga K x)) := by
  obtain ⟨oc, od, osl, cl, dV, kV, doc, pm, an, cdv, ct, hcl, hf, lk⟩ := fn_look e
  have hcl := map_nil hcl
  subst hcl
  unfold defZ at b
  rw [lk] at b
  dsimp only at b
  obtain ⟨b1, b2⟩ := He.ba b
  obtain ⟨b2, b3⟩ := He.ba b2
  rw [hf] at b1 b2
  have hd : dV = .none := beq_iff_eq.mp b2
  subst hd
  exact ⟨⟨oc, od, kV, doc, pm, an, cdv, ct, osl, hf, lk, b1⟩, b3⟩
def cOf (K : PySem.W.Frag) (x : Str) : Addr := match (fdOf K (He.ga K x)).code with
  | .ref c => c
  | _ => 0
def tOf (K : PySem.W.Frag) (x : Str) : Addr := match K.lookup (cOf K x) with
  | some ⟨_, _, .fields ws, _⟩ => (match (ws[11]? : Option Value) with
    | some (.ref P) => P
    | _ => 0)
  | _ => 0
def codZ (x : Str) (K : PySem.W.Frag) : Bool := decide ((fdOf K (He.ga K x)).code = .ref (cOf K x)) && (decide (PySem.W.tabIn K x = some (cOf K x, tOf K x)) && (K.lookup (tOf K x)).isNone)
theorem codZ_ok {x : Str} {K : PySem.W.Frag} (h : codZ x K = true) : (fdOf K (He.ga K x)).code = .ref (cOf K x) ∧ PySem.W.tabIn K x = some (cOf K x, tOf K x) ∧ K.lookup (tOf K x) = none := by
  obtain ⟨h1, h2⟩ := He.ba h
  obtain ⟨h2, h3⟩ := He.ba h2
  exact ⟨of_decide_eq_true h1, of_decide_eq_true h2, Option.isNone_iff_eq_none.mp h3⟩
def excZ (x : Str) (K : PySem.W.Frag) : Bool := (fun C : Addr =>
  (PySem.W.keepIn K (.ref C) && (decide (PySem.W.subIn K (.ref C) (.type "BaseException") = some true) && decide (PySem.W.typeIn K (.ref C) = some (.type "type")))) &&
  ((He.eqO (PySem.W.findIn K (.ref C) "__getattribute__") (some (some (.builtin "BaseException.__getattribute__"))) && He.eqO (PySem.W.findIn K (.ref C) "__getattr__") (some none)) &&
  ((PySem.W.hasDictIn K C && He.eqO (PySem.W.findIn K (.ref C) "__class__") (some (some (.builtin "object.__class__")))) &&
  ((He.eqO (PySem.W.specialIn K (.builtin "object.__class__") "__get__") (some (some (.builtin "getset_descriptor.__get__"))) && decide (PySem.W.takesIn K (.builtin "object.__class__") = some true)) && decide (PySem.W.mroIn K C (.type "object") = some true))))) (He.ga K x)
structure ExcF (K : PySem.W.Frag) (C : Addr) : Prop where
  kp : (PySem.W.keepIn K (.ref C)) = true
  bc : PySem.W.subIn K (.ref C) (.type "BaseException") = some true
  tc : PySem.W.typeIn K (.ref C) = some (.type "type")
  ec : L2.ExcC K C
theorem excZ_ok {x : Str} {K : PySem.W.Frag} (h : excZ x K = true) : ExcF K (He.ga K x) := by
  unfold excZ at h
  obtain ⟨h1, h2⟩ := He.ba h
  obtain ⟨h3, h4⟩ := He.ba h1
  obtain ⟨h4, h5⟩ := He.ba h4
  obtain ⟨h6, h7⟩ := He.ba h2
  obtain ⟨h6, h8⟩ := He.ba h6
  obtain ⟨h9, h10⟩ := He.ba h7
  obtain ⟨h9, h11⟩ := He.ba h9
  obtain ⟨h12, h13⟩ := He.ba h10
  obtain ⟨h12, h14⟩ := He.ba h12
  have e := of_decide_eq_true h4
  exact ⟨h3, e, of_decide_eq_true h5, ⟨He.eqO_ok h6, He.eqO_ok h8, e, h9, He.eqO_ok h11, He.eqO_ok h12, of_decide_eq_true h14, of_decide_eq_true h13⟩⟩
def kitZ (x : Str) (v : PySem.W.Frag → Value) (b : Bool) (K : PySem.W.Frag) : Bool := decide (PySem.W.kitOne K (.ref (He.ga K x)) (v K) = some b)
def exmAZ (x : Str) (ys : List Str) (K : PySem.W.Frag) : Bool := decide (PySem.W.exmAny K (.ref (He.ga K x)) (ys.map fun y => .ref (He.ga K y)) = some true)
def exmOZ (x y : Str) (K : PySem.W.Frag) : Bool := decide (PySem.W.exmOne K (.ref (He.ga K x)) (.ref (He.ga K y)) = some true)
/-- an own error's own __init__ -/
def iA (K : PySem.W.Frag) (x : Str) : Addr := He.ma K (He.ga K x) "__init__"
def iniZ (x f : Str) (B nw ini : String) (tl : List Value) (file : Str) (q : Str) (dfl : Bool) (K : PySem.W.Frag) : Bool := (fun (C I : Addr) =>
  ((match K.lookup C with
    | some ⟨.type "type", _, .cls cdd, sll⟩ => (match cdd.mro, sll.toList with
      | .ref C' :: bm, [_, _, _, _, some (.builtin n), _] => decide (C' = C) && (decide (n = nw) && (!cdd.hasDel && (cdd.hasDict && refsB tl bm)))
      | _, _ => false)
    | _ => false) &&
  (He.eqO (PySem.W.ks_superIn K C C "__init__") (some (some (.builtin ini))) && (decide (PySem.W.subIn K (.ref C) (.type B) = some true) && PySem.W.excInitIn K C tl nw))) &&
  ((He.eqO (PySem.W.findIn K (.ref C) "__setattr__") (some (some (.builtin "object.__setattr__"))) && (He.eqO (PySem.W.findIn K (.ref C) f) (some none) && He.eqO (PySem.W.findIn K (.ref C) "__init__") (some (some (.ref I))))) &&
  ((decide (PySem.W.typeIn K (.ref I) = some (.type "function")) && (He.eqO (PySem.W.nsIn K PySem.cStatics "thirdparty.any") (some none) && decide (PySem.W.mroIn K C (.ref C) = some true))) &&
  ((match (fdOf K I).code with
    | .ref cda => PySem.W.codeIn K (.ref cda) q && (match K.lookup cda with
      | some ⟨_, _, .fields vs, _⟩ => (match (vs[2]? : Option Value) with
        | some (.str z _) => file == z
        | _ => false)
      | _ => false)
    | _ => false) &&
  ((match (fdOf K I).closure with
    | [(_, cc)] => (match K.lookup cc with
      | some ⟨_, _, .cell (some v), _⟩ => decide (v = .ref C)
      | _ => false)
    | _ => false) &&
  (match dfl, (fdOf K I).defaults with
    | false, v => decide (v = Value.none)
    | true, .ref T => (match K.lookup T with
      | some ⟨_, _, .seq its _, _⟩ => decide (its.toList = [Value.none])
      | _ => false)
    | _, _ => false)))))) (He.ga K x) (iA K x)
section
variable {P : Program} {K : PySem.W.Frag} {x f y q file : Str} {B nw ini : String} {tl : List Value} {dfl : Bool} {pa : Arguments} {body : List Stmt}
theorem ini_parts (c : iniZ x f B nw ini tl file q dfl K = true) :
    (∃ nm q N bs bm sn sb ab col dd k0 k1 k2 k3 k5, K.lookup (He.ga K x) = some (excClassObj nm q (He.ga K x) N bs bm true sn sb ab col dd k0 k1 k2 k3 k5 nw) ∧ (refsB tl bm = true)) ∧
    (PySem.W.ks_superIn K (He.ga K x) (He.ga K x) "__init__" = some (some (.builtin ini)) ∧ PySem.W.subIn K (.ref (He.ga K x)) (.type B) = some true ∧ PySem.W.excInitIn K (He.ga K x) tl nw = true) ∧
    (PySem.W.findIn K (.ref (He.ga K x)) "__setattr__" = some (some (.builtin "object.__setattr__")) ∧ PySem.W.findIn K (.ref (He.ga K x)) f = some none ∧ PySem.W.findIn K (.ref (He.ga K x)) "__init__" = some (some (.ref (iA K x)))) ∧
    (PySem.W.typeIn K (.ref (iA K x)) = some (.type "function") ∧ PySem.W.nsIn K PySem.cStatics "thirdparty.any" = some none ∧ PySem.W.mroIn K (He.ga K x) (.ref (He.ga K x)) = some true) ∧
    (∃ cda ccl cdd vs ccs tf, (fdOf K (iA K x)).code = .ref cda ∧ PySem.W.codeIn K (.ref cda) q = true ∧ K.lookup cda = some ⟨ccl, cdd, .fields vs, ccs⟩ ∧ (vs[2]? : Option Value) = some (.str file tf)) ∧
    (∃ n cc cl cld csl, (fdOf K (iA K x)).closure = [(n, cc)] ∧ K.lookup cc = some ⟨cl, cld, .cell (some (.ref (He.ga K x))), csl⟩) ∧
    ((dfl = false ∧ (fdOf K (iA K x)).defaults = .none) ∨ (dfl = true ∧ ∃ T oc od its n sl, (fdOf K (iA K x)).defaults = .ref T ∧ K.lookup T = some ⟨oc, od, .seq its n, sl⟩ ∧ its = #[Value.none])) := by
  unfold iniZ at c
  obtain ⟨h0, c⟩ := He.ba c
  obtain ⟨h1, h0⟩ := He.ba h0
  obtain ⟨h2, h0⟩ := He.ba h0
  obtain ⟨h3, h4⟩ := He.ba h0
  obtain ⟨h5, c⟩ := He.ba c
  obtain ⟨h5, h6⟩ := He.ba h5
  obtain ⟨h6, h7⟩ := He.ba h6
  obtain ⟨h8, c⟩ := He.ba c
  obtain ⟨h8, h9⟩ := He.ba h8
  obtain ⟨h9, h10⟩ := He.ba h9
  obtain ⟨h11, c⟩ := He.ba c
  obtain ⟨h12, h13⟩ := He.ba c
  clear c h0
  refine ⟨?_, ⟨He.eqO_ok h2, of_decide_eq_true h3, h4⟩, ⟨He.eqO_ok h5, He.eqO_ok h6, He.eqO_ok h7⟩, ⟨of_decide_eq_true h8, He.eqO_ok h9, of_decide_eq_true h10⟩, ?_, ?_, ?_⟩
  · clear h2 h3 h4 h5 h6 h7 h8 h9 h10 h11 h12 h13
    generalize He.ga K x = C at h1 ⊢
    split at h1
    · rename_i dd cd sl ho
      split at h1
      · rename_i C' bm k0 k1 k2 k3 n k5 hmr hs
        obtain ⟨e2, g1⟩ := He.ba h1
        obtain ⟨e3, g2⟩ := He.ba g1
        obtain ⟨e4, g3⟩ := He.ba g2
        obtain ⟨e5, g4⟩ := He.ba g3
        clear h1 g1 g2 g3
        have d2 := of_decide_eq_true e2
        have d3 := of_decide_eq_true e3
        clear e2 e3
        subst d2 d3
        have e6 : cd.hasDel = false := by simpa using e4
        clear e4
        rcases cd with ⟨nm, bs, mro, ns, qn, hd, sn, sub, ab, col, del⟩
        dsimp only at hmr e6 e5
        subst hmr e6 e5
        have hsl : sl = #[k0, k1, k2, k3, (some (.builtin n)), k5] := by
          obtain ⟨l⟩ := sl
          simp only at hs
          rw [hs]
        subst hsl
        exact ⟨nm, qn, ns, bs, bm, sn, sub, ab, col, dd, k0, k1, k2, k3, k5, ho, g4⟩
      · cases h1
    · cases h1
  · clear h1 h2 h3 h4 h5 h6 h7 h8 h9 h10 h12 h13
    generalize (fdOf K (iA K x)).code = cv at h11 ⊢
    cases cv with
    | ref cda =>
      obtain ⟨e1, h11⟩ := He.ba h11
      cases q1 : K.lookup cda with
      | none =>
        rw [q1] at h11
        cases h11
      | some o =>
        obtain ⟨oc, od, dt, osl⟩ := o
        rw [q1] at h11
        cases dt with
        | fields vs =>
          dsimp only at h11
          split at h11
          · rename_i z tf hz
            have ez : file = z := beq_iff_eq.mp h11
            subst ez
            exact ⟨cda, oc, od, vs, osl, tf, rfl, e1, q1, hz⟩
          · cases h11
        | _ => cases h11
    | _ => cases h11
  · clear h1 h2 h3 h4 h5 h6 h7 h8 h9 h10 h11 h13
    generalize (fdOf K (iA K x)).closure = cv at h12 ⊢
    split at h12
    · rename_i n cc
      split at h12
      · rename_i cl cld v csl ho
        have e := of_decide_eq_true h12
        subst e
        exact ⟨n, cc, cl, cld, csl, rfl, ho⟩
      · cases h12
    · cases h12
  · clear h1 h2 h3 h4 h5 h6 h7 h8 h9 h10 h11 h12
    generalize (fdOf K (iA K x)).defaults = cv at h13 ⊢
    cases dfl with
    | false => exact .inl ⟨rfl, of_decide_eq_true h13⟩
    | true =>
      right
      cases cv with
      | ref T =>
        cases q1 : K.lookup T with
        | none =>
          simp only [q1] at h13
          cases h13
        | some o =>
          obtain ⟨oc, od, dt, osl⟩ := o
          simp only [q1] at h13
          cases dt with
          | seq its n =>
            have e : its.toList = [Value.none] := of_decide_eq_true h13
            refine ⟨rfl, T, oc, od, its, n, osl, rfl, q1, ?_⟩
            obtain ⟨l⟩ := its
            simp only at e
            rw [e]
          | _ => cases h13
      | _ => cases h13
theorem ini_fd (e : fnM K (iA K x) = some (("__init__" : Str), q, pa, .stmts body, iniS y, mainGlobals, [("__class__" : Str)], builtinsNs)) (c : iniZ x f B nw ini tl file q dfl K = true) :
    ∃ oc od osl dV kV doc pm an cda ct cc ccl cdd vs ccs tf cl cld csl, fdOf K (iA K x) = PySem.W.ksFn "__init__" q pa body (iniS y) dV kV doc pm an (.ref cda) ct cc ∧ K.lookup (iA K x) = some ⟨oc, od, .func (fdOf K (iA K x)), osl⟩ ∧
      PySem.W.codeIn K (.ref cda) q = true ∧ K.lookup cda = some ⟨ccl, cdd, .fields vs, ccs⟩ ∧ (vs[2]? : Option Value) = some (.str file tf) ∧ K.lookup cc = some ⟨cl, cld, .cell (some (.ref (He.ga K x))), csl⟩ ∧
      ((dfl = false ∧ dV = .none) ∨ (dfl = true ∧ ∃ T oc od its n sl, dV = .ref T ∧ K.lookup T = some ⟨oc, od, .seq its n, sl⟩ ∧ its = #[Value.none])) := by
  obtain ⟨_, _, _, _, ⟨cda, ccl, cdd, vs, ccs, tf, a1, a2, a3, a4⟩, ⟨n, cc, cl, cld, csl, b1, b2⟩, d⟩ := ini_parts c
  obtain ⟨oc, od, osl, cl', dV, kV, doc, pm, an, cdv, ct, hcl, hf, lk⟩ := fn_look e
  rw [hf] at a1 b1 d
  dsimp only at a1 b1 d
  subst a1 b1
  have hn : n = "__class__" := by simpa using hcl
  subst hn
  exact ⟨oc, od, osl, dV, kV, doc, pm, an, cda, ct, cc, ccl, cdd, vs, ccs, tf, cl, cld, csl, hf, lk, a2, a3, a4, b2, d⟩
theorem ini_z {msg : Str} {p0 p1 p2 p3 p4 p5 q1 q2 q3 q4 : Pos} {j : Nat} {ar : Arg} (eb : EB B nw ini tl) (e : fnM K (iA K x) = some (("__init__" : Str), q, pa, .stmts body, iniS y, mainGlobals, [("__class__" : Str)], builtinsNs))
    (hb : body = [.Expr (.Call (.Attribute (.Call (.Name "super" p0) [] [] p1) "__init__" p2) [.Constant (.str msg) j p3] [] p4) p5, .Assign [.Attribute (.Name "self" q1) f q2] (.Name y q3) q4]) (hl : (p2.endLine == p4.line) = true)
    (ha : (pa.posonlyargs ++ pa.args).head? = some ar) (hs : ar.arg = "self") (hf : ((P.main.file : Str) == file) = true) (ht : (P.main.scope.names.lookup ("super" : Str)).isSome = false)
    (n1 : (iniS y).names.lookup ("super" : Str) = some .globalImplicit) (n2 : (iniS y).names.lookup ("__class__" : Str) = some .free) (n3 : (iniS y).names.lookup ("self" : Str) = some .local) (n4 : (iniS y).names.lookup y = some .local)
    (c : iniZ x f B nw ini tl file q dfl K = true) : IniTxt P K (He.ga K x) (iA K x) f y := by
  obtain ⟨⟨nm, q', N, bs, bm, sn, sb, ab, col, dd, k0, k1, k2, k3, k5, c1, c2⟩, ⟨s1, s2, s3⟩, ⟨s4, s5, s6⟩, ⟨s7, s8, s9⟩, _⟩ := ini_parts c
  obtain ⟨oc, od, osl, dV, kV, doc, pm, an, cda, ct, cc, ccl, cdd, vs, ccs, tf, cl, cld, csl, f1, f2, f3, f4, f5, f6, _⟩ := ini_fd e c
  rw [f1, hb] at f2
  exact ⟨⟨_, _, _, _, eb, nm, q', N, bs, bm, sn, sb, ab, col, dd, k0, k1, k2, k3, k5, c1, c2, s1, s2, s3⟩, s4, s5, s6, s7, s8, s9, ⟨oc, od, an, dV, kV, doc, pm, ct, cda, cc, osl, q, msg, pa, p0, p1, p2, p3, p4, p5, q1, q2, q3, q4, j, ar, vs, file, tf, ccl, cl, cdd, cld, ccs, csl, f2, f3, ha, hs, f4, f5, hf, f6, n1, n2, n3, n4, hl⟩, ht⟩
theorem ini_bD (e : fnM K (iA K x) = some (("__init__" : Str), q, pa, .stmts body, iniS y, mainGlobals, [("__class__" : Str)], builtinsNs)) (c : iniZ x f B nw ini tl file q true K = true)
    (b : ∀ (T : Addr) (kV doc pm : Value) (an : Option Addr) (cdv ct : Value) (cc : Addr) (a : Addr) (v : Value), ∃ k : Option (Array Value) → Sem (List (Str × Value)), bindArgs (PySem.W.ksFn "__init__" q pa body (iniS y) (.ref T) kV doc pm an cdv ct cc) ⟨[.ref a, v], []⟩ = seqItems? (.ref T) >>= k ∧ k (some #[Value.none]) = (pure [(("self" : Str), Value.ref a), ((y : Str), v)] : Sem (List (Str × Value)))) :
    ∀ (s : Shared) (a : Addr) (v : Value) (fd : FuncData), K.In s.heap → (∃ oc od osl, K.lookup (iA K x) = some ⟨oc, od, .func fd, osl⟩) → BindsTo s fd ⟨[.ref a, v], []⟩ [("self", .ref a), (y, v)] := by
  obtain ⟨oc, od, osl, dV, kV, doc, pm, an, cda, ct, cc, ccl, cdd, vs, ccs, tf, cl, cld, csl, f1, f2, f3, f4, f5, f6, d⟩ := ini_fd e c
  rcases d with ⟨z, _⟩ | ⟨_, T, oc', od', its, n, sl, hd, hT, hi⟩
  · cases z
  · subst hd hi
    rw [f1] at f2
    exact fun s a v fd hk h => bd_mkD f2 hk h rfl hT rfl (b _ _ _ _ _ _ _ _ a v)
end
theorem fld_z {K : PySem.W.Frag} {x f q file : Str} {B nw ini : String} {tl : List Value} {dfl : Bool} (c : iniZ x f B nw ini tl file q dfl K = true) (h : ExcF K (He.ga K x)) : FldC K (He.ga K x) f :=
  ⟨h.ec.hg, h.ec.hk, h.bc, h.ec.hd, (ini_parts c).2.2.1.2.1⟩
theorem walk_Z {l : PySem.W.OpenLaw} {n k : Nat} {q : Program} {loose : List Str} {XP : (Str → Option Value) → Heap → Prop} {YP : World → Heap → Prop} {d : DefRec} {x : Str} (hn : l.most = some n) (hn2 : n ≤ sizeLine) (hdf : d.params.defaults = [])
    (hr : Room k callerA) (F : ∀ (w : World) (mg : Str → Option Value) (fa : Addr) (h : Heap), YP w h → h.Ns mainGlobals mg → mg d.name = some (.ref fa) → ∃ K : PySem.W.Frag, K.In h ∧ DEnd l.prog w K q k n x mg fa) :
    PySem.W.WalkO q loose XP YP l.row.toRowW d [] (fun g ws => PySem.call g ws) := by
  refine Att.attach_callB hn hdf fun w s₀ s₁ mg mb fa ob pmd cdv dcv a vs ns G Y ho hd hcd hmg hobj hints hlen hbits hg => ?_
  obtain ⟨K, KX, F0, fd, xs, den, hK, hx, hT, hb, hF, hden⟩ := F w mg fa _ Y G.T.g hmg
  subst hK
  have hc : ∀ p ∈ xs.map (·.2), PySem.W.CodeHd s₁.heap p.1 p.2 ∧ s₁.heap.get? p.2 = some { cls := .none, data := .fields #[] } := fun p hp => by
    obtain ⟨y, hy, rfl⟩ := List.mem_map.mp hp
    obtain ⟨⟨dd, h1⟩, h2, h3⟩ := hx y hy
    exact PySem.W.tab_of G.T KX h1 h2
  have e : Ent F0.K mg s₁ (xs.map (·.2)) a vs ns := ⟨KX, G.T.g, ⟨mb, G.T.b, G.T.builtins⟩, G.T.nolimit, hg, fun p hp => (hc p hp).2, fun p hp => by
    obtain ⟨y, hy, rfl⟩ := List.mem_map.mp hp
    exact (hx y hy).2.2, fun p hp => (hc p hp).1, G.T.bmain, hobj, hints, Nat.le_trans hlen hn2⟩
  exact ent_call e hr hT hb hF (hden ns hlen hbits)
end DL
namespace DL
open PySem L2 PyProof.Rows
end DL
namespace K02
open PySem L2 DL
def topS (i : Nat) : Stmt := PySem.Challenge.pw_hollowrise_k02_fields_looked_at.main.body.getD i (.Pass ⟨0, 0, 0, 0⟩)
abbrev s__law_cell : Stmt := topS 38
theorem sc__law_cell : FnScope ["cells", "spot", "k", "base", "own", "turn"] ["cells", "spot"] (defScope s__law_cell) := ⟨rfl, rfl, rfl, by decide +kernel, rfl, by decide +kernel, by decide +kernel⟩
abbrev s__law_heights : Stmt := topS 40
theorem sc__law_heights : FnScope ["cells", "spot", "wide", "high", "base", "found", "y", "n", "row", "x", "near", "some", "ahead", "one"] ["cells", "spot", "wide", "high", "base"] (defScope s__law_heights) := ⟨rfl, rfl, rfl, by decide +kernel, rfl, by decide +kernel, by decide +kernel⟩
abbrev s__law_low : Stmt := topS 39
theorem sc__law_low : FnScope ["above", "below", "one", "other", "part"] ["above", "below"] (defScope s__law_low) := ⟨rfl, rfl, rfl, by decide +kernel, rfl, by decide +kernel, by decide +kernel⟩
abbrev s__law_worths : Stmt := topS 41
theorem sc__law_worths : FnScope ["cells", "spot", "wide", "high", "sort", "found", "y", "row", "x", "n", "above", "below", "far", "some"] ["cells", "spot", "wide", "high", "sort"] (defScope s__law_worths) := ⟨rfl, rfl, rfl, by decide +kernel, rfl, by decide +kernel, by decide +kernel⟩
abbrev s__law_sides : Stmt := topS 47
theorem sc__law_sides : FnScope ["thing", "sizes", "high", "row"] ["thing"] (defScope s__law_sides) := ⟨rfl, rfl, rfl, by decide +kernel, rfl, by decide +kernel, by decide +kernel⟩
abbrev s__law_are_steps : Stmt := topS 49
theorem sc__law_are_steps : FnScope ["rows", "y", "row", "x", "height", "near", "ahead", "one"] ["rows"] (defScope s__law_are_steps) := ⟨rfl, rfl, rfl, by decide +kernel, rfl, by decide +kernel, by decide +kernel⟩
abbrev s__law_whole : Stmt := topS 46
theorem sc__law_whole : FnScope ["thing"] ["thing"] (defScope s__law_whole) := ⟨rfl, rfl, rfl, by decide +kernel, rfl, by decide +kernel, by decide +kernel⟩
abbrev s__law_are_numbers : Stmt := topS 48
theorem sc__law_are_numbers : FnScope ["rows", "sides_v", "y", "row", "x", "height", "is_rim"] ["rows", "sides_v"] (defScope s__law_are_numbers) := ⟨rfl, rfl, rfl, by decide +kernel, rfl, by decide +kernel, by decide +kernel⟩
abbrev s__law_are_worths : Stmt := topS 50
theorem sc__law_are_worths : FnScope ["rows", "row", "worth"] ["rows"] (defScope s__law_are_worths) := ⟨rfl, rfl, rfl, by decide +kernel, rfl, by decide +kernel, by decide +kernel⟩
abbrev s__law_fault : Stmt := topS 51
theorem sc__law_fault : FnScope ["thing", "sides_v"] ["thing"] (defScope s__law_fault) := ⟨rfl, rfl, rfl, by decide +kernel, rfl, by decide +kernel, by decide +kernel⟩
abbrev s_is_rim_low : Stmt := topS 34
theorem sc_is_rim_low : FnScope ["rows", "edge", "row"] ["rows"] (defScope s_is_rim_low) := ⟨rfl, rfl, rfl, by decide +kernel, rfl, by decide +kernel, by decide +kernel⟩
abbrev s_are_height_rows : Stmt := topS 35
theorem sc_are_height_rows : FnScope ["thing", "wide", "row", "height"] ["thing"] (defScope s_are_height_rows) := ⟨rfl, rfl, rfl, by decide +kernel, rfl, by decide +kernel, by decide +kernel⟩
abbrev s__wrong_or_steps : Stmt := topS 32
theorem sc__wrong_or_steps : FnScope ["thing"] ["thing"] (defScope s__wrong_or_steps) := ⟨rfl, rfl, rfl, by decide +kernel, rfl, by decide +kernel, by decide +kernel⟩
abbrev s_is_side_long : Stmt := topS 30
theorem sc_is_side_long : FnScope ["thing"] ["thing"] (defScope s_is_side_long) := ⟨rfl, rfl, rfl, by decide +kernel, rfl, by decide +kernel, by decide +kernel⟩
abbrev s_are_steps_beside : Stmt := topS 33
theorem sc_are_steps_beside : FnScope ["row", "west", "height"] ["row"] (defScope s_are_steps_beside) := ⟨rfl, rfl, rfl, by decide +kernel, rfl, by decide +kernel, by decide +kernel⟩
abbrev s_wrong_with_heights : Stmt := topS 31
theorem sc_wrong_with_heights : FnScope ["thing", "first", "wide", "south", "row", "west", "height", "below"] ["thing"] (defScope s_wrong_with_heights) := ⟨rfl, rfl, rfl, by decide +kernel, rfl, by decide +kernel, by decide +kernel⟩
abbrev s_is_tuple_of : Stmt := topS 23
theorem sc_is_tuple_of : FnScope ["thing", "many"] ["thing", "many"] (defScope s_is_tuple_of) := ⟨rfl, rfl, rfl, by decide +kernel, rfl, by decide +kernel, by decide +kernel⟩
abbrev s_are_worth_rows : Stmt := topS 36
theorem sc_are_worth_rows : FnScope ["thing", "size", "wide", "high", "row", "worth", "above", "below"] ["thing", "size"] (defScope s_are_worth_rows) := ⟨rfl, rfl, rfl, by decide +kernel, rfl, by decide +kernel, by decide +kernel⟩
abbrev s_sides : Stmt := topS 29
theorem sc_sides : FnScope ["rows"] ["rows"] (defScope s_sides) := ⟨rfl, rfl, rfl, by decide +kernel, rfl, by decide +kernel, by decide +kernel⟩
abbrev s_need_field : Stmt := topS 28
theorem sc_need_field : FnScope ["thing", "heights", "worths", "place"] ["thing"] (defScope s_need_field) := ⟨rfl, rfl, rfl, by decide +kernel, rfl, by decide +kernel, by decide +kernel⟩
abbrev s_is_field : Stmt := topS 27
theorem sc_is_field : FnScope ["thing"] ["thing"] (defScope s_is_field) := ⟨rfl, rfl, rfl, by decide +kernel, rfl, by decide +kernel, by decide +kernel⟩
abbrev s__law_asked : Stmt := topS 43
theorem sc__law_asked : FnScope ["deed", "wrong", "found", "error", "some", "words", "kinds", "own", "is_it", "word"] ["deed"] (defScope s__law_asked) := ⟨rfl, rfl, rfl, by decide +kernel, rfl, by decide +kernel, by decide +kernel⟩
abbrev s__law_looked_at : Stmt := topS 52
theorem sc__law_looked_at : FnScope ["thing", "due", "kept", "said", "turn"] ["thing"] (defScope s__law_looked_at) := ⟨rfl, rfl, rfl, by decide +kernel, rfl, by decide +kernel, by decide +kernel⟩
abbrev s__law_bounds_right : Stmt := topS 53
theorem sc__law_bounds_right : FnScope ["cells", "spot", "sides_v", "heights", "worths", "far", "rows", "y", "row", "k", "near", "fresh", "higher", "x"] ["cells", "spot"] (defScope s__law_bounds_right) := ⟨rfl, rfl, rfl, by decide +kernel, rfl, by decide +kernel, by decide +kernel⟩
abbrev s__law_field : Stmt := topS 42
theorem sc__law_field : FnScope ["cells", "spot", "least", "most", "n", "size", "wide", "high", "heights"] ["cells", "spot", "least", "most"] (defScope s__law_field) := ⟨rfl, rfl, rfl, by decide +kernel, rfl, by decide +kernel, by decide +kernel⟩
abbrev s__law_odd : Stmt := topS 44
theorem sc__law_odd : FnScope ["n", "thing", "some"] ["n", "thing"] (defScope s__law_odd) := ⟨rfl, rfl, rfl, by decide +kernel, rfl, by decide +kernel, by decide +kernel⟩
abbrev s__law_spoilt : Stmt := topS 45
theorem sc__law_spoilt : FnScope ["cells", "spot", "thing", "deep", "n", "mid", "kind", "deeper", "some"] ["cells", "spot", "thing", "deep"] (defScope s__law_spoilt) := ⟨rfl, rfl, rfl, by decide +kernel, rfl, by decide +kernel, by decide +kernel⟩
abbrev s_law : Stmt := topS 54
theorem sc_law : FnScope ["script", "spot", "turn", "field", "again", "odd", "higher", "row", "one"] ["script"] (defScope s_law) := ⟨rfl, rfl, rfl, by decide +kernel, rfl, by decide +kernel, by decide +kernel⟩
/-- where things stand -/
structure Tx where
  K : PySem.W.Frag
  mg : Str → Option Value
  a__law_cell : Addr
  fd__law_cell : FuncData
  a__law_heights : Addr
  fd__law_heights : FuncData
  a__law_low : Addr
  fd__law_low : FuncData
  a__law_worths : Addr
  fd__law_worths : FuncData
  a__law_sides : Addr
  fd__law_sides : FuncData
  a__law_are_steps : Addr
  fd__law_are_steps : FuncData
  a__law_whole : Addr
  fd__law_whole : FuncData
  a__law_are_numbers : Addr
  fd__law_are_numbers : FuncData
  a__law_are_worths : Addr
  fd__law_are_worths : FuncData
  a__law_fault : Addr
  fd__law_fault : FuncData
  a_is_rim_low : Addr
  fd_is_rim_low : FuncData
  a_are_height_rows : Addr
  fd_are_height_rows : FuncData
  a__wrong_or_steps : Addr
  fd__wrong_or_steps : FuncData
  a_is_side_long : Addr
  fd_is_side_long : FuncData
  a_are_steps_beside : Addr
  fd_are_steps_beside : FuncData
  a_wrong_with_heights : Addr
  fd_wrong_with_heights : FuncData
  a_is_tuple_of : Addr
  fd_is_tuple_of : FuncData
  a_are_worth_rows : Addr
  fd_are_worth_rows : FuncData
  a_sides : Addr
  fd_sides : FuncData
  a_need_field : Addr
  fd_need_field : FuncData
  a_is_field : Addr
  fd_is_field : FuncData
  a__law_asked : Addr
  fd__law_asked : FuncData
  a__law_looked_at : Addr
  fd__law_looked_at : FuncData
  a__law_bounds_right : Addr
  fd__law_bounds_right : FuncData
  a__law_field : Addr
  fd__law_field : FuncData
  a__law_odd : Addr
  fd__law_odd : FuncData
  a__law_spoilt : Addr
  fd__law_spoilt : FuncData
  a_law : Addr
  fd_law : FuncData
  C_HollowError : Addr
  C_BadField : Addr
  C_BadFraction : Addr
  C_BadRule : Addr
  C_BadSpot : Addr
  C_BadTarget : Addr
  C_BadHeights : Addr
  C_BadRow : Addr
  C_BadPairing : Addr
  C_BadPaper : Addr
  C_BadCoin : Addr
  C_TooGreat : Addr
  C_TooFew : Addr
  C_BadText : Addr
  C_DeedError : Addr
  C_NoHollow : Addr
  C_NoPeak : Addr
  C_Nought : Addr
  C_BookError : Addr
  C_Gone : Addr
  I_BadField : Addr
  I_BadRow : Addr
  I_BadPairing : Addr
  I_BadPaper : Addr
  I_BadCoin : Addr
  I_TooGreat : Addr
  I_TooFew : Addr
  I_BadText : Addr
  I_NoHollow : Addr
  I_NoPeak : Addr
  I_Nought : Addr
  c__law_looked_at : Addr
  P__law_looked_at : Addr
def Tx.cl (t : Tx) : String → Option Addr
  | "HollowError" => some t.C_HollowError
  | "BadField" => some t.C_BadField
  | "BadFraction" => some t.C_BadFraction
  | "BadRule" => some t.C_BadRule
  | "BadSpot" => some t.C_BadSpot
  | "BadTarget" => some t.C_BadTarget
  | "BadHeights" => some t.C_BadHeights
  | "BadRow" => some t.C_BadRow
  | "BadPairing" => some t.C_BadPairing
  | "BadPaper" => some t.C_BadPaper
  | "BadCoin" => some t.C_BadCoin
  | "TooGreat" => some t.C_TooGreat
  | "TooFew" => some t.C_TooFew
  | "BadText" => some t.C_BadText
  | "DeedError" => some t.C_DeedError
  | "NoHollow" => some t.C_NoHollow
  | "NoPeak" => some t.C_NoPeak
  | "Nought" => some t.C_Nought
  | "BookError" => some t.C_BookError
  | "Gone" => some t.C_Gone
  | _ => none
def Tx.fx (t : Tx) : Fx := ⟨t.K, t.cl, [(t.P__law_looked_at, "_law_looked_at" ++ ".<locals>." ++ "<lambda>")]⟩
structure TxOk (P : Program) (t : Tx) : Prop where
  g__law_cell : t.mg "_law_cell" = some (.ref t.a__law_cell)
  F__law_cell : Fun t.K "_law_cell" "_law_cell" s__law_cell t.a__law_cell t.fd__law_cell
  b__law_cell : Binds t.K t.fd__law_cell ["cells", "spot"] []
  g__law_heights : t.mg "_law_heights" = some (.ref t.a__law_heights)
  F__law_heights : Fun t.K "_law_heights" "_law_heights" s__law_heights t.a__law_heights t.fd__law_heights
  b__law_heights : Binds t.K t.fd__law_heights ["cells", "spot", "wide", "high", "base"] []
  g__law_low : t.mg "_law_low" = some (.ref t.a__law_low)
  F__law_low : Fun t.K "_law_low" "_law_low" s__law_low t.a__law_low t.fd__law_low
  b__law_low : Binds t.K t.fd__law_low ["above", "below"] []
  g__law_worths : t.mg "_law_worths" = some (.ref t.a__law_worths)
  F__law_worths : Fun t.K "_law_worths" "_law_worths" s__law_worths t.a__law_worths t.fd__law_worths
  b__law_worths : Binds t.K t.fd__law_worths ["cells", "spot", "wide", "high", "sort"] []
  g__law_sides : t.mg "_law_sides" = some (.ref t.a__law_sides)
  F__law_sides : Fun t.K "_law_sides" "_law_sides" s__law_sides t.a__law_sides t.fd__law_sides
  b__law_sides : Binds t.K t.fd__law_sides ["thing"] []
  g__law_are_steps : t.mg "_law_are_steps" = some (.ref t.a__law_are_steps)
  F__law_are_steps : Fun t.K "_law_are_steps" "_law_are_steps" s__law_are_steps t.a__law_are_steps t.fd__law_are_steps
  b__law_are_steps : Binds t.K t.fd__law_are_steps ["rows"] []
  g__law_whole : t.mg "_law_whole" = some (.ref t.a__law_whole)
  F__law_whole : Fun t.K "_law_whole" "_law_whole" s__law_whole t.a__law_whole t.fd__law_whole
  b__law_whole : Binds t.K t.fd__law_whole ["thing"] []
  g__law_are_numbers : t.mg "_law_are_numbers" = some (.ref t.a__law_are_numbers)
  F__law_are_numbers : Fun t.K "_law_are_numbers" "_law_are_numbers" s__law_are_numbers t.a__law_are_numbers t.fd__law_are_numbers
  b__law_are_numbers : Binds t.K t.fd__law_are_numbers ["rows", "sides_v"] []
  g__law_are_worths : t.mg "_law_are_worths" = some (.ref t.a__law_are_worths)
  F__law_are_worths : Fun t.K "_law_are_worths" "_law_are_worths" s__law_are_worths t.a__law_are_worths t.fd__law_are_worths
  b__law_are_worths : Binds t.K t.fd__law_are_worths ["rows"] []
  g__law_fault : t.mg "_law_fault" = some (.ref t.a__law_fault)
  F__law_fault : Fun t.K "_law_fault" "_law_fault" s__law_fault t.a__law_fault t.fd__law_fault
  b__law_fault : Binds t.K t.fd__law_fault ["thing"] []
  g_is_rim_low : t.mg "is_rim_low" = some (.ref t.a_is_rim_low)
  F_is_rim_low : Fun t.K "is_rim_low" "is_rim_low" s_is_rim_low t.a_is_rim_low t.fd_is_rim_low
  b_is_rim_low : Binds t.K t.fd_is_rim_low ["rows"] []
  g_are_height_rows : t.mg "are_height_rows" = some (.ref t.a_are_height_rows)
  F_are_height_rows : Fun t.K "are_height_rows" "are_height_rows" s_are_height_rows t.a_are_height_rows t.fd_are_height_rows
  b_are_height_rows : Binds t.K t.fd_are_height_rows ["thing"] []
  g__wrong_or_steps : t.mg "_wrong_or_steps" = some (.ref t.a__wrong_or_steps)
  F__wrong_or_steps : Fun t.K "_wrong_or_steps" "_wrong_or_steps" s__wrong_or_steps t.a__wrong_or_steps t.fd__wrong_or_steps
  b__wrong_or_steps : Binds t.K t.fd__wrong_or_steps ["thing"] []
  g_is_side_long : t.mg "is_side_long" = some (.ref t.a_is_side_long)
  F_is_side_long : Fun t.K "is_side_long" "is_side_long" s_is_side_long t.a_is_side_long t.fd_is_side_long
  b_is_side_long : Binds t.K t.fd_is_side_long ["thing"] []
  g_are_steps_beside : t.mg "are_steps_beside" = some (.ref t.a_are_steps_beside)
  F_are_steps_beside : Fun t.K "are_steps_beside" "are_steps_beside" s_are_steps_beside t.a_are_steps_beside t.fd_are_steps_beside
  b_are_steps_beside : Binds t.K t.fd_are_steps_beside ["row"] []
  g_wrong_with_heights : t.mg "wrong_with_heights" = some (.ref t.a_wrong_with_heights)
  F_wrong_with_heights : Fun t.K "wrong_with_heights" "wrong_with_heights" s_wrong_with_heights t.a_wrong_with_heights t.fd_wrong_with_heights
  b_wrong_with_heights : Binds t.K t.fd_wrong_with_heights ["thing"] []
  g_is_tuple_of : t.mg "is_tuple_of" = some (.ref t.a_is_tuple_of)
  F_is_tuple_of : Fun t.K "is_tuple_of" "is_tuple_of" s_is_tuple_of t.a_is_tuple_of t.fd_is_tuple_of
  b_is_tuple_of : Binds t.K t.fd_is_tuple_of ["thing", "many"] []
  g_are_worth_rows : t.mg "are_worth_rows" = some (.ref t.a_are_worth_rows)
  F_are_worth_rows : Fun t.K "are_worth_rows" "are_worth_rows" s_are_worth_rows t.a_are_worth_rows t.fd_are_worth_rows
  b_are_worth_rows : Binds t.K t.fd_are_worth_rows ["thing", "size"] []
  g_sides : t.mg "sides" = some (.ref t.a_sides)
  F_sides : Fun t.K "sides" "sides" s_sides t.a_sides t.fd_sides
  b_sides : Binds t.K t.fd_sides ["rows"] []
  g_need_field : t.mg "need_field" = some (.ref t.a_need_field)
  F_need_field : Fun t.K "need_field" "need_field" s_need_field t.a_need_field t.fd_need_field
  b_need_field : Binds t.K t.fd_need_field ["thing"] []
  g_is_field : t.mg "is_field" = some (.ref t.a_is_field)
  F_is_field : Fun t.K "is_field" "is_field" s_is_field t.a_is_field t.fd_is_field
  b_is_field : Binds t.K t.fd_is_field ["thing"] []
  g__law_asked : t.mg "_law_asked" = some (.ref t.a__law_asked)
  F__law_asked : Fun t.K "_law_asked" "_law_asked" s__law_asked t.a__law_asked t.fd__law_asked
  b__law_asked : Binds t.K t.fd__law_asked ["deed"] []
  g__law_looked_at : t.mg "_law_looked_at" = some (.ref t.a__law_looked_at)
  F__law_looked_at : Fun t.K "_law_looked_at" "_law_looked_at" s__law_looked_at t.a__law_looked_at t.fd__law_looked_at
  b__law_looked_at : Binds t.K t.fd__law_looked_at ["thing"] []
  g__law_bounds_right : t.mg "_law_bounds_right" = some (.ref t.a__law_bounds_right)
  F__law_bounds_right : Fun t.K "_law_bounds_right" "_law_bounds_right" s__law_bounds_right t.a__law_bounds_right t.fd__law_bounds_right
  b__law_bounds_right : Binds t.K t.fd__law_bounds_right ["cells", "spot"] []
  g__law_field : t.mg "_law_field" = some (.ref t.a__law_field)
  F__law_field : Fun t.K "_law_field" "_law_field" s__law_field t.a__law_field t.fd__law_field
  b__law_field : Binds t.K t.fd__law_field ["cells", "spot", "least", "most"] []
  g__law_odd : t.mg "_law_odd" = some (.ref t.a__law_odd)
  F__law_odd : Fun t.K "_law_odd" "_law_odd" s__law_odd t.a__law_odd t.fd__law_odd
  b__law_odd : Binds t.K t.fd__law_odd ["n", "thing"] []
  g__law_spoilt : t.mg "_law_spoilt" = some (.ref t.a__law_spoilt)
  F__law_spoilt : Fun t.K "_law_spoilt" "_law_spoilt" s__law_spoilt t.a__law_spoilt t.fd__law_spoilt
  b__law_spoilt : Binds t.K t.fd__law_spoilt ["cells", "spot", "thing", "deep"] []
  g_law : t.mg "law" = some (.ref t.a_law)
  F_law : Fun t.K "law" "law" s_law t.a_law t.fd_law
  b_law : Binds t.K t.fd_law ["script"] []
  m_LookupError : t.mg "LookupError" = none
  m_RuntimeError : t.mg "RuntimeError" = none
  m_ValueError : t.mg "ValueError" = none
  m_abs : t.mg "abs" = none
  m_bool : t.mg "bool" = none
  m_enumerate : t.mg "enumerate" = none
  m_gcd : t.mg "gcd" = some (.builtin "math.gcd")
  m_int : t.mg "int" = none
  m_isinstance : t.mg "isinstance" = none
  m_len : t.mg "len" = none
  m_list : t.mg "list" = none
  m_max : t.mg "max" = none
  m_min : t.mg "min" = none
  m_range : t.mg "range" = none
  m_repr : t.mg "repr" = none
  m_tuple : t.mg "tuple" = none
  m_type : t.mg "type" = none
  m_zip : t.mg "zip" = none
  g_HollowError : t.mg "HollowError" = some (.ref t.C_HollowError)
  g_BadField : t.mg "BadField" = some (.ref t.C_BadField)
  g_BadFraction : t.mg "BadFraction" = some (.ref t.C_BadFraction)
  g_BadRule : t.mg "BadRule" = some (.ref t.C_BadRule)
  g_BadSpot : t.mg "BadSpot" = some (.ref t.C_BadSpot)
  g_BadTarget : t.mg "BadTarget" = some (.ref t.C_BadTarget)
  g_BadHeights : t.mg "BadHeights" = some (.ref t.C_BadHeights)
  g_BadRow : t.mg "BadRow" = some (.ref t.C_BadRow)
  g_BadPairing : t.mg "BadPairing" = some (.ref t.C_BadPairing)
  g_BadPaper : t.mg "BadPaper" = some (.ref t.C_BadPaper)
  g_BadCoin : t.mg "BadCoin" = some (.ref t.C_BadCoin)
  g_TooGreat : t.mg "TooGreat" = some (.ref t.C_TooGreat)
  g_TooFew : t.mg "TooFew" = some (.ref t.C_TooFew)
  g_BadText : t.mg "BadText" = some (.ref t.C_BadText)
  g_DeedError : t.mg "DeedError" = some (.ref t.C_DeedError)
  g_NoHollow : t.mg "NoHollow" = some (.ref t.C_NoHollow)
  g_NoPeak : t.mg "NoPeak" = some (.ref t.C_NoPeak)
  g_Nought : t.mg "Nought" = some (.ref t.C_Nought)
  g_BookError : t.mg "BookError" = some (.ref t.C_BookError)
  g_Gone : t.mg "Gone" = some (.ref t.C_Gone)
  code__law_looked_at : t.fd__law_looked_at.code = .ref t.c__law_looked_at
  n_MOST_RIM : ∃ tk, t.mg "MOST_RIM" = some (.int (35) tk)
  n_MOST_SIDE : ∃ tk, t.mg "MOST_SIDE" = some (.int (11) tk)
  sup : t.mg "super" = none
  it_BadField : IniTxt P t.K t.C_BadField t.I_BadField "place" "place"
  bd_BadField : ∀ (s : Shared) (e : Addr) (v : Value) (fd : FuncData), t.K.In s.heap → (∃ oc od osl, t.K.lookup t.I_BadField = some ⟨oc, od, .func fd, osl⟩) → BindsTo s fd ⟨[.ref e, v], []⟩ [("self", .ref e), ("place", v)]
  fl_BadField : FldC t.K t.C_BadField "place"
  kc_BadField : PySem.W.keepIn t.K (.ref t.C_BadField) = true
  bc_BadField : PySem.W.subIn t.K (.ref t.C_BadField) (.type "BaseException") = some true
  tc_BadField : PySem.W.typeIn t.K (.ref t.C_BadField) = some (.type "type")
  ec_BadField : L2.ExcC t.K t.C_BadField
  ki_BadField_tuple : PySem.W.kitOne t.K (.ref t.C_BadField) (.type "tuple") = some false
  ki_BadField_int : PySem.W.kitOne t.K (.ref t.C_BadField) (.type "int") = some false
  ki_BadField_bool : PySem.W.kitOne t.K (.ref t.C_BadField) (.type "bool") = some false
  ki_BadField_ValueError : PySem.W.kitOne t.K (.ref t.C_BadField) (.type "ValueError") = some true
  ki_BadField_RuntimeError : PySem.W.kitOne t.K (.ref t.C_BadField) (.type "RuntimeError") = some false
  ki_BadField_HollowError : PySem.W.kitOne t.K (.ref t.C_BadField) (.ref t.C_HollowError) = some true
  ki_BadField_DeedError : PySem.W.kitOne t.K (.ref t.C_BadField) (.ref t.C_DeedError) = some false
  ki_BadField_LookupError : PySem.W.kitOne t.K (.ref t.C_BadField) (.type "LookupError") = some false
  ki_BadField_BookError : PySem.W.kitOne t.K (.ref t.C_BadField) (.ref t.C_BookError) = some false
  ki_BadField_BadField : PySem.W.kitOne t.K (.ref t.C_BadField) (.ref t.C_BadField) = some true
  ki_BadField_BadFraction : PySem.W.kitOne t.K (.ref t.C_BadField) (.ref t.C_BadFraction) = some false
  ki_BadField_BadHeights : PySem.W.kitOne t.K (.ref t.C_BadField) (.ref t.C_BadHeights) = some false
  ki_BadField_TooGreat : PySem.W.kitOne t.K (.ref t.C_BadField) (.ref t.C_TooGreat) = some false
  ki_BadField_BadPairing : PySem.W.kitOne t.K (.ref t.C_BadField) (.ref t.C_BadPairing) = some false
  ki_BadField_BadPaper : PySem.W.kitOne t.K (.ref t.C_BadField) (.ref t.C_BadPaper) = some false
  ki_BadField_BadCoin : PySem.W.kitOne t.K (.ref t.C_BadField) (.ref t.C_BadCoin) = some false
  ki_BadField_TooFew : PySem.W.kitOne t.K (.ref t.C_BadField) (.ref t.C_TooFew) = some false
  ki_BadField_BadText : PySem.W.kitOne t.K (.ref t.C_BadField) (.ref t.C_BadText) = some false
  ki_BadField_BadRule : PySem.W.kitOne t.K (.ref t.C_BadField) (.ref t.C_BadRule) = some false
  ki_BadField_BadSpot : PySem.W.kitOne t.K (.ref t.C_BadField) (.ref t.C_BadSpot) = some false
  ki_BadField_BadTarget : PySem.W.kitOne t.K (.ref t.C_BadField) (.ref t.C_BadTarget) = some false
  ki_BadField_BadRow : PySem.W.kitOne t.K (.ref t.C_BadField) (.ref t.C_BadRow) = some false
  ki_BadField_NoHollow : PySem.W.kitOne t.K (.ref t.C_BadField) (.ref t.C_NoHollow) = some false
  ki_BadField_NoPeak : PySem.W.kitOne t.K (.ref t.C_BadField) (.ref t.C_NoPeak) = some false
  ki_BadField_Nought : PySem.W.kitOne t.K (.ref t.C_BadField) (.ref t.C_Nought) = some false
  ki_BadField_Gone : PySem.W.kitOne t.K (.ref t.C_BadField) (.ref t.C_Gone) = some false
  ex_BadField : PySem.W.exmAny t.K (.ref t.C_BadField) [.ref t.C_HollowError, .ref t.C_DeedError, .ref t.C_BookError] = some true
  ex1_BadField_BadField : PySem.W.exmOne t.K (.ref t.C_BadField) (.ref t.C_BadField) = some true
theorem TxOk.h_cl_HollowError {P : Program} {x : Tx} (_ : TxOk P x) : x.fx.cl "HollowError" = some x.C_HollowError := rfl
theorem TxOk.h_cl_BadField {P : Program} {x : Tx} (_ : TxOk P x) : x.fx.cl "BadField" = some x.C_BadField := rfl
theorem TxOk.h_cl_BadFraction {P : Program} {x : Tx} (_ : TxOk P x) : x.fx.cl "BadFraction" = some x.C_BadFraction := rfl
theorem TxOk.h_cl_BadRule {P : Program} {x : Tx} (_ : TxOk P x) : x.fx.cl "BadRule" = some x.C_BadRule := rfl
theorem TxOk.h_cl_BadSpot {P : Program} {x : Tx} (_ : TxOk P x) : x.fx.cl "BadSpot" = some x.C_BadSpot := rfl
theorem TxOk.h_cl_BadTarget {P : Program} {x : Tx} (_ : TxOk P x) : x.fx.cl "BadTarget" = some x.C_BadTarget := rfl
theorem TxOk.h_cl_BadHeights {P : Program} {x : Tx} (_ : TxOk P x) : x.fx.cl "BadHeights" = some x.C_BadHeights := rfl
theorem TxOk.h_cl_BadRow {P : Program} {x : Tx} (_ : TxOk P x) : x.fx.cl "BadRow" = some x.C_BadRow := rfl
theorem TxOk.h_cl_BadPairing {P : Program} {x : Tx} (_ : TxOk P x) : x.fx.cl "BadPairing" = some x.C_BadPairing := rfl
theorem TxOk.h_cl_BadPaper {P : Program} {x : Tx} (_ : TxOk P x) : x.fx.cl "BadPaper" = some x.C_BadPaper := rfl
theorem TxOk.h_cl_BadCoin {P : Program} {x : Tx} (_ : TxOk P x) : x.fx.cl "BadCoin" = some x.C_BadCoin := rfl
theorem TxOk.h_cl_TooGreat {P : Program} {x : Tx} (_ : TxOk P x) : x.fx.cl "TooGreat" = some x.C_TooGreat := rfl
theorem TxOk.h_cl_TooFew {P : Program} {x : Tx} (_ : TxOk P x) : x.fx.cl "TooFew" = some x.C_TooFew := rfl
theorem TxOk.h_cl_BadText {P : Program} {x : Tx} (_ : TxOk P x) : x.fx.cl "BadText" = some x.C_BadText := rfl
theorem TxOk.h_cl_DeedError {P : Program} {x : Tx} (_ : TxOk P x) : x.fx.cl "DeedError" = some x.C_DeedError := rfl
theorem TxOk.h_cl_NoHollow {P : Program} {x : Tx} (_ : TxOk P x) : x.fx.cl "NoHollow" = some x.C_NoHollow := rfl
theorem TxOk.h_cl_NoPeak {P : Program} {x : Tx} (_ : TxOk P x) : x.fx.cl "NoPeak" = some x.C_NoPeak := rfl
theorem TxOk.h_cl_Nought {P : Program} {x : Tx} (_ : TxOk P x) : x.fx.cl "Nought" = some x.C_Nought := rfl
theorem TxOk.h_cl_BookError {P : Program} {x : Tx} (_ : TxOk P x) : x.fx.cl "BookError" = some x.C_BookError := rfl
theorem TxOk.h_cl_Gone {P : Program} {x : Tx} (_ : TxOk P x) : x.fx.cl "Gone" = some x.C_Gone := rfl
theorem TxOk.cg_BadField {P : Program} {x : Tx} (t : TxOk P x) (X : Cx) (hP : X.prog = P := by rfl) (hK : X.K = x.K := by rfl) (hm : X.mg = x.mg := by rfl) : ClsG X x.C_BadField x.I_BadField "BadField" "place" "place" := ⟨by rw [hP, hK]; exact t.it_BadField, by rw [hm]; exact t.g_BadField, by rw [hK]; exact t.kc_BadField, raises_own (by rw [hK]; exact t.bc_BadField) (by rw [hK]; exact t.tc_BadField), by rw [hm]; exact t.sup, by rw [hK]; exact t.bd_BadField, by decide, by decide⟩
def ok_fld_most : String → Bool
  | _ => false
theorem TxOk.fld_most {P : Program} {x : Tx} (t : TxOk P x) {c : String} {C : Addr} (h1 : ok_fld_most c = true) (h2 : x.fx.cl c = some C) : FldC x.fx.K C "most" := by
  cases h1
def ok_fld_number : String → Bool
  | _ => false
theorem TxOk.fld_number {P : Program} {x : Tx} (t : TxOk P x) {c : String} {C : Addr} (h1 : ok_fld_number c = true) (h2 : x.fx.cl c = some C) : FldC x.fx.K C "number" := by
  cases h1
def ok_fld_place : String → Bool
  | "BadField" => true
  | _ => false
theorem TxOk.fld_place {P : Program} {x : Tx} (t : TxOk P x) {c : String} {C : Addr} (h1 : ok_fld_place c = true) (h2 : x.fx.cl c = some C) : FldC x.fx.K C "place" := by
  unfold ok_fld_place at h1
  split at h1
  · obtain rfl := Option.some.inj h2
    exact t.fl_BadField
  · cases h1
def ok_fld_spot : String → Bool
  | _ => false
theorem TxOk.fld_spot {P : Program} {x : Tx} (t : TxOk P x) {c : String} {C : Addr} (h1 : ok_fld_spot c = true) (h2 : x.fx.cl c = some C) : FldC x.fx.K C "spot" := by
  cases h1
def catT : String → Bool
  | "BadField" => true
  | _ => false
def subT : String → D → Option Bool
  | "BadField", .ty "tuple" => some false
  | "BadField", .ty "int" => some false
  | "BadField", .ty "bool" => some false
  | "BadField", .ty "ValueError" => some true
  | "BadField", .ty "RuntimeError" => some false
  | "BadField", .cls "HollowError" => some true
  | "BadField", .cls "DeedError" => some false
  | "BadField", .ty "LookupError" => some false
  | "BadField", .cls "BookError" => some false
  | "BadField", .cls "BadField" => some true
  | "BadField", .cls "BadFraction" => some false
  | "BadField", .cls "BadHeights" => some false
  | "BadField", .cls "TooGreat" => some false
  | "BadField", .cls "BadPairing" => some false
  | "BadField", .cls "BadPaper" => some false
  | "BadField", .cls "BadCoin" => some false
  | "BadField", .cls "TooFew" => some false
  | "BadField", .cls "BadText" => some false
  | "BadField", .cls "BadRule" => some false
  | "BadField", .cls "BadSpot" => some false
  | "BadField", .cls "BadTarget" => some false
  | "BadField", .cls "BadRow" => some false
  | "BadField", .cls "NoHollow" => some false
  | "BadField", .cls "NoPeak" => some false
  | "BadField", .cls "Nought" => some false
  | "BadField", .cls "Gone" => some false
  | _, _ => none
structure Tb (x : Tx) (base : Heap) : Prop where
  b__law_looked_at : LamX.TabB base x.mg x.c__law_looked_at x.P__law_looked_at
theorem TxOk.inT__law_looked_at {P : Program} {x : Tx} (t : TxOk P x) : (x.P__law_looked_at, ("_law_looked_at" ++ ".<locals>." ++ "<lambda>" : Str)) ∈ x.fx.T := by simp [Tx.fx]
theorem TxOk.uniq__law_looked_at {P : Program} {x : Tx} (t : TxOk P x) : ∀ y ∈ x.fx.T, y.1 = x.P__law_looked_at → y.2 = ("_law_looked_at" ++ ".<locals>." ++ "<lambda>" : Str) := by
  intro y hy e
  simp only [Tx.fx, List.mem_cons, or_false, List.not_mem_nil] at hy
  rcases hy with rfl
  · rfl
def catT_BadField : String → Bool
  | "BadField" => true
  | _ => false
def Tx.cv_BadField (x : Tx) (u : Value) : Bool := decide (PySem.W.exmOne x.K u (.ref x.C_BadField) = some true)
theorem TxOk.hcat_BadField {P : Program} {x : Tx} (t : TxOk P x) : ∀ c C, x.fx.cl c = some C → catT_BadField c = true → x.cv_BadField (.ref C) = true := by
  intro c C h1 h2
  unfold catT_BadField at h2
  split at h2
  · obtain rfl := Option.some.inj h1
    exact decide_eq_true t.ex1_BadField_BadField
  · cases h2
def Tx.cv (x : Tx) (u : Value) : Bool := decide (PySem.W.exmAny x.K u [.ref x.C_HollowError, .ref x.C_DeedError, .ref x.C_BookError] = some true)
theorem TxOk.hcat {P : Program} {x : Tx} (t : TxOk P x) : ∀ c C, x.fx.cl c = some C → catT c = true → x.cv (.ref C) = true := by
  intro c C h1 h2
  unfold catT at h2
  split at h2
  · obtain rfl := Option.some.inj h1
    exact decide_eq_true t.ex_BadField
  · cases h2
theorem TxOk.h_sub {P : Program} {x : Tx} (t : TxOk P x) : ∀ (c : String) (d : D) (b : Bool) (C : Addr) (u : Value), x.fx.cl c = some C → clsU x.fx d = some u → subT c d = some b → L2.ExcC x.fx.K C ∧ PySem.W.kitOne x.fx.K (.ref C) u = some b := by
  intro c d b C u h1 h2 h3
  unfold subT at h3
  split at h3
  · obtain rfl := Option.some.inj h1
    obtain rfl := Option.some.inj h2
    obtain rfl := Option.some.inj h3
    exact ⟨t.ec_BadField, t.ki_BadField_tuple⟩
  · obtain rfl := Option.some.inj h1
    obtain rfl := Option.some.inj h2
    obtain rfl := Option.some.inj h3
    exact ⟨t.ec_BadField, t.ki_BadField_int⟩
  · obtain rfl := Option.some.inj h1
    obtain rfl := Option.some.inj h2
    obtain rfl := Option.some.inj h3
    exact ⟨t.ec_BadField, t.ki_BadField_bool⟩
  · obtain rfl := Option.some.inj h1
    obtain rfl := Option.some.inj h2
    obtain rfl := Option.some.inj h3
    exact ⟨t.ec_BadField, t.ki_BadField_ValueError⟩
  · obtain rfl := Option.some.inj h1
    obtain rfl := Option.some.inj h2
    obtain rfl := Option.some.inj h3
    exact ⟨t.ec_BadField, t.ki_BadField_RuntimeError⟩
  · obtain rfl := Option.some.inj h1
    obtain rfl := Option.some.inj h2
    obtain rfl := Option.some.inj h3
    exact ⟨t.ec_BadField, t.ki_BadField_HollowError⟩
  · obtain rfl := Option.some.inj h1
    obtain rfl := Option.some.inj h2
    obtain rfl := Option.some.inj h3
    exact ⟨t.ec_BadField, t.ki_BadField_DeedError⟩
  · obtain rfl := Option.some.inj h1
    obtain rfl := Option.some.inj h2
    obtain rfl := Option.some.inj h3
    exact ⟨t.ec_BadField, t.ki_BadField_LookupError⟩
  · obtain rfl := Option.some.inj h1
    obtain rfl := Option.some.inj h2
    obtain rfl := Option.some.inj h3
    exact ⟨t.ec_BadField, t.ki_BadField_BookError⟩
  · obtain rfl := Option.some.inj h1
    obtain rfl := Option.some.inj h2
    obtain rfl := Option.some.inj h3
    exact ⟨t.ec_BadField, t.ki_BadField_BadField⟩
  · obtain rfl := Option.some.inj h1
    obtain rfl := Option.some.inj h2
    obtain rfl := Option.some.inj h3
    exact ⟨t.ec_BadField, t.ki_BadField_BadFraction⟩
  · obtain rfl := Option.some.inj h1
    obtain rfl := Option.some.inj h2
    obtain rfl := Option.some.inj h3
    exact ⟨t.ec_BadField, t.ki_BadField_BadHeights⟩
  · obtain rfl := Option.some.inj h1
    obtain rfl := Option.some.inj h2
    obtain rfl := Option.some.inj h3
    exact ⟨t.ec_BadField, t.ki_BadField_TooGreat⟩
  · obtain rfl := Option.some.inj h1
    obtain rfl := Option.some.inj h2
    obtain rfl := Option.some.inj h3
    exact ⟨t.ec_BadField, t.ki_BadField_BadPairing⟩
  · obtain rfl := Option.some.inj h1
    obtain rfl := Option.some.inj h2
    obtain rfl := Option.some.inj h3
    exact ⟨t.ec_BadField, t.ki_BadField_BadPaper⟩
  · obtain rfl := Option.some.inj h1
    obtain rfl := Option.some.inj h2
    obtain rfl := Option.some.inj h3
    exact ⟨t.ec_BadField, t.ki_BadField_BadCoin⟩
  · obtain rfl := Option.some.inj h1
    obtain rfl := Option.some.inj h2
    obtain rfl := Option.some.inj h3
    exact ⟨t.ec_BadField, t.ki_BadField_TooFew⟩
  · obtain rfl := Option.some.inj h1
    obtain rfl := Option.some.inj h2
    obtain rfl := Option.some.inj h3
    exact ⟨t.ec_BadField, t.ki_BadField_BadText⟩
  · obtain rfl := Option.some.inj h1
    obtain rfl := Option.some.inj h2
    obtain rfl := Option.some.inj h3
    exact ⟨t.ec_BadField, t.ki_BadField_BadRule⟩
  · obtain rfl := Option.some.inj h1
    obtain rfl := Option.some.inj h2
    obtain rfl := Option.some.inj h3
    exact ⟨t.ec_BadField, t.ki_BadField_BadSpot⟩
  · obtain rfl := Option.some.inj h1
    obtain rfl := Option.some.inj h2
    obtain rfl := Option.some.inj h3
    exact ⟨t.ec_BadField, t.ki_BadField_BadTarget⟩
  · obtain rfl := Option.some.inj h1
    obtain rfl := Option.some.inj h2
    obtain rfl := Option.some.inj h3
    exact ⟨t.ec_BadField, t.ki_BadField_BadRow⟩
  · obtain rfl := Option.some.inj h1
    obtain rfl := Option.some.inj h2
    obtain rfl := Option.some.inj h3
    exact ⟨t.ec_BadField, t.ki_BadField_NoHollow⟩
  · obtain rfl := Option.some.inj h1
    obtain rfl := Option.some.inj h2
    obtain rfl := Option.some.inj h3
    exact ⟨t.ec_BadField, t.ki_BadField_NoPeak⟩
  · obtain rfl := Option.some.inj h1
    obtain rfl := Option.some.inj h2
    obtain rfl := Option.some.inj h3
    exact ⟨t.ec_BadField, t.ki_BadField_Nought⟩
  · obtain rfl := Option.some.inj h1
    obtain rfl := Option.some.inj h2
    obtain rfl := Option.some.inj h3
    exact ⟨t.ec_BadField, t.ki_BadField_Gone⟩
  · cases h3
theorem TxOk.sub_cls {P : Program} {x : Tx} (t : TxOk P x) : ∀ (c : String) (d : D) (b : Bool), subT c d = some b → ∃ u, clsU x.fx d = some u := by
  intro c d b h3
  unfold subT at h3
  split at h3
  · exact ⟨_, rfl⟩
  · exact ⟨_, rfl⟩
  · exact ⟨_, rfl⟩
  · exact ⟨_, rfl⟩
  · exact ⟨_, rfl⟩
  · exact ⟨_, rfl⟩
  · exact ⟨_, rfl⟩
  · exact ⟨_, rfl⟩
  · exact ⟨_, rfl⟩
  · exact ⟨_, rfl⟩
  · exact ⟨_, rfl⟩
  · exact ⟨_, rfl⟩
  · exact ⟨_, rfl⟩
  · exact ⟨_, rfl⟩
  · exact ⟨_, rfl⟩
  · exact ⟨_, rfl⟩
  · exact ⟨_, rfl⟩
  · exact ⟨_, rfl⟩
  · exact ⟨_, rfl⟩
  · exact ⟨_, rfl⟩
  · exact ⟨_, rfl⟩
  · exact ⟨_, rfl⟩
  · exact ⟨_, rfl⟩
  · exact ⟨_, rfl⟩
  · exact ⟨_, rfl⟩
  · exact ⟨_, rfl⟩
  · cases h3
end K02
namespace K02
open PySem L2 DL PyProof.Rows
def clsBody : Stmt → (List Stmt)
  | .ClassDef _ _ _ b _ _ _ _ _ _ _ => b
  | _ => []
def methS (i j : Nat) : Stmt := (clsBody (topS i)).getD j (.Pass ⟨0, 0, 0, 0⟩)
def fz0 : List (PySem.W.Frag → Bool) := [gloZ "_law_cell", defZ "_law_cell", gloZ "_law_heights", defZ "_law_heights", gloZ "_law_low", defZ "_law_low", gloZ "_law_worths", defZ "_law_worths", gloZ "_law_sides", defZ "_law_sides", gloZ "_law_are_steps", defZ "_law_are_steps", gloZ "_law_whole", defZ "_law_whole", gloZ "_law_are_numbers", defZ "_law_are_numbers", gloZ "_law_are_worths", defZ "_law_are_worths", gloZ "_law_fault", defZ "_law_fault", gloZ "is_rim_low", defZ "is_rim_low", gloZ "are_height_rows", defZ "are_height_rows"]
def fz1 : List (PySem.W.Frag → Bool) := [gloZ "_wrong_or_steps", defZ "_wrong_or_steps", gloZ "is_side_long", defZ "is_side_long", gloZ "are_steps_beside", defZ "are_steps_beside", gloZ "wrong_with_heights", defZ "wrong_with_heights", gloZ "is_tuple_of", defZ "is_tuple_of", gloZ "are_worth_rows", defZ "are_worth_rows", gloZ "sides", defZ "sides", gloZ "need_field", defZ "need_field", gloZ "is_field", defZ "is_field", gloZ "_law_asked", defZ "_law_asked", gloZ "_law_looked_at", defZ "_law_looked_at", gloZ "_law_bounds_right", defZ "_law_bounds_right"]
def fz2 : List (PySem.W.Frag → Bool) := [gloZ "_law_field", defZ "_law_field", gloZ "_law_odd", defZ "_law_odd", gloZ "_law_spoilt", defZ "_law_spoilt", gloZ "law", defZ "law", freeZ "LookupError", freeZ "RuntimeError", freeZ "ValueError", freeZ "abs", freeZ "bool", freeZ "enumerate", bltZ "gcd" "math.gcd", freeZ "int", freeZ "isinstance", freeZ "len", freeZ "list", freeZ "max", freeZ "min", freeZ "range", freeZ "repr", freeZ "tuple"]
def fz3 : List (PySem.W.Frag → Bool) := [freeZ "type", freeZ "zip", gloZ "HollowError", gloZ "BadField", gloZ "BadFraction", gloZ "BadRule", gloZ "BadSpot", gloZ "BadTarget", gloZ "BadHeights", gloZ "BadRow", gloZ "BadPairing", gloZ "BadPaper", gloZ "BadCoin", gloZ "TooGreat", gloZ "TooFew", gloZ "BadText", gloZ "DeedError", gloZ "NoHollow", gloZ "NoPeak", gloZ "Nought", gloZ "BookError", gloZ "Gone", intZ "MOST_RIM" (35), intZ "MOST_SIDE" (11)]
def fz4 : List (PySem.W.Frag → Bool) := [freeZ "super", codZ "_law_looked_at", iniZ "BadField" "place" "ValueError" "ValueError.__new__" "ValueError.__init__" [.type "ValueError", .type "Exception", .type "BaseException", .type "object"] "/claim/cut.py" "BadField.__init__" true, excZ "BadField", kitZ "BadField" (fun _ => .type "tuple") false, kitZ "BadField" (fun _ => .type "int") false, kitZ "BadField" (fun _ => .type "bool") false, kitZ "BadField" (fun _ => .type "ValueError") true, kitZ "BadField" (fun _ => .type "RuntimeError") false, kitZ "BadField" (fun K => .ref (He.ga K "HollowError")) true, kitZ "BadField" (fun K => .ref (He.ga K "DeedError")) false, kitZ "BadField" (fun _ => .type "LookupError") false, kitZ "BadField" (fun K => .ref (He.ga K "BookError")) false, kitZ "BadField" (fun K => .ref (He.ga K "BadField")) true, kitZ "BadField" (fun K => .ref (He.ga K "BadFraction")) false, kitZ "BadField" (fun K => .ref (He.ga K "BadHeights")) false, kitZ "BadField" (fun K => .ref (He.ga K "TooGreat")) false, kitZ "BadField" (fun K => .ref (He.ga K "BadPairing")) false, kitZ "BadField" (fun K => .ref (He.ga K "BadPaper")) false, kitZ "BadField" (fun K => .ref (He.ga K "BadCoin")) false, kitZ "BadField" (fun K => .ref (He.ga K "TooFew")) false, kitZ "BadField" (fun K => .ref (He.ga K "BadText")) false, kitZ "BadField" (fun K => .ref (He.ga K "BadRule")) false, kitZ "BadField" (fun K => .ref (He.ga K "BadSpot")) false]
def fz5 : List (PySem.W.Frag → Bool) := [kitZ "BadField" (fun K => .ref (He.ga K "BadTarget")) false, kitZ "BadField" (fun K => .ref (He.ga K "BadRow")) false, kitZ "BadField" (fun K => .ref (He.ga K "NoHollow")) false, kitZ "BadField" (fun K => .ref (He.ga K "NoPeak")) false, kitZ "BadField" (fun K => .ref (He.ga K "Nought")) false, kitZ "BadField" (fun K => .ref (He.ga K "Gone")) false, exmOZ "BadField" "BadField", exmAZ "BadField" ["HollowError", "DeedError", "BookError"]]
def fz : FzL := [fz0, fz1, fz2, fz3, fz4, fz5]
def mz0 : MzL := [fun K => fnM K (He.ga K "_law_cell"), fun K => fnM K (He.ga K "_law_heights"), fun K => fnM K (He.ga K "_law_low"), fun K => fnM K (He.ga K "_law_worths"), fun K => fnM K (He.ga K "_law_sides"), fun K => fnM K (He.ga K "_law_are_steps"), fun K => fnM K (He.ga K "_law_whole"), fun K => fnM K (He.ga K "_law_are_numbers"), fun K => fnM K (He.ga K "_law_are_worths"), fun K => fnM K (He.ga K "_law_fault"), fun K => fnM K (He.ga K "is_rim_low"), fun K => fnM K (He.ga K "are_height_rows"), fun K => fnM K (He.ga K "_wrong_or_steps"), fun K => fnM K (He.ga K "is_side_long"), fun K => fnM K (He.ga K "are_steps_beside"), fun K => fnM K (He.ga K "wrong_with_heights"), fun K => fnM K (He.ga K "is_tuple_of"), fun K => fnM K (He.ga K "are_worth_rows"), fun K => fnM K (He.ga K "sides"), fun K => fnM K (He.ga K "need_field"), fun K => fnM K (He.ga K "is_field"), fun K => fnM K (He.ga K "_law_asked"), fun K => fnM K (He.ga K "_law_looked_at"), fun K => fnM K (He.ga K "_law_bounds_right")]
def vz0 : List FnM := [some ("_law_cell", "_law_cell", defArgs s__law_cell, .stmts (defBody s__law_cell), defScope s__law_cell, mainGlobals, [], builtinsNs), some ("_law_heights", "_law_heights", defArgs s__law_heights, .stmts (defBody s__law_heights), defScope s__law_heights, mainGlobals, [], builtinsNs), some ("_law_low", "_law_low", defArgs s__law_low, .stmts (defBody s__law_low), defScope s__law_low, mainGlobals, [], builtinsNs), some ("_law_worths", "_law_worths", defArgs s__law_worths, .stmts (defBody s__law_worths), defScope s__law_worths, mainGlobals, [], builtinsNs), some ("_law_sides", "_law_sides", defArgs s__law_sides, .stmts (defBody s__law_sides), defScope s__law_sides, mainGlobals, [], builtinsNs), some ("_law_are_steps", "_law_are_steps", defArgs s__law_are_steps, .stmts (defBody s__law_are_steps), defScope s__law_are_steps, mainGlobals, [], builtinsNs), some ("_law_whole", "_law_whole", defArgs s__law_whole, .stmts (defBody s__law_whole), defScope s__law_whole, mainGlobals, [], builtinsNs), some ("_law_are_numbers", "_law_are_numbers", defArgs s__law_are_numbers, .stmts (defBody s__law_are_numbers), defScope s__law_are_numbers, mainGlobals, [], builtinsNs), some ("_law_are_worths", "_law_are_worths", defArgs s__law_are_worths, .stmts (defBody s__law_are_worths), defScope s__law_are_worths, mainGlobals, [], builtinsNs), some ("_law_fault", "_law_fault", defArgs s__law_fault, .stmts (defBody s__law_fault), defScope s__law_fault, mainGlobals, [], builtinsNs), some ("is_rim_low", "is_rim_low", defArgs s_is_rim_low, .stmts (defBody s_is_rim_low), defScope s_is_rim_low, mainGlobals, [], builtinsNs), some ("are_height_rows", "are_height_rows", defArgs s_are_height_rows, .stmts (defBody s_are_height_rows), defScope s_are_height_rows, mainGlobals, [], builtinsNs), some ("_wrong_or_steps", "_wrong_or_steps", defArgs s__wrong_or_steps, .stmts (defBody s__wrong_or_steps), defScope s__wrong_or_steps, mainGlobals, [], builtinsNs), some ("is_side_long", "is_side_long", defArgs s_is_side_long, .stmts (defBody s_is_side_long), defScope s_is_side_long, mainGlobals, [], builtinsNs), some ("are_steps_beside", "are_steps_beside", defArgs s_are_steps_beside, .stmts (defBody s_are_steps_beside), defScope s_are_steps_beside, mainGlobals, [], builtinsNs), some ("wrong_with_heights", "wrong_with_heights", defArgs s_wrong_with_heights, .stmts (defBody s_wrong_with_heights), defScope s_wrong_with_heights, mainGlobals, [], builtinsNs), some ("is_tuple_of", "is_tuple_of", defArgs s_is_tuple_of, .stmts (defBody s_is_tuple_of), defScope s_is_tuple_of, mainGlobals, [], builtinsNs), some ("are_worth_rows", "are_worth_rows", defArgs s_are_worth_rows, .stmts (defBody s_are_worth_rows), defScope s_are_worth_rows, mainGlobals, [], builtinsNs), some ("sides", "sides", defArgs s_sides, .stmts (defBody s_sides), defScope s_sides, mainGlobals, [], builtinsNs), some ("need_field", "need_field", defArgs s_need_field, .stmts (defBody s_need_field), defScope s_need_field, mainGlobals, [], builtinsNs), some ("is_field", "is_field", defArgs s_is_field, .stmts (defBody s_is_field), defScope s_is_field, mainGlobals, [], builtinsNs), some ("_law_asked", "_law_asked", defArgs s__law_asked, .stmts (defBody s__law_asked), defScope s__law_asked, mainGlobals, [], builtinsNs), some ("_law_looked_at", "_law_looked_at", defArgs s__law_looked_at, .stmts (defBody s__law_looked_at), defScope s__law_looked_at, mainGlobals, [], builtinsNs), some ("_law_bounds_right", "_law_bounds_right", defArgs s__law_bounds_right, .stmts (defBody s__law_bounds_right), defScope s__law_bounds_right, mainGlobals, [], builtinsNs)]
def mz1 : MzL := [fun K => fnM K (He.ga K "_law_field"), fun K => fnM K (He.ga K "_law_odd"), fun K => fnM K (He.ga K "_law_spoilt"), fun K => fnM K (He.ga K "law"), fun K => fnM K (iA K "BadField")]
def vz1 : List FnM := [some ("_law_field", "_law_field", defArgs s__law_field, .stmts (defBody s__law_field), defScope s__law_field, mainGlobals, [], builtinsNs), some ("_law_odd", "_law_odd", defArgs s__law_odd, .stmts (defBody s__law_odd), defScope s__law_odd, mainGlobals, [], builtinsNs), some ("_law_spoilt", "_law_spoilt", defArgs s__law_spoilt, .stmts (defBody s__law_spoilt), defScope s__law_spoilt, mainGlobals, [], builtinsNs), some ("law", "law", defArgs s_law, .stmts (defBody s_law), defScope s_law, mainGlobals, [], builtinsNs), some ("__init__", "BadField.__init__", defArgs (methS 3 0), .stmts (defBody (methS 3 0)), iniS "place", mainGlobals, ["__class__"], builtinsNs)]
def mz : MzL := mz0 ++ (mz1)
def vz : List FnM := vz0 ++ (vz1)
noncomputable def txOf (K : PySem.W.Frag) (mg : Str → Option Value) : Tx := { K := K, mg := mg, a__law_cell := He.ga K "_law_cell", fd__law_cell := fdOf K (He.ga K "_law_cell"), a__law_heights := He.ga K "_law_heights", fd__law_heights := fdOf K (He.ga K "_law_heights"), a__law_low := He.ga K "_law_low", fd__law_low := fdOf K (He.ga K "_law_low"), a__law_worths := He.ga K "_law_worths", fd__law_worths := fdOf K (He.ga K "_law_worths"), a__law_sides := He.ga K "_law_sides", fd__law_sides := fdOf K (He.ga K "_law_sides"), a__law_are_steps := He.ga K "_law_are_steps", fd__law_are_steps := fdOf K (He.ga K "_law_are_steps"), a__law_whole := He.ga K "_law_whole", fd__law_whole := fdOf K (He.ga K "_law_whole"), a__law_are_numbers := He.ga K "_law_are_numbers", fd__law_are_numbers := fdOf K (He.ga K "_law_are_numbers"), a__law_are_worths := He.ga K "_law_are_worths", fd__law_are_worths := fdOf K (He.ga K "_law_are_worths"), a__law_fault := He.ga K "_law_fault", fd__law_fault := fdOf K (He.ga K "_law_fault"), a_is_rim_low := He.ga K "is_rim_low", fd_is_rim_low := fdOf K (He.ga K "is_rim_low"), a_are_height_rows := He.ga K "are_height_rows", fd_are_height_rows := fdOf K (He.ga K "are_height_rows"), a__wrong_or_steps := He.ga K "_wrong_or_steps", fd__wrong_or_steps := fdOf K (He.ga K "_wrong_or_steps"), a_is_side_long := He.ga K "is_side_long", fd_is_side_long := fdOf K (He.ga K "is_side_long"), a_are_steps_beside := He.ga K "are_steps_beside", fd_are_steps_beside := fdOf K (He.ga K "are_steps_beside"), a_wrong_with_heights := He.ga K "wrong_with_heights", fd_wrong_with_heights := fdOf K (He.ga K "wrong_with_heights"), a_is_tuple_of := He.ga K "is_tuple_of", fd_is_tuple_of := fdOf K (He.ga K "is_tuple_of"), a_are_worth_rows := He.ga K "are_worth_rows", fd_are_worth_rows := fdOf K (He.ga K "are_worth_rows"), a_sides := He.ga K "sides", fd_sides := fdOf K (He.ga K "sides"), a_need_field := He.ga K "need_field", fd_need_field := fdOf K (He.ga K "need_field"), a_is_field := He.ga K "is_field", fd_is_field := fdOf K (He.ga K "is_field"), a__law_asked := He.ga K "_law_asked", fd__law_asked := fdOf K (He.ga K "_law_asked"), a__law_looked_at := He.ga K "_law_looked_at", fd__law_looked_at := fdOf K (He.ga K "_law_looked_at"), a__law_bounds_right := He.ga K "_law_bounds_right", fd__law_bounds_right := fdOf K (He.ga K "_law_bounds_right"), a__law_field := He.ga K "_law_field", fd__law_field := fdOf K (He.ga K "_law_field"), a__law_odd := He.ga K "_law_odd", fd__law_odd := fdOf K (He.ga K "_law_odd"), a__law_spoilt := He.ga K "_law_spoilt", fd__law_spoilt := fdOf K (He.ga K "_law_spoilt"), a_law := He.ga K "law", fd_law := fdOf K (He.ga K "law"), C_HollowError := He.ga K "HollowError", C_BadField := He.ga K "BadField", C_BadFraction := He.ga K "BadFraction", C_BadRule := He.ga K "BadRule", C_BadSpot := He.ga K "BadSpot", C_BadTarget := He.ga K "BadTarget", C_BadHeights := He.ga K "BadHeights", C_BadRow := He.ga K "BadRow", C_BadPairing := He.ga K "BadPairing", C_BadPaper := He.ga K "BadPaper", C_BadCoin := He.ga K "BadCoin", C_TooGreat := He.ga K "TooGreat", C_TooFew := He.ga K "TooFew", C_BadText := He.ga K "BadText", C_DeedError := He.ga K "DeedError", C_NoHollow := He.ga K "NoHollow", C_NoPeak := He.ga K "NoPeak", C_Nought := He.ga K "Nought", C_BookError := He.ga K "BookError", C_Gone := He.ga K "Gone", I_BadField := iA K "BadField", I_BadRow := default, I_BadPairing := default, I_BadPaper := default, I_BadCoin := default, I_TooGreat := default, I_TooFew := default, I_BadText := default, I_NoHollow := default, I_NoPeak := default, I_Nought := default, c__law_looked_at := cOf K "_law_looked_at", P__law_looked_at := tOf K "_law_looked_at" }
section
variable {P : Program} {K : PySem.W.Frag} {h : Heap} {mg : Str → Option Value} (hP : ((P.main.file : Str) == ("/claim/cut.py" : Str)) = true) (hS : (P.main.scope.names.lookup ("super" : Str)).isSome = false) (X : K.In h) (G : h.Ns mainGlobals mg) (c : SaysZ fz mz vz K)
include c
theorem F__law_cell : Fun K "_law_cell" "_law_cell" s__law_cell (He.ga K "_law_cell") (fdOf K (He.ga K "_law_cell")) := fun_z (c.fn 0) (c.fact 0 1)
theorem b__law_cell : Binds K (fdOf K (He.ga K "_law_cell")) ["cells", "spot"] [] := (F__law_cell c).binds fun _ _ _ _ _ _ us hl => match us, hl with | [_, _], _ => rfl
theorem F__law_heights : Fun K "_law_heights" "_law_heights" s__law_heights (He.ga K "_law_heights") (fdOf K (He.ga K "_law_heights")) := fun_z (c.fn 1) (c.fact 0 3)
theorem b__law_heights : Binds K (fdOf K (He.ga K "_law_heights")) ["cells", "spot", "wide", "high", "base"] [] := (F__law_heights c).binds fun _ _ _ _ _ _ us hl => match us, hl with | [_, _, _, _, _], _ => rfl
theorem F__law_low : Fun K "_law_low" "_law_low" s__law_low (He.ga K "_law_low") (fdOf K (He.ga K "_law_low")) := fun_z (c.fn 2) (c.fact 0 5)
theorem b__law_low : Binds K (fdOf K (He.ga K "_law_low")) ["above", "below"] [] := (F__law_low c).binds fun _ _ _ _ _ _ us hl => match us, hl with | [_, _], _ => rfl
theorem F__law_worths : Fun K "_law_worths" "_law_worths" s__law_worths (He.ga K "_law_worths") (fdOf K (He.ga K "_law_worths")) := fun_z (c.fn 3) (c.fact 0 7)
theorem b__law_worths : Binds K (fdOf K (He.ga K "_law_worths")) ["cells", "spot", "wide", "high", "sort"] [] := (F__law_worths c).binds fun _ _ _ _ _ _ us hl => match us, hl with | [_, _, _, _, _], _ => rfl
theorem F__law_sides : Fun K "_law_sides" "_law_sides" s__law_sides (He.ga K "_law_sides") (fdOf K (He.ga K "_law_sides")) := fun_z (c.fn 4) (c.fact 0 9)
theorem b__law_sides : Binds K (fdOf K (He.ga K "_law_sides")) ["thing"] [] := (F__law_sides c).binds fun _ _ _ _ _ _ us hl => match us, hl with | [_], _ => rfl
theorem F__law_are_steps : Fun K "_law_are_steps" "_law_are_steps" s__law_are_steps (He.ga K "_law_are_steps") (fdOf K (He.ga K "_law_are_steps")) := fun_z (c.fn 5) (c.fact 0 11)
theorem b__law_are_steps : Binds K (fdOf K (He.ga K "_law_are_steps")) ["rows"] [] := (F__law_are_steps c).binds fun _ _ _ _ _ _ us hl => match us, hl with | [_], _ => rfl
theorem F__law_whole : Fun K "_law_whole" "_law_whole" s__law_whole (He.ga K "_law_whole") (fdOf K (He.ga K "_law_whole")) := fun_z (c.fn 6) (c.fact 0 13)
theorem b__law_whole : Binds K (fdOf K (He.ga K "_law_whole")) ["thing"] [] := (F__law_whole c).binds fun _ _ _ _ _ _ us hl => match us, hl with | [_], _ => rfl
theorem F__law_are_numbers : Fun K "_law_are_numbers" "_law_are_numbers" s__law_are_numbers (He.ga K "_law_are_numbers") (fdOf K (He.ga K "_law_are_numbers")) := fun_z (c.fn 7) (c.fact 0 15)
theorem b__law_are_numbers : Binds K (fdOf K (He.ga K "_law_are_numbers")) ["rows", "sides_v"] [] := (F__law_are_numbers c).binds fun _ _ _ _ _ _ us hl => match us, hl with | [_, _], _ => rfl
theorem F__law_are_worths : Fun K "_law_are_worths" "_law_are_worths" s__law_are_worths (He.ga K "_law_are_worths") (fdOf K (He.ga K "_law_are_worths")) := fun_z (c.fn 8) (c.fact 0 17)
theorem b__law_are_worths : Binds K (fdOf K (He.ga K "_law_are_worths")) ["rows"] [] := (F__law_are_worths c).binds fun _ _ _ _ _ _ us hl => match us, hl with | [_], _ => rfl
theorem F__law_fault : Fun K "_law_fault" "_law_fault" s__law_fault (He.ga K "_law_fault") (fdOf K (He.ga K "_law_fault")) := fun_z (c.fn 9) (c.fact 0 19)
theorem b__law_fault : Binds K (fdOf K (He.ga K "_law_fault")) ["thing"] [] := (F__law_fault c).binds fun _ _ _ _ _ _ us hl => match us, hl with | [_], _ => rfl
theorem F_is_rim_low : Fun K "is_rim_low" "is_rim_low" s_is_rim_low (He.ga K "is_rim_low") (fdOf K (He.ga K "is_rim_low")) := fun_z (c.fn 10) (c.fact 0 21)
theorem b_is_rim_low : Binds K (fdOf K (He.ga K "is_rim_low")) ["rows"] [] := (F_is_rim_low c).binds fun _ _ _ _ _ _ us hl => match us, hl with | [_], _ => rfl
theorem F_are_height_rows : Fun K "are_height_rows" "are_height_rows" s_are_height_rows (He.ga K "are_height_rows") (fdOf K (He.ga K "are_height_rows")) := fun_z (c.fn 11) (c.fact 0 23)
theorem b_are_height_rows : Binds K (fdOf K (He.ga K "are_height_rows")) ["thing"] [] := (F_are_height_rows c).binds fun _ _ _ _ _ _ us hl => match us, hl with | [_], _ => rfl
theorem F__wrong_or_steps : Fun K "_wrong_or_steps" "_wrong_or_steps" s__wrong_or_steps (He.ga K "_wrong_or_steps") (fdOf K (He.ga K "_wrong_or_steps")) := fun_z (c.fn 12) (c.fact 1 1)
theorem b__wrong_or_steps : Binds K (fdOf K (He.ga K "_wrong_or_steps")) ["thing"] [] := (F__wrong_or_steps c).binds fun _ _ _ _ _ _ us hl => match us, hl with | [_], _ => rfl
theorem F_is_side_long : Fun K "is_side_long" "is_side_long" s_is_side_long (He.ga K "is_side_long") (fdOf K (He.ga K "is_side_long")) := fun_z (c.fn 13) (c.fact 1 3)
theorem b_is_side_long : Binds K (fdOf K (He.ga K "is_side_long")) ["thing"] [] := (F_is_side_long c).binds fun _ _ _ _ _ _ us hl => match us, hl with | [_], _ => rfl
theorem F_are_steps_beside : Fun K "are_steps_beside" "are_steps_beside" s_are_steps_beside (He.ga K "are_steps_beside") (fdOf K (He.ga K "are_steps_beside")) := fun_z (c.fn 14) (c.fact 1 5)
theorem b_are_steps_beside : Binds K (fdOf K (He.ga K "are_steps_beside")) ["row"] [] := (F_are_steps_beside c).binds fun _ _ _ _ _ _ us hl => match us, hl with | [_], _ => rfl
theorem F_wrong_with_heights : Fun K "wrong_with_heights" "wrong_with_heights" s_wrong_with_heights (He.ga K "wrong_with_heights") (fdOf K (He.ga K "wrong_with_heights")) := fun_z (c.fn 15) (c.fact 1 7)
theorem b_wrong_with_heights : Binds K (fdOf K (He.ga K "wrong_with_heights")) ["thing"] [] := (F_wrong_with_heights c).binds fun _ _ _ _ _ _ us hl => match us, hl with | [_], _ => rfl
theorem F_is_tuple_of : Fun K "is_tuple_of" "is_tuple_of" s_is_tuple_of (He.ga K "is_tuple_of") (fdOf K (He.ga K "is_tuple_of")) := fun_z (c.fn 16) (c.fact 1 9)
theorem b_is_tuple_of : Binds K (fdOf K (He.ga K "is_tuple_of")) ["thing", "many"] [] := (F_is_tuple_of c).binds fun _ _ _ _ _ _ us hl => match us, hl with | [_, _], _ => rfl
theorem F_are_worth_rows : Fun K "are_worth_rows" "are_worth_rows" s_are_worth_rows (He.ga K "are_worth_rows") (fdOf K (He.ga K "are_worth_rows")) := fun_z (c.fn 17) (c.fact 1 11)
theorem b_are_worth_rows : Binds K (fdOf K (He.ga K "are_worth_rows")) ["thing", "size"] [] := (F_are_worth_rows c).binds fun _ _ _ _ _ _ us hl => match us, hl with | [_, _], _ => rfl
theorem F_sides : Fun K "sides" "sides" s_sides (He.ga K "sides") (fdOf K (He.ga K "sides")) := fun_z (c.fn 18) (c.fact 1 13)
theorem b_sides : Binds K (fdOf K (He.ga K "sides")) ["rows"] [] := (F_sides c).binds fun _ _ _ _ _ _ us hl => match us, hl with | [_], _ => rfl
theorem F_need_field : Fun K "need_field" "need_field" s_need_field (He.ga K "need_field") (fdOf K (He.ga K "need_field")) := fun_z (c.fn 19) (c.fact 1 15)
theorem b_need_field : Binds K (fdOf K (He.ga K "need_field")) ["thing"] [] := (F_need_field c).binds fun _ _ _ _ _ _ us hl => match us, hl with | [_], _ => rfl
theorem F_is_field : Fun K "is_field" "is_field" s_is_field (He.ga K "is_field") (fdOf K (He.ga K "is_field")) := fun_z (c.fn 20) (c.fact 1 17)
theorem b_is_field : Binds K (fdOf K (He.ga K "is_field")) ["thing"] [] := (F_is_field c).binds fun _ _ _ _ _ _ us hl => match us, hl with | [_], _ => rfl
theorem F__law_asked : Fun K "_law_asked" "_law_asked" s__law_asked (He.ga K "_law_asked") (fdOf K (He.ga K "_law_asked")) := fun_z (c.fn 21) (c.fact 1 19)
theorem b__law_asked : Binds K (fdOf K (He.ga K "_law_asked")) ["deed"] [] := (F__law_asked c).binds fun _ _ _ _ _ _ us hl => match us, hl with | [_], _ => rfl
theorem F__law_looked_at : Fun K "_law_looked_at" "_law_looked_at" s__law_looked_at (He.ga K "_law_looked_at") (fdOf K (He.ga K "_law_looked_at")) := fun_z (c.fn 22) (c.fact 1 21)
theorem b__law_looked_at : Binds K (fdOf K (He.ga K "_law_looked_at")) ["thing"] [] := (F__law_looked_at c).binds fun _ _ _ _ _ _ us hl => match us, hl with | [_], _ => rfl
theorem F__law_bounds_right : Fun K "_law_bounds_right" "_law_bounds_right" s__law_bounds_right (He.ga K "_law_bounds_right") (fdOf K (He.ga K "_law_bounds_right")) := fun_z (c.fn 23) (c.fact 1 23)
theorem b__law_bounds_right : Binds K (fdOf K (He.ga K "_law_bounds_right")) ["cells", "spot"] [] := (F__law_bounds_right c).binds fun _ _ _ _ _ _ us hl => match us, hl with | [_, _], _ => rfl
theorem F__law_field : Fun K "_law_field" "_law_field" s__law_field (He.ga K "_law_field") (fdOf K (He.ga K "_law_field")) := fun_z (c.fn 24) (c.fact 2 1)
theorem b__law_field : Binds K (fdOf K (He.ga K "_law_field")) ["cells", "spot", "least", "most"] [] := (F__law_field c).binds fun _ _ _ _ _ _ us hl => match us, hl with | [_, _, _, _], _ => rfl
theorem F__law_odd : Fun K "_law_odd" "_law_odd" s__law_odd (He.ga K "_law_odd") (fdOf K (He.ga K "_law_odd")) := fun_z (c.fn 25) (c.fact 2 3)
theorem b__law_odd : Binds K (fdOf K (He.ga K "_law_odd")) ["n", "thing"] [] := (F__law_odd c).binds fun _ _ _ _ _ _ us hl => match us, hl with | [_, _], _ => rfl
theorem F__law_spoilt : Fun K "_law_spoilt" "_law_spoilt" s__law_spoilt (He.ga K "_law_spoilt") (fdOf K (He.ga K "_law_spoilt")) := fun_z (c.fn 26) (c.fact 2 5)
theorem b__law_spoilt : Binds K (fdOf K (He.ga K "_law_spoilt")) ["cells", "spot", "thing", "deep"] [] := (F__law_spoilt c).binds fun _ _ _ _ _ _ us hl => match us, hl with | [_, _, _, _], _ => rfl
theorem F_law : Fun K "law" "law" s_law (He.ga K "law") (fdOf K (He.ga K "law")) := fun_z (c.fn 27) (c.fact 2 7)
theorem b_law : Binds K (fdOf K (He.ga K "law")) ["script"] [] := (F_law c).binds fun _ _ _ _ _ _ us hl => match us, hl with | [_], _ => rfl
theorem ex_BadField : ExcF K (He.ga K "BadField") := excZ_ok (c.fact 4 3)
theorem ih_BadField : iniZ "BadField" "place" "ValueError" "ValueError.__new__" "ValueError.__init__" [.type "ValueError", .type "Exception", .type "BaseException", .type "object"] "/claim/cut.py" "BadField.__init__" true K = true := (c.fact 4 2)
include hP hS in
theorem it_BadField : IniTxt P K (He.ga K "BadField") (iA K "BadField") "place" "place" := ini_z eb_VE (c.fn 28) rfl rfl rfl rfl hP hS rfl rfl rfl rfl (ih_BadField c)
theorem bd_BadField : ∀ (s : Shared) (a : Addr) (v : Value) (fd : FuncData), K.In s.heap → (∃ oc od osl, K.lookup (iA K "BadField") = some ⟨oc, od, .func fd, osl⟩) → BindsTo s fd ⟨[.ref a, v], []⟩ [("self", .ref a), ("place", v)] := ini_bD (c.fn 28) (ih_BadField c) fun _ _ _ _ _ _ _ _ _ _ => ⟨_, rfl, rfl⟩
include X G hP hS in
theorem txok : TxOk P (txOf K mg) := { g__law_cell := gloZ_ok X G (c.fact 0 0), F__law_cell := F__law_cell c, b__law_cell := b__law_cell c, g__law_heights := gloZ_ok X G (c.fact 0 2), F__law_heights := F__law_heights c, b__law_heights := b__law_heights c, g__law_low := gloZ_ok X G (c.fact 0 4), F__law_low := F__law_low c, b__law_low := b__law_low c, g__law_worths := gloZ_ok X G (c.fact 0 6), F__law_worths := F__law_worths c, b__law_worths := b__law_worths c, g__law_sides := gloZ_ok X G (c.fact 0 8), F__law_sides := F__law_sides c, b__law_sides := b__law_sides c, g__law_are_steps := gloZ_ok X G (c.fact 0 10), F__law_are_steps := F__law_are_steps c, b__law_are_steps := b__law_are_steps c, g__law_whole := gloZ_ok X G (c.fact 0 12), F__law_whole := F__law_whole c, b__law_whole := b__law_whole c, g__law_are_numbers := gloZ_ok X G (c.fact 0 14), F__law_are_numbers := F__law_are_numbers c, b__law_are_numbers := b__law_are_numbers c, g__law_are_worths := gloZ_ok X G (c.fact 0 16), F__law_are_worths := F__law_are_worths c, b__law_are_worths := b__law_are_worths c, g__law_fault := gloZ_ok X G (c.fact 0 18), F__law_fault := F__law_fault c, b__law_fault := b__law_fault c, g_is_rim_low := gloZ_ok X G (c.fact 0 20), F_is_rim_low := F_is_rim_low c, b_is_rim_low := b_is_rim_low c, g_are_height_rows := gloZ_ok X G (c.fact 0 22), F_are_height_rows := F_are_height_rows c, b_are_height_rows := b_are_height_rows c, g__wrong_or_steps := gloZ_ok X G (c.fact 1 0), F__wrong_or_steps := F__wrong_or_steps c, b__wrong_or_steps := b__wrong_or_steps c, g_is_side_long := gloZ_ok X G (c.fact 1 2), F_is_side_long := F_is_side_long c, b_is_side_long := b_is_side_long c, g_are_steps_beside := gloZ_ok X G (c.fact 1 4), F_are_steps_beside := F_are_steps_beside c, b_are_steps_beside := b_are_steps_beside c, g_wrong_with_heights := gloZ_ok X G (c.fact 1 6), F_wrong_with_heights := F_wrong_with_heights c, b_wrong_with_heights := b_wrong_with_heights c, g_is_tuple_of := gloZ_ok X G (c.fact 1 8), F_is_tuple_of := F_is_tuple_of c, b_is_tuple_of := b_is_tuple_of c, g_are_worth_rows := gloZ_ok X G (c.fact 1 10), F_are_worth_rows := F_are_worth_rows c, b_are_worth_rows := b_are_worth_rows c, g_sides := gloZ_ok X G (c.fact 1 12), F_sides := F_sides c, b_sides := b_sides c, g_need_field := gloZ_ok X G (c.fact 1 14), F_need_field := F_need_field c, b_need_field := b_need_field c, g_is_field := gloZ_ok X G (c.fact 1 16), F_is_field := F_is_field c, b_is_field := b_is_field c, g__law_asked := gloZ_ok X G (c.fact 1 18), F__law_asked := F__law_asked c, b__law_asked := b__law_asked c, g__law_looked_at := gloZ_ok X G (c.fact 1 20), F__law_looked_at := F__law_looked_at c, b__law_looked_at := b__law_looked_at c, g__law_bounds_right := gloZ_ok X G (c.fact 1 22), F__law_bounds_right := F__law_bounds_right c, b__law_bounds_right := b__law_bounds_right c, g__law_field := gloZ_ok X G (c.fact 2 0), F__law_field := F__law_field c, b__law_field := b__law_field c, g__law_odd := gloZ_ok X G (c.fact 2 2), F__law_odd := F__law_odd c, b__law_odd := b__law_odd c, g__law_spoilt := gloZ_ok X G (c.fact 2 4), F__law_spoilt := F__law_spoilt c, b__law_spoilt := b__law_spoilt c, g_law := gloZ_ok X G (c.fact 2 6), F_law := F_law c, b_law := b_law c, m_LookupError := freeZ_ok X G (c.fact 2 8), m_RuntimeError := freeZ_ok X G (c.fact 2 9), m_ValueError := freeZ_ok X G (c.fact 2 10), m_abs := freeZ_ok X G (c.fact 2 11), m_bool := freeZ_ok X G (c.fact 2 12), m_enumerate := freeZ_ok X G (c.fact 2 13), m_gcd := bltZ_ok X G (c.fact 2 14), m_int := freeZ_ok X G (c.fact 2 15), m_isinstance := freeZ_ok X G (c.fact 2 16), m_len := freeZ_ok X G (c.fact 2 17), m_list := freeZ_ok X G (c.fact 2 18), m_max := freeZ_ok X G (c.fact 2 19), m_min := freeZ_ok X G (c.fact 2 20), m_range := freeZ_ok X G (c.fact 2 21), m_repr := freeZ_ok X G (c.fact 2 22), m_tuple := freeZ_ok X G (c.fact 2 23), m_type := freeZ_ok X G (c.fact 3 0), m_zip := freeZ_ok X G (c.fact 3 1), g_HollowError := gloZ_ok X G (c.fact 3 2), g_BadField := gloZ_ok X G (c.fact 3 3), g_BadFraction := gloZ_ok X G (c.fact 3 4), g_BadRule := gloZ_ok X G (c.fact 3 5), g_BadSpot := gloZ_ok X G (c.fact 3 6), g_BadTarget := gloZ_ok X G (c.fact 3 7), g_BadHeights := gloZ_ok X G (c.fact 3 8), g_BadRow := gloZ_ok X G (c.fact 3 9), g_BadPairing := gloZ_ok X G (c.fact 3 10), g_BadPaper := gloZ_ok X G (c.fact 3 11), g_BadCoin := gloZ_ok X G (c.fact 3 12), g_TooGreat := gloZ_ok X G (c.fact 3 13), g_TooFew := gloZ_ok X G (c.fact 3 14), g_BadText := gloZ_ok X G (c.fact 3 15), g_DeedError := gloZ_ok X G (c.fact 3 16), g_NoHollow := gloZ_ok X G (c.fact 3 17), g_NoPeak := gloZ_ok X G (c.fact 3 18), g_Nought := gloZ_ok X G (c.fact 3 19), g_BookError := gloZ_ok X G (c.fact 3 20), g_Gone := gloZ_ok X G (c.fact 3 21), code__law_looked_at := (codZ_ok (c.fact 4 1)).1, n_MOST_RIM := intZ_ok X G (c.fact 3 22), n_MOST_SIDE := intZ_ok X G (c.fact 3 23), sup := freeZ_ok X G (c.fact 4 0), it_BadField := it_BadField hP hS c, bd_BadField := bd_BadField c, fl_BadField := fld_z (ih_BadField c) (ex_BadField c), kc_BadField := (ex_BadField c).kp, bc_BadField := (ex_BadField c).bc, tc_BadField := (ex_BadField c).tc, ec_BadField := (ex_BadField c).ec, ki_BadField_tuple := of_decide_eq_true (c.fact 4 4), ki_BadField_int := of_decide_eq_true (c.fact 4 5), ki_BadField_bool := of_decide_eq_true (c.fact 4 6), ki_BadField_ValueError := of_decide_eq_true (c.fact 4 7), ki_BadField_RuntimeError := of_decide_eq_true (c.fact 4 8), ki_BadField_HollowError := of_decide_eq_true (c.fact 4 9), ki_BadField_DeedError := of_decide_eq_true (c.fact 4 10), ki_BadField_LookupError := of_decide_eq_true (c.fact 4 11), ki_BadField_BookError := of_decide_eq_true (c.fact 4 12), ki_BadField_BadField := of_decide_eq_true (c.fact 4 13), ki_BadField_BadFraction := of_decide_eq_true (c.fact 4 14), ki_BadField_BadHeights := of_decide_eq_true (c.fact 4 15), ki_BadField_TooGreat := of_decide_eq_true (c.fact 4 16), ki_BadField_BadPairing := of_decide_eq_true (c.fact 4 17), ki_BadField_BadPaper := of_decide_eq_true (c.fact 4 18), ki_BadField_BadCoin := of_decide_eq_true (c.fact 4 19), ki_BadField_TooFew := of_decide_eq_true (c.fact 4 20), ki_BadField_BadText := of_decide_eq_true (c.fact 4 21), ki_BadField_BadRule := of_decide_eq_true (c.fact 4 22), ki_BadField_BadSpot := of_decide_eq_true (c.fact 4 23), ki_BadField_BadTarget := of_decide_eq_true (c.fact 5 0), ki_BadField_BadRow := of_decide_eq_true (c.fact 5 1), ki_BadField_NoHollow := of_decide_eq_true (c.fact 5 2), ki_BadField_NoPeak := of_decide_eq_true (c.fact 5 3), ki_BadField_Nought := of_decide_eq_true (c.fact 5 4), ki_BadField_Gone := of_decide_eq_true (c.fact 5 5), ex_BadField := of_decide_eq_true (c.fact 5 7), ex1_BadField_BadField := of_decide_eq_true (c.fact 5 6) }
end
def nz0 : List Str := ["__name__", "HollowError", "BadField", "BadFraction", "BadRule", "BadSpot", "BadTarget", "BadHeights", "BadRow", "BadPairing", "BadPaper", "BadCoin", "TooGreat", "TooFew", "BadText", "DeedError", "NoHollow", "NoPeak", "Nought", "BookError", "Gone", "is_tuple_of", "MOST_SIDE", "MOST_RIM", "is_field", "need_field", "sides", "is_side_long", "wrong_with_heights", "_wrong_or_steps"]
def nz1 : List Str := ["are_steps_beside", "is_rim_low", "are_height_rows", "are_worth_rows", "_law_cell", "_law_low", "_law_heights", "_law_worths", "_law_field", "_law_asked", "_law_odd", "_law_spoilt", "_law_whole", "_law_sides", "_law_are_numbers", "_law_are_steps", "_law_are_worths", "_law_fault", "_law_bounds_right"]
def nz : List Str := nz0 ++ (nz1)
abbrev Rz : PySem.W.OpenRow := PySem.W.OpenLaw.row PySem.Challenge.rw_hollowrise_k02_fields_looked_at
abbrev qz : Program := PySem.W.view Rz.prog [0, 52, 54]
abbrev hkz : PySem.W.Hook := hookZ 5 fz mz vz
theorem runz (w : PySem.World) : HandSHeadRun.RunEqI Rz qz hkz (obZ 5 fz mz) 30000 nz w := by
  unfold HandSHeadRun.RunEqI
  kernel_rfl
end K02
namespace K02
open PySem L2 DL
/-- fuel: one more than the number at slot i -/
def fuelN (i : Nat) : DL.Env → Store → Nat := fun e _ => match e[i]? with
  | some (some (.int n)) => n.natAbs + 1
  | _ => 0
noncomputable def den__law_cell : DenS := seqS (asgG (binD addF (binD ixF (nameD 1) (cD (.int 0))) (cD (.int 1))) (subG (nameD 1) (cD (.int 0)))) (seqS (asgS 2 (binD ixF (nameD 1) (cD (.int 0)))) (seqS (asgS 3 (binD addF (binD mulF (binD mulF (cD (.int 31)) (nameD 2)) (nameD 2)) (binD mulF (cD (.int 7919)) (nameD 2)))) (seqS (ifS (andD (binD (gtF) (callD (lenF) (consA (nameD 0) (nilA))) (cD (.int 0))) (andD (binD (geF) (binD ixF (nameD 0) (binD fmodF (nameD 2) (callD (lenF) (consA (nameD 0) (nilA))))) (binD powF (cD (.int 10)) (cD (.int 18)))) (binD (ltF) (binD fdivF (nameD 2) (callD (lenF) (consA (nameD 0) (nilA)))) (cD (.int 60))))) (seqS (asgS 4 (binD ixF (nameD 0) (binD fmodF (nameD 2) (callD (lenF) (consA (nameD 0) (nilA)))))) (seqS (forI (nameG 5) (rng1 (consA (binD fdivF (nameD 2) (callD (lenF) (consA (nameD 0) (nilA)))) (nilA))) (asgS 4 (binD fdivF (nameD 4) (cD (.int 306783379))))) (ifS (binD (gtF) (nameD 4) (cD (.int 0))) (retS (binD fmodF (nameD 4) (cD (.int 306783379)))) (nilS)))) (nilS)) (seqS (ifS (binD (gtF) (callD (lenF) (consA (nameD 0) (nilA))) (cD (.int 0))) (asgS 3 (binD addF (nameD 3) (binD mulF (binD fmodF (binD ixF (nameD 0) (binD fmodF (nameD 2) (callD (lenF) (consA (nameD 0) (nilA))))) (cD (.int 2147483629))) (binD addF (cD (.int 1)) (binD fdivF (nameD 2) (callD (lenF) (consA (nameD 0) (nilA)))))))) (nilS)) (retS (binD fdivF (binD fmodF (binD powF (binD fmodF (nameD 3) (cD (.int 2147483647))) (cD (.int 5))) (cD (.int 2147483647))) (cD (.int 7))))))))
noncomputable def m__law_cell : DenF := cutF (ofBody 6 den__law_cell)
theorem ok__law_cell {x : Tx} {P : Program} (t : TxOk P x) {w : World} {base : Heap} (tb : Tb x base) : FnD P w x.fx x.mg base 1 x.a__law_cell x.fd__law_cell ["cells", "spot"] m__law_cell := by
  have sc := sc__law_cell
  exact FnD.cut (fn_mk (k := 0) t.F__law_cell sc rfl fun cdv A outer s H E dc => (dss_cons (ds_asg (de_bin add_ok opr_add (de_ix (de_name 1) de_int) de_int) (dg_sub (de_name 1) de_int)) (dss_cons (ds_set 2 sc.nd (de_ix (de_name 1) de_int)) (dss_cons (ds_set 3 sc.nd (de_bin add_ok opr_add (de_bin mul_ok opr_mul (de_bin mul_ok opr_mul de_int (de_name 2)) (de_name 2)) (de_bin mul_ok opr_mul de_int (de_name 2)))) (dss_cons (ds_if (DW.dt (dw_and (dt_cmp gt_ok op_gt (de_callB len_ok call_len t.m_len (da_cons (de_name 0) da_nil)) de_int (nomark _)) (dw_and (dt_cmp ge_ok op_ge (de_ix (de_name 0) (de_bin fmod_ok op_modN (de_name 2) (de_callB len_ok call_len t.m_len (da_cons (de_name 0) da_nil)))) (de_bin pow_ok opr_pow de_int de_int) (nomark _)) (dw_and1 (dt_cmp lt_ok op_lt (de_bin fdiv_ok opr_fdiv (de_name 2) (de_callB len_ok call_len t.m_len (da_cons (de_name 0) da_nil))) de_int (nomark _)))))) (dss_cons (ds_set 4 sc.nd (de_ix (de_name 0) (de_bin fmod_ok op_modN (de_name 2) (de_callB len_ok call_len t.m_len (da_cons (de_name 0) da_nil))))) (dss_cons (ds_forI dc (di_rng1 t.m_range (de_bin fdiv_ok opr_fdiv (de_name 2) (de_callB len_ok call_len t.m_len (da_cons (de_name 0) da_nil)))) (dg_name 5 sc.nd) (dss_one (ds_set 4 sc.nd (de_bin fdiv_ok opr_fdiv (de_name 4) de_int)))) (dss_one (ds_if (dt_cmp gt_ok op_gt (de_name 4) de_int (nomark _)) (dss_one (ds_ret (de_bin fmod_ok op_modN (de_name 4) de_int))) dss_nil)))) dss_nil) (dss_cons (ds_if (dt_cmp gt_ok op_gt (de_callB len_ok call_len t.m_len (da_cons (de_name 0) da_nil)) de_int (nomark _)) (dss_one (ds_set 3 sc.nd (de_bin add_ok opr_add (de_name 3) (de_bin mul_ok opr_mul (de_bin fmod_ok op_modN (de_ix (de_name 0) (de_bin fmod_ok op_modN (de_name 2) (de_callB len_ok call_len t.m_len (da_cons (de_name 0) da_nil)))) de_int) (de_bin add_ok opr_add de_int (de_bin fdiv_ok opr_fdiv (de_name 2) (de_callB len_ok call_len t.m_len (da_cons (de_name 0) da_nil)))))))) dss_nil) (dss_one (ds_ret (de_bin fdiv_ok opr_fdiv (de_bin fmod_ok op_modN (de_bin pow_ok opr_pow (de_bin fmod_ok op_modN (de_name 3) de_int) de_int) de_int) de_int)))))))))
noncomputable def den__law_heights : DenS := seqS (ownS 5 (nilA)) (seqS (forI (nameG 6) (rng1 (consA (nameD 3) (nilA))) (seqS (parOwnS 7 8 (fnD m__law_cell 2 [] (consA (nameD 0) (consA (nameD 1) (nilA)))) (nilA)) (seqS (forI (nameG 9) (rng1 (consA (nameD 2) (nilA))) (seqS (asgS 10 (binD addF (slpD (nameD 8) (someO (unD negF (cD (.int 1)))) (noneO) (noneO)) (cutE (compD (set1 12) (cD (.bl true)) (binD ixF (nameD 12) (nameD 9)) [12] (itD (slpD (nameD 5) (someO (unD negF (cD (.int 1)))) (noneO) (noneO))))))) (seqS (asgS 11 (lstD (consA (nameD 4) (consA (nameD 4) (nilA))))) (seqS (ifS (binD (neF) (nameD 10) (lstD (nilA))) (seqS (asgS 11 (lstD (consA (binD subF (binD ixF (nameD 10) (cD (.int 0))) (cD (.int 1))) (consA (binD addF (binD ixF (nameD 10) (cD (.int 0))) (cD (.int 1))) (nilA))))) (asgS 11 (cutE (compD (set1 13) (binD (eqF) (callD (absF) (consA (binD subF (nameD 13) (binD ixF (nameD 10) (unD negF (cD (.int 1))))) (nilA))) (cD (.int 1))) (nameD 13) [13] (itD (nameD 11)))))) (nilS)) (appS (nameD 8) (binD ixF (nameD 11) (binD fmodF (binD andF (binD shrF (nameD 7) (nameD 9)) (cD (.int 1))) (callD (lenF) (consA (nameD 11) (nilA)))))))))) (appS (nameD 5) (callD (tupcF) (consA (nameD 8) (nilA))))))) (retS (callD (tupcF) (consA (nameD 5) (nilA)))))
noncomputable def m__law_heights : DenF := cutF (ofBody 14 den__law_heights)
theorem ok__law_heights {x : Tx} {P : Program} (t : TxOk P x) {w : World} {base : Heap} (tb : Tb x base) : FnD P w x.fx x.mg base 2 x.a__law_heights x.fd__law_heights ["cells", "spot", "wide", "high", "base"] m__law_heights := by
  have sc := sc__law_heights
  exact FnD.cut (fn_mk (k := 1) t.F__law_heights sc rfl fun cdv A outer s H E dc => (dss_cons (ds_own 5 sc.nd da_nil) (dss_cons (ds_forI dc (di_rng1 t.m_range (de_name 3)) (dg_name 6 sc.nd) (dss_cons (ds_parOwn 7 8 dc.calm sc.nd (de_call (k := 1) (ps := ["cells", "spot"]) (ok__law_cell t tb) (dc.mono (by decide)) t.g__law_cell t.F__law_cell.kp t.b__law_cell .nil (fun _ _ => rfl) (da_cons (de_name 0) (da_cons (de_name 1) da_nil))) da_nil) (dss_cons (ds_forI dc (di_rng1 t.m_range (de_name 2)) (dg_name 9 sc.nd) (dss_cons (ds_set 10 sc.nd (de_bin add_ok opr_add (de_slp (de_name 8) (do_so (de_un neg_ok un_neg de_int)) do_no do_no) (de_cut (de_comp (own := [("ahead", 12)]) dc sc.nd (di_sq (de_slp (de_name 5) (do_so (de_un neg_ok un_neg de_int)) do_no do_no)) (blkOk_by (own := [("ahead", 12)]) (by rfl)) (fun _ _ _ _ _ => pg_name sc.nd (i := 12) rfl (by first | exact Or.inl rfl | exact Or.inr rfl) (by first | exact .inl rfl | exact .inr rfl)) (tg1 (vs := [12]) (by decide)) (fun _ _ _ _ _ _ => pts_yes) (fun _ _ _ _ _ dc => (de_ix (de_name 12) (de_name 9))))))) (dss_cons (ds_set 11 sc.nd (de_lst (da_cons (de_name 4) (da_cons (de_name 4) da_nil)))) (dss_cons (ds_if (dt_cmp ne_ok (opr_ne dc.u64) (de_name 10) (de_lst da_nil) (nomark _)) (dss_cons (ds_set 11 sc.nd (de_lst (da_cons (de_bin sub_ok op_sub (de_ix (de_name 10) de_int) de_int) (da_cons (de_bin add_ok opr_add (de_ix (de_name 10) de_int) de_int) da_nil)))) (dss_one (DSet.ds (DSet.cut (dset_comp 11 (own := [("one", 13)]) dc sc.nd (di_sq (de_name 11)) (blkOk_by (own := [("one", 13)]) (by rfl)) (fun _ _ _ _ _ => pg_name sc.nd (i := 13) rfl (by first | exact Or.inl rfl | exact Or.inr rfl) (by first | exact .inl rfl | exact .inr rfl)) (tg1 (vs := [13]) (by decide)) (fun _ _ _ _ _ dc => pts_if (dt_cmp eq_ok (opr_eq dc.u64) (de_callB abs_ok call_abs t.m_abs (da_cons (de_bin sub_ok op_sub (de_name 13) (de_ix (de_name 10) (de_un neg_ok un_neg de_int))) da_nil)) de_int (nomark _))) (fun _ _ _ _ _ dc => (de_name 13))))))) dss_nil) (dss_one (ds_app (de_name 8) (de_ix (de_name 11) (de_bin fmod_ok op_modN (de_bin and_ok op_and (de_bin shr_ok op_shr (de_name 7) (de_name 9)) de_int) (de_callB len_ok call_len t.m_len (da_cons (de_name 11) da_nil)))))))))) (dss_one (ds_app (de_name 5) (de_callTy tupc_ok callr_tuple t.m_tuple (da_cons (de_name 8) da_nil))))))) (dss_one (ds_ret (de_callTy tupc_ok callr_tuple t.m_tuple (da_cons (de_name 5) da_nil)))))))
noncomputable def den__law_low : DenS := seqS (parS 2 3 (callD (absF) (consA (nameD 0) (nilA))) (callD (absF) (consA (nameD 1) (nilA)))) (seqS (wlS (fuelN 3) (binD (neF) (nameD 3) (cD (.int 0))) (parS 2 3 (nameD 3) (binD fmodF (nameD 2) (nameD 3)))) (seqS (asgS 4 (brD (binD (gtF) (nameD 1) (cD (.int 0))) (nameD 2) (binD subF (cD (.int 0)) (nameD 2)))) (retS (tupD (consA (binD fdivF (nameD 0) (nameD 4)) (consA (binD fdivF (nameD 1) (nameD 4)) (nilA)))))))
noncomputable def m__law_low : DenF := cutF (ofBody 5 den__law_low)
theorem ok__law_low {x : Tx} {P : Program} (t : TxOk P x) {w : World} {base : Heap} (tb : Tb x base) : FnD P w x.fx x.mg base 1 x.a__law_low x.fd__law_low ["above", "below"] m__law_low := by
  have sc := sc__law_low
  exact FnD.cut (fn_mk (k := 0) t.F__law_low sc rfl fun cdv A outer s H E dc => (dss_cons (ds_par 2 3 dc.calm sc.nd (de_callB abs_ok call_abs t.m_abs (da_cons (de_name 0) da_nil)) (de_callB abs_ok call_abs t.m_abs (da_cons (de_name 1) da_nil))) (dss_cons (ds_wl (fuelN 3) dc (dt_cmp ne_ok (opr_ne dc.u64) (de_name 3) de_int (nomark _)) (dss_one (ds_par 2 3 dc.calm sc.nd (de_name 3) (de_bin fmod_ok op_modN (de_name 2) (de_name 3))))) (dss_cons (ds_set 4 sc.nd (de_ifExp (dt_cmp gt_ok op_gt (de_name 1) de_int (nomark _)) (de_name 2) (de_bin sub_ok op_sub de_int (de_name 2)))) (dss_one (ds_ret (de_tup (da_cons (de_bin fdiv_ok opr_fdiv (de_name 0) (de_name 4)) (da_cons (de_bin fdiv_ok opr_fdiv (de_name 1) (de_name 4)) da_nil)))))))))
noncomputable def den__law_worths : DenS := seqS (ownS 5 (nilA)) (seqS (forI (nameG 6) (rng1 (consA (nameD 3) (nilA))) (seqS (ownS 7 (nilA)) (seqS (forI (nameG 8) (rng1 (consA (nameD 2) (nilA))) (seqS (asgS 9 (fnD m__law_cell 2 [] (consA (nameD 0) (consA (nameD 1) (nilA))))) (seqS (parS 10 11 (binD addF (cD (.int 1)) (binD fmodF (nameD 9) (cD (.int 9)))) (binD addF (cD (.int 1)) (binD fmodF (binD fdivF (nameD 9) (cD (.int 9))) (cD (.int 4))))) (seqS (asgS 12 (binD mulF (nameD 10) (binD subF (cD (.int 1)) (binD mulF (binD fmodF (binD fdivF (nameD 9) (cD (.int 36))) (cD (.int 2))) (cD (.int 2)))))) (seqS (asgS 13 (lstD (consA (tupD (consA (cD (.int 1)) (consA (cD (.int 1)) (nilA)))) (consA (tupD (consA (nameD 10) (consA (cD (.int 1)) (nilA)))) (consA (fnD m__law_low 2 [] (consA (nameD 10) (consA (nameD 11) (nilA)))) (nilA)))))) (appS (nameD 7) (binD ixF (binD addF (nameD 13) (lstD (consA (fnD m__law_low 2 [] (consA (nameD 12) (consA (nameD 11) (nilA)))) (nilA)))) (nameD 4)))))))) (appS (nameD 5) (callD (tupcF) (consA (nameD 7) (nilA))))))) (retS (callD (tupcF) (consA (nameD 5) (nilA)))))
noncomputable def m__law_worths : DenF := cutF (ofBody 14 den__law_worths)
theorem ok__law_worths {x : Tx} {P : Program} (t : TxOk P x) {w : World} {base : Heap} (tb : Tb x base) : FnD P w x.fx x.mg base 2 x.a__law_worths x.fd__law_worths ["cells", "spot", "wide", "high", "sort"] m__law_worths := by
  have sc := sc__law_worths
  exact FnD.cut (fn_mk (k := 1) t.F__law_worths sc rfl fun cdv A outer s H E dc => (dss_cons (ds_own 5 sc.nd da_nil) (dss_cons (ds_forI dc (di_rng1 t.m_range (de_name 3)) (dg_name 6 sc.nd) (dss_cons (ds_own 7 sc.nd da_nil) (dss_cons (ds_forI dc (di_rng1 t.m_range (de_name 2)) (dg_name 8 sc.nd) (dss_cons (ds_set 9 sc.nd (de_call (k := 1) (ps := ["cells", "spot"]) (ok__law_cell t tb) (dc.mono (by decide)) t.g__law_cell t.F__law_cell.kp t.b__law_cell .nil (fun _ _ => rfl) (da_cons (de_name 0) (da_cons (de_name 1) da_nil)))) (dss_cons (ds_par 10 11 dc.calm sc.nd (de_bin add_ok opr_add de_int (de_bin fmod_ok op_modN (de_name 9) de_int)) (de_bin add_ok opr_add de_int (de_bin fmod_ok op_modN (de_bin fdiv_ok opr_fdiv (de_name 9) de_int) de_int))) (dss_cons (ds_set 12 sc.nd (de_bin mul_ok opr_mul (de_name 10) (de_bin sub_ok op_sub de_int (de_bin mul_ok opr_mul (de_bin fmod_ok op_modN (de_bin fdiv_ok opr_fdiv (de_name 9) de_int) de_int) de_int)))) (dss_cons (ds_set 13 sc.nd (de_lst (da_cons (de_tup (da_cons de_int (da_cons de_int da_nil))) (da_cons (de_tup (da_cons (de_name 10) (da_cons de_int da_nil))) (da_cons (de_call (k := 1) (ps := ["above", "below"]) (ok__law_low t tb) (dc.mono (by decide)) t.g__law_low t.F__law_low.kp t.b__law_low .nil (fun _ _ => rfl) (da_cons (de_name 10) (da_cons (de_name 11) da_nil))) da_nil))))) (dss_one (ds_app (de_name 7) (de_ix (de_bin add_ok opr_add (de_name 13) (de_lst (da_cons (de_call (k := 1) (ps := ["above", "below"]) (ok__law_low t tb) (dc.mono (by decide)) t.g__law_low t.F__law_low.kp t.b__law_low .nil (fun _ _ => rfl) (da_cons (de_name 12) (da_cons (de_name 11) da_nil))) da_nil))) (de_name 4))))))))) (dss_one (ds_app (de_name 5) (de_callTy tupc_ok callr_tuple t.m_tuple (da_cons (de_name 7) da_nil))))))) (dss_one (ds_ret (de_callTy tupc_ok callr_tuple t.m_tuple (da_cons (de_name 5) da_nil)))))))
noncomputable def den__law_sides : DenS := seqS (ifS (orD (unD notF (tstD (callD (isiB subT) (consA (nameD 0) (consA (cD (.ty "tuple")) (nilA)))))) (unD notF (chainD leF leF (cD (.int 1)) (callD (lenF) (consA (nameD 0) (nilA))) (cD (.int 11))))) (retS (lstD (nilA))) (nilS)) (seqS (asgS 1 (cutE (compD (set1 3) (cD (.bl true)) (brD (tstD (callD (isiB subT) (consA (nameD 3) (consA (cD (.ty "tuple")) (nilA))))) (callD (lenF) (consA (nameD 3) (nilA))) (cD (.int 0))) [3] (itD (nameD 0))))) (seqS (asgS 2 (callD (lenF) (consA (nameD 1) (nilA)))) (seqS (ifS (orD (binD (neF) (nameD 1) (binD mulF (lstD (consA (binD ixF (nameD 1) (cD (.int 0))) (nilA))) (nameD 2))) (unD notF (chainD leF leF (cD (.int 1)) (binD ixF (nameD 1) (cD (.int 0))) (cD (.int 11))))) (retS (lstD (nilA))) (nilS)) (retS (lstD (consA (binD ixF (nameD 1) (cD (.int 0))) (consA (nameD 2) (nilA))))))))
noncomputable def m__law_sides : DenF := cutF (ofBody 4 den__law_sides)
theorem ok__law_sides {x : Tx} {P : Program} (t : TxOk P x) {w : World} {base : Heap} (tb : Tb x base) : FnD P w x.fx x.mg base 1 x.a__law_sides x.fd__law_sides ["thing"] m__law_sides := by
  have sc := sc__law_sides
  exact FnD.cut (fn_mk (k := 0) t.F__law_sides sc rfl fun cdv A outer s H E dc => (dss_cons (ds_if (DW.dt (dw_or (dt_not (dt_v (de_callB (isiB_ok t.h_sub t.sub_cls) callr_isiAll t.m_isinstance (da_cons (de_name 0) (da_cons (de_cls t.m_tuple) da_nil))))) (dw_or1 (dt_not (dt_chain le_ok op_le le_ok op_le truths_int de_int (de_callB len_ok call_len t.m_len (da_cons (de_name 0) da_nil)) de_int))))) (dss_one (ds_ret (de_lst da_nil))) dss_nil) (dss_cons (DSet.ds (DSet.cut (dset_comp 1 (own := [("row", 3)]) dc sc.nd (di_sq (de_name 0)) (blkOk_by (own := [("row", 3)]) (by rfl)) (fun _ _ _ _ _ => pg_name sc.nd (i := 3) rfl (by first | exact Or.inl rfl | exact Or.inr rfl) (by first | exact .inl rfl | exact .inr rfl)) (tg1 (vs := [3]) (by decide)) (fun _ _ _ _ _ _ => pts_yes) (fun _ _ _ _ _ dc => (de_ifExp (dt_v (de_callB (isiB_ok t.h_sub t.sub_cls) callr_isiAll t.m_isinstance (da_cons (de_name 3) (da_cons (de_cls t.m_tuple) da_nil)))) (de_callB len_ok call_len t.m_len (da_cons (de_name 3) da_nil)) de_int))))) (dss_cons (ds_set 2 sc.nd (de_callB len_ok call_len t.m_len (da_cons (de_name 1) da_nil))) (dss_cons (ds_if (DW.dt (dw_or (dt_cmp ne_ok (opr_ne dc.u64) (de_name 1) (de_bin mul_ok opr_mul (de_lst (da_cons (de_ix (de_name 1) de_int) da_nil)) (de_name 2)) (nomark _)) (dw_or1 (dt_not (dt_chain le_ok op_le le_ok op_le truths_int de_int (de_ix (de_name 1) de_int) de_int))))) (dss_one (ds_ret (de_lst da_nil))) dss_nil) (dss_one (ds_ret (de_lst (da_cons (de_ix (de_name 1) de_int) (da_cons (de_name 2) da_nil))))))))))
noncomputable def den__law_are_steps : DenS := seqS (forI (tupG 2 (consG (nameG 1) (consG (nameG 2) (nilG)))) (enumD (consA (nameD 0) nilA)) (forI (tupG 2 (consG (nameG 3) (consG (nameG 4) (nilG)))) (enumD (consA (nameD 2) nilA)) (seqS (asgS 5 (binD addF (callD (lstcF) (consA (slpD (slpD (nameD 2) (noneO) (someO (nameD 3)) (noneO)) (someO (unD negF (cD (.int 1)))) (noneO) (noneO)) (nilA))) (cutE (compD (set1 6) (cD (.bl true)) (binD ixF (nameD 6) (nameD 3)) [6] (itD (slpD (slpD (nameD 0) (noneO) (someO (nameD 1)) (noneO)) (someO (unD negF (cD (.int 1)))) (noneO) (noneO))))))) (seqS (ifS (binD (neF) (binD fmodF (binD subF (binD subF (nameD 4) (nameD 3)) (nameD 1)) (cD (.int 2))) (cD (.int 0))) (retS (cD (.bl false))) (nilS)) (ifS (binD (neF) (cutE (compD (set1 7) (binD (neF) (callD (absF) (consA (binD subF (nameD 7) (nameD 4)) (nilA))) (cD (.int 1))) (nameD 7) [7] (itD (nameD 5)))) (lstD (nilA))) (retS (cD (.bl false))) (nilS)))))) (retS (cD (.bl true)))
noncomputable def m__law_are_steps : DenF := cutF (ofBody 8 den__law_are_steps)
theorem ok__law_are_steps {x : Tx} {P : Program} (t : TxOk P x) {w : World} {base : Heap} (tb : Tb x base) : FnD P w x.fx x.mg base 1 x.a__law_are_steps x.fd__law_are_steps ["rows"] m__law_are_steps := by
  have sc := sc__law_are_steps
  exact FnD.cut (fn_mk (k := 0) t.F__law_are_steps sc rfl fun cdv A outer s H E dc => (dss_cons (ds_forI dc (di_enum t.m_enumerate (de_name 0)) (dg_tup dc.calm (dgs_cons (dg_name 1 sc.nd) (dgs_cons (dg_name 2 sc.nd) dgs_nil))) (dss_one (ds_forI dc (di_enum t.m_enumerate (de_name 2)) (dg_tup dc.calm (dgs_cons (dg_name 3 sc.nd) (dgs_cons (dg_name 4 sc.nd) dgs_nil))) (dss_cons (ds_set 5 sc.nd (de_bin add_ok opr_add (de_callTy lstc_ok callr_list t.m_list (da_cons (de_slp (de_slp (de_name 2) do_no (do_so (de_name 3)) do_no) (do_so (de_un neg_ok un_neg de_int)) do_no do_no) da_nil)) (de_cut (de_comp (own := [("ahead", 6)]) dc sc.nd (di_sq (de_slp (de_slp (de_name 0) do_no (do_so (de_name 1)) do_no) (do_so (de_un neg_ok un_neg de_int)) do_no do_no)) (blkOk_by (own := [("ahead", 6)]) (by rfl)) (fun _ _ _ _ _ => pg_name sc.nd (i := 6) rfl (by first | exact Or.inl rfl | exact Or.inr rfl) (by first | exact .inl rfl | exact .inr rfl)) (tg1 (vs := [6]) (by decide)) (fun _ _ _ _ _ _ => pts_yes) (fun _ _ _ _ _ dc => (de_ix (de_name 6) (de_name 3))))))) (dss_cons (ds_if (dt_cmp ne_ok (opr_ne dc.u64) (de_bin fmod_ok op_modN (de_bin sub_ok op_sub (de_bin sub_ok op_sub (de_name 4) (de_name 3)) (de_name 1)) de_int) de_int (nomark _)) (dss_one (ds_ret de_bl)) dss_nil) (dss_one (ds_if (dt_cmp ne_ok (opr_ne dc.u64) (de_cut (de_comp (own := [("one", 7)]) dc sc.nd (di_sq (de_name 5)) (blkOk_by (own := [("one", 7)]) (by rfl)) (fun _ _ _ _ _ => pg_name sc.nd (i := 7) rfl (by first | exact Or.inl rfl | exact Or.inr rfl) (by first | exact .inl rfl | exact .inr rfl)) (tg1 (vs := [7]) (by decide)) (fun _ _ _ _ _ dc => pts_if (dt_cmp ne_ok (opr_ne dc.u64) (de_callB abs_ok call_abs t.m_abs (da_cons (de_bin sub_ok op_sub (de_name 7) (de_name 4)) da_nil)) de_int (nomark _))) (fun _ _ _ _ _ dc => (de_name 7)))) (de_lst da_nil) (nomark _)) (dss_one (ds_ret de_bl)) dss_nil))))))) (dss_one (ds_ret de_bl))))
noncomputable def den__law_whole : DenS := retS (andD (callD (isiB subT) (consA (nameD 0) (consA (cD (.ty "int")) (nilA)))) (unD notF (callD (isiB subT) (consA (nameD 0) (consA (cD (.ty "bool")) (nilA))))))
noncomputable def m__law_whole : DenF := cutF (ofBody 1 den__law_whole)
theorem ok__law_whole {x : Tx} {P : Program} (t : TxOk P x) {w : World} {base : Heap} (tb : Tb x base) : FnD P w x.fx x.mg base 1 x.a__law_whole x.fd__law_whole ["thing"] m__law_whole := by
  have sc := sc__law_whole
  exact FnD.cut (fn_mk (k := 0) t.F__law_whole sc rfl fun cdv A outer s H E dc => (dss_one (ds_ret (de_and (de_callB (isiB_ok t.h_sub t.sub_cls) callr_isiAll t.m_isinstance (da_cons (de_name 0) (da_cons (de_cls t.m_int) da_nil))) (de_one (de_not (de_callB (isiB_ok t.h_sub t.sub_cls) callr_isiAll t.m_isinstance (da_cons (de_name 0) (da_cons (de_cls t.m_bool) da_nil)))))))))
noncomputable def den__law_are_numbers : DenS := seqS (forI (tupG 2 (consG (nameG 2) (consG (nameG 3) (nilG)))) (enumD (consA (nameD 0) nilA)) (forI (tupG 2 (consG (nameG 4) (consG (nameG 5) (nilG)))) (enumD (consA (nameD 3) nilA)) (seqS (asgS 6 (orD (binD (inF false) (nameD 4) (tupD (consA (cD (.int 0)) (consA (binD subF (binD ixF (nameD 1) (cD (.int 0))) (cD (.int 1))) (nilA))))) (binD (inF false) (nameD 2) (tupD (consA (cD (.int 0)) (consA (binD subF (binD ixF (nameD 1) (cD (.int 1))) (cD (.int 1))) (nilA))))))) (ifS (orD (unD notF (tstD (fnD m__law_whole 1 [] (consA (nameD 5) (nilA))))) (andD (tstD (nameD 6)) (unD notF (chainD leF leF (unD negF (cD (.int 35))) (nameD 5) (cD (.int 35)))))) (retS (cD (.bl false))) (nilS))))) (retS (cD (.bl true)))
noncomputable def m__law_are_numbers : DenF := cutF (ofBody 7 den__law_are_numbers)
theorem ok__law_are_numbers {x : Tx} {P : Program} (t : TxOk P x) {w : World} {base : Heap} (tb : Tb x base) : FnD P w x.fx x.mg base 2 x.a__law_are_numbers x.fd__law_are_numbers ["rows", "sides_v"] m__law_are_numbers := by
  have sc := sc__law_are_numbers
  exact FnD.cut (fn_mk (k := 1) t.F__law_are_numbers sc rfl fun cdv A outer s H E dc => (dss_cons (ds_forI dc (di_enum t.m_enumerate (de_name 0)) (dg_tup dc.calm (dgs_cons (dg_name 2 sc.nd) (dgs_cons (dg_name 3 sc.nd) dgs_nil))) (dss_one (ds_forI dc (di_enum t.m_enumerate (de_name 3)) (dg_tup dc.calm (dgs_cons (dg_name 4 sc.nd) (dgs_cons (dg_name 5 sc.nd) dgs_nil))) (dss_cons (ds_set 6 sc.nd (de_or (de_cmp in_ok op_in_seq (de_name 4) (de_tup (da_cons de_int (da_cons (de_bin sub_ok op_sub (de_ix (de_name 1) de_int) de_int) da_nil))) rfl) (de_one (de_cmp in_ok op_in_seq (de_name 2) (de_tup (da_cons de_int (da_cons (de_bin sub_ok op_sub (de_ix (de_name 1) de_int) de_int) da_nil))) rfl)))) (dss_one (ds_if (DW.dt (dw_or (dt_not (dt_v (de_call (k := 1) (ps := ["thing"]) (ok__law_whole t tb) (dc.mono (by decide)) t.g__law_whole t.F__law_whole.kp t.b__law_whole .nil (fun _ _ => rfl) (da_cons (de_name 5) da_nil)))) (dw_or1 (DW.dt (dw_and (dt_v (de_name 6)) (dw_and1 (dt_not (dt_chain le_ok op_le le_ok op_le truths_int (de_un neg_ok un_neg de_int) (de_name 5) de_int)))))))) (dss_one (ds_ret de_bl)) dss_nil)))))) (dss_one (ds_ret de_bl))))
noncomputable def den__law_are_worths : DenS := seqS (forI (nameG 1) (itD (nameD 0)) (forI (nameG 2) (itD (nameD 1)) (seqS (ifS (orD (unD notF (tstD (callD (isiB subT) (consA (nameD 2) (consA (cD (.ty "tuple")) (nilA)))))) (binD (neF) (callD (lenF) (consA (nameD 2) (nilA))) (cD (.int 2)))) (retS (cD (.bl false))) (nilS)) (seqS (ifS (orD (unD notF (tstD (fnD m__law_whole 1 [] (consA (binD ixF (nameD 2) (cD (.int 0))) (nilA))))) (unD notF (tstD (fnD m__law_whole 1 [] (consA (binD ixF (nameD 2) (cD (.int 1))) (nilA)))))) (retS (cD (.bl false))) (nilS)) (ifS (orD (binD (eqF) (binD ixF (nameD 2) (cD (.int 0))) (cD (.int 0))) (orD (binD (ltF) (binD ixF (nameD 2) (cD (.int 1))) (cD (.int 1))) (binD (neF) (fnD m__law_low 2 [] (consA (binD ixF (nameD 2) (cD (.int 0))) (consA (binD ixF (nameD 2) (cD (.int 1))) (nilA)))) (nameD 2)))) (retS (cD (.bl false))) (nilS)))))) (retS (cD (.bl true)))
noncomputable def m__law_are_worths : DenF := cutF (ofBody 3 den__law_are_worths)
theorem ok__law_are_worths {x : Tx} {P : Program} (t : TxOk P x) {w : World} {base : Heap} (tb : Tb x base) : FnD P w x.fx x.mg base 2 x.a__law_are_worths x.fd__law_are_worths ["rows"] m__law_are_worths := by
  have sc := sc__law_are_worths
  exact FnD.cut (fn_mk (k := 1) t.F__law_are_worths sc rfl fun cdv A outer s H E dc => (dss_cons (ds_forI dc (di_sq (de_name 0)) (dg_name 1 sc.nd) (dss_one (ds_forI dc (di_sq (de_name 1)) (dg_name 2 sc.nd) (dss_cons (ds_if (DW.dt (dw_or (dt_not (dt_v (de_callB (isiB_ok t.h_sub t.sub_cls) callr_isiAll t.m_isinstance (da_cons (de_name 2) (da_cons (de_cls t.m_tuple) da_nil))))) (dw_or1 (dt_cmp ne_ok (opr_ne dc.u64) (de_callB len_ok call_len t.m_len (da_cons (de_name 2) da_nil)) de_int (nomark _))))) (dss_one (ds_ret de_bl)) dss_nil) (dss_cons (ds_if (DW.dt (dw_or (dt_not (dt_v (de_call (k := 1) (ps := ["thing"]) (ok__law_whole t tb) (dc.mono (by decide)) t.g__law_whole t.F__law_whole.kp t.b__law_whole .nil (fun _ _ => rfl) (da_cons (de_ix (de_name 2) de_int) da_nil)))) (dw_or1 (dt_not (dt_v (de_call (k := 1) (ps := ["thing"]) (ok__law_whole t tb) (dc.mono (by decide)) t.g__law_whole t.F__law_whole.kp t.b__law_whole .nil (fun _ _ => rfl) (da_cons (de_ix (de_name 2) de_int) da_nil))))))) (dss_one (ds_ret de_bl)) dss_nil) (dss_one (ds_if (DW.dt (dw_or (dt_cmp eq_ok (opr_eq dc.u64) (de_ix (de_name 2) de_int) de_int (nomark _)) (dw_or (dt_cmp lt_ok op_lt (de_ix (de_name 2) de_int) de_int (nomark _)) (dw_or1 (dt_cmp ne_ok (opr_ne dc.u64) (de_call (k := 1) (ps := ["above", "below"]) (ok__law_low t tb) (dc.mono (by decide)) t.g__law_low t.F__law_low.kp t.b__law_low .nil (fun _ _ => rfl) (da_cons (de_ix (de_name 2) de_int) (da_cons (de_ix (de_name 2) de_int) da_nil))) (de_name 2) (nomark _)))))) (dss_one (ds_ret de_bl)) dss_nil))))))) (dss_one (ds_ret de_bl))))
noncomputable def den__law_fault : DenS := seqS (ifS (orD (unD notF (tstD (callD (isiB subT) (consA (nameD 0) (consA (cD (.ty "tuple")) (nilA)))))) (binD (neF) (callD (lenF) (consA (nameD 0) (nilA))) (cD (.int 2)))) (retS (lstD (consA (cD .non) (nilA)))) (nilS)) (seqS (asgS 1 (fnD m__law_sides 1 [] (consA (binD ixF (nameD 0) (cD (.int 0))) (nilA)))) (seqS (ifS (orD (binD (eqF) (nameD 1) (lstD (nilA))) (unD notF (tstD (fnD m__law_are_numbers 2 [] (consA (binD ixF (nameD 0) (cD (.int 0))) (consA (nameD 1) (nilA))))))) (retS (lstD (consA (cD (.str "heights")) (nilA)))) (nilS)) (seqS (ifS (unD notF (tstD (fnD m__law_are_steps 1 [] (consA (binD ixF (nameD 0) (cD (.int 0))) (nilA))))) (retS (lstD (consA (cD (.str "steps")) (nilA)))) (nilS)) (retS (brD (andD (binD (eqF) (fnD m__law_sides 1 [] (consA (binD ixF (nameD 0) (cD (.int 1))) (nilA))) (nameD 1)) (tstD (fnD m__law_are_worths 1 [] (consA (binD ixF (nameD 0) (cD (.int 1))) (nilA))))) (lstD (nilA)) (lstD (consA (cD (.str "worths")) (nilA))))))))
noncomputable def m__law_fault : DenF := cutF (ofBody 2 den__law_fault)
theorem ok__law_fault {x : Tx} {P : Program} (t : TxOk P x) {w : World} {base : Heap} (tb : Tb x base) : FnD P w x.fx x.mg base 3 x.a__law_fault x.fd__law_fault ["thing"] m__law_fault := by
  have sc := sc__law_fault
  exact FnD.cut (fn_mk (k := 2) t.F__law_fault sc rfl fun cdv A outer s H E dc => (dss_cons (ds_if (DW.dt (dw_or (dt_not (dt_v (de_callB (isiB_ok t.h_sub t.sub_cls) callr_isiAll t.m_isinstance (da_cons (de_name 0) (da_cons (de_cls t.m_tuple) da_nil))))) (dw_or1 (dt_cmp ne_ok (opr_ne dc.u64) (de_callB len_ok call_len t.m_len (da_cons (de_name 0) da_nil)) de_int (nomark _))))) (dss_one (ds_ret (de_lst (da_cons de_non da_nil)))) dss_nil) (dss_cons (ds_set 1 sc.nd (de_call (k := 1) (ps := ["thing"]) (ok__law_sides t tb) (dc.mono (by decide)) t.g__law_sides t.F__law_sides.kp t.b__law_sides .nil (fun _ _ => rfl) (da_cons (de_ix (de_name 0) de_int) da_nil))) (dss_cons (ds_if (DW.dt (dw_or (dt_cmp eq_ok (opr_eq dc.u64) (de_name 1) (de_lst da_nil) (nomark _)) (dw_or1 (dt_not (dt_v (de_call (k := 2) (ps := ["rows", "sides_v"]) (ok__law_are_numbers t tb) (dc.mono (by decide)) t.g__law_are_numbers t.F__law_are_numbers.kp t.b__law_are_numbers .nil (fun _ _ => rfl) (da_cons (de_ix (de_name 0) de_int) (da_cons (de_name 1) da_nil)))))))) (dss_one (ds_ret (de_lst (da_cons de_str da_nil)))) dss_nil) (dss_cons (ds_if (dt_not (dt_v (de_call (k := 1) (ps := ["rows"]) (ok__law_are_steps t tb) (dc.mono (by decide)) t.g__law_are_steps t.F__law_are_steps.kp t.b__law_are_steps .nil (fun _ _ => rfl) (da_cons (de_ix (de_name 0) de_int) da_nil)))) (dss_one (ds_ret (de_lst (da_cons de_str da_nil)))) dss_nil) (dss_one (ds_ret (de_ifExp (DW.dt (dw_and (dt_cmp eq_ok (opr_eq dc.u64) (de_call (k := 1) (ps := ["thing"]) (ok__law_sides t tb) (dc.mono (by decide)) t.g__law_sides t.F__law_sides.kp t.b__law_sides .nil (fun _ _ => rfl) (da_cons (de_ix (de_name 0) de_int) da_nil)) (de_name 1) (nomark _)) (dw_and1 (dt_v (de_call (k := 2) (ps := ["rows"]) (ok__law_are_worths t tb) (dc.mono (by decide)) t.g__law_are_worths t.F__law_are_worths.kp t.b__law_are_worths .nil (fun _ _ => rfl) (da_cons (de_ix (de_name 0) de_int) da_nil)))))) (de_lst da_nil) (de_lst (da_cons de_str da_nil))))))))))
noncomputable def den_is_rim_low : DenS := seqS (asgS 1 (binD addF (binD addF (callD (lstcF) (consA (binD addF (binD ixF (nameD 0) (cD (.int 0))) (binD ixF (nameD 0) (unD negF (cD (.int 1))))) (nilA))) (cutE (compD (set1 2) (cD (.bl true)) (binD ixF (nameD 2) (cD (.int 0))) [2] (itD (nameD 0))))) (cutE (compD (set1 2) (cD (.bl true)) (binD ixF (nameD 2) (unD negF (cD (.int 1)))) [2] (itD (nameD 0)))))) (retS (andD (binD (leF) (unD negF (cD (.int (35)))) (callD (minLF) (consA (nameD 1) (nilA)))) (binD (leF) (callD (maxLF) (consA (nameD 1) (nilA))) (cD (.int (35))))))
noncomputable def m_is_rim_low : DenF := cutF (ofBody 3 den_is_rim_low)
theorem ok_is_rim_low {x : Tx} {P : Program} (t : TxOk P x) {w : World} {base : Heap} (tb : Tb x base) : FnD P w x.fx x.mg base 1 x.a_is_rim_low x.fd_is_rim_low ["rows"] m_is_rim_low := by
  have sc := sc_is_rim_low
  exact FnD.cut (fn_mk (k := 0) t.F_is_rim_low sc rfl fun cdv A outer s H E dc => (dss_cons (ds_set 1 sc.nd (de_bin add_ok opr_add (de_bin add_ok opr_add (de_callTy lstc_ok callr_list t.m_list (da_cons (de_bin add_ok opr_add (de_ix (de_name 0) de_int) (de_ix (de_name 0) (de_un neg_ok un_neg de_int))) da_nil)) (de_cut (de_comp (own := [("row", 2)]) dc sc.nd (di_sq (de_name 0)) (blkOk_by (own := [("row", 2)]) (by rfl)) (fun _ _ _ _ _ => pg_name sc.nd (i := 2) rfl (by first | exact Or.inl rfl | exact Or.inr rfl) (by first | exact .inl rfl | exact .inr rfl)) (tg1 (vs := [2]) (by decide)) (fun _ _ _ _ _ _ => pts_yes) (fun _ _ _ _ _ dc => (de_ix (de_name 2) de_int))))) (de_cut (de_comp (own := [("row", 2)]) dc sc.nd (di_sq (de_name 0)) (blkOk_by (own := [("row", 2)]) (by rfl)) (fun _ _ _ _ _ => pg_name sc.nd (i := 2) rfl (by first | exact Or.inl rfl | exact Or.inr rfl) (by first | exact .inl rfl | exact .inr rfl)) (tg1 (vs := [2]) (by decide)) (fun _ _ _ _ _ _ => pts_yes) (fun _ _ _ _ _ dc => (de_ix (de_name 2) (de_un neg_ok un_neg de_int))))))) (dss_one (ds_ret (de_and (de_cmp le_ok op_le (de_un neg_ok un_neg (de_numE t.n_MOST_RIM)) (de_callB minL_ok (cr_min dc.calm) t.m_min (da_cons (de_name 1) da_nil)) (nomark _)) (de_one (de_cmp le_ok op_le (de_callB maxL_ok (cr_max dc.calm) t.m_max (da_cons (de_name 1) da_nil)) (de_numE t.n_MOST_RIM) (nomark _))))))))
noncomputable def den_are_height_rows : DenS := seqS (asgS 1 (callD (lenF) (consA (binD ixF (nameD 0) (cD (.int 0))) (nilA)))) (seqS (forI (nameG 2) (itD (nameD 0)) (seqS (ifS (orD (binD (isF true) (callD (typF) (consA (nameD 2) (nilA))) (cD (.ty "tuple"))) (binD (neF) (callD (lenF) (consA (nameD 2) (nilA))) (nameD 1))) (retS (cD (.bl false))) (nilS)) (forI (nameG 3) (itD (nameD 2)) (ifS (binD (isF true) (callD (typF) (consA (nameD 3) (nilA))) (cD (.ty "int"))) (retS (cD (.bl false))) (nilS))))) (retS (fnD m_is_rim_low 1 [] (consA (nameD 0) (nilA)))))
noncomputable def m_are_height_rows : DenF := cutF (ofBody 4 den_are_height_rows)
theorem ok_are_height_rows {x : Tx} {P : Program} (t : TxOk P x) {w : World} {base : Heap} (tb : Tb x base) : FnD P w x.fx x.mg base 2 x.a_are_height_rows x.fd_are_height_rows ["thing"] m_are_height_rows := by
  have sc := sc_are_height_rows
  exact FnD.cut (fn_mk (k := 1) t.F_are_height_rows sc rfl fun cdv A outer s H E dc => (dss_cons (ds_set 1 sc.nd (de_callB len_ok call_len t.m_len (da_cons (de_ix (de_name 0) de_int) da_nil))) (dss_cons (ds_forI dc (di_sq (de_name 0)) (dg_name 2 sc.nd) (dss_cons (ds_if (DW.dt (dw_or (dt_cmp is_ok opr_isnot (de_callTy typ_ok callr_type t.m_type (da_cons (de_name 2) da_nil)) (de_cls t.m_tuple) (nomark _)) (dw_or1 (dt_cmp ne_ok (opr_ne dc.u64) (de_callB len_ok call_len t.m_len (da_cons (de_name 2) da_nil)) (de_name 1) (nomark _))))) (dss_one (ds_ret de_bl)) dss_nil) (dss_one (ds_forI dc (di_sq (de_name 2)) (dg_name 3 sc.nd) (dss_one (ds_if (dt_cmp is_ok opr_isnot (de_callTy typ_ok callr_type t.m_type (da_cons (de_name 3) da_nil)) (de_cls t.m_int) (nomark _)) (dss_one (ds_ret de_bl)) dss_nil)))))) (dss_one (ds_ret (de_call (k := 1) (ps := ["rows"]) (ok_is_rim_low t tb) (dc.mono (by decide)) t.g_is_rim_low t.F_is_rim_low.kp t.b_is_rim_low .nil (fun _ _ => rfl) (da_cons (de_name 0) da_nil)))))))
noncomputable def den__wrong_or_steps : DenS := seqS (ifS (tstD (fnD m_are_height_rows 1 [] (consA (nameD 0) (nilA)))) (retS (cD (.str "steps"))) (nilS)) (retS (cD (.str "heights")))
noncomputable def m__wrong_or_steps : DenF := cutF (ofBody 1 den__wrong_or_steps)
theorem ok__wrong_or_steps {x : Tx} {P : Program} (t : TxOk P x) {w : World} {base : Heap} (tb : Tb x base) : FnD P w x.fx x.mg base 3 x.a__wrong_or_steps x.fd__wrong_or_steps ["thing"] m__wrong_or_steps := by
  have sc := sc__wrong_or_steps
  exact FnD.cut (fn_mk (k := 2) t.F__wrong_or_steps sc rfl fun cdv A outer s H E dc => (dss_cons (ds_if (dt_v (de_call (k := 2) (ps := ["thing"]) (ok_are_height_rows t tb) (dc.mono (by decide)) t.g_are_height_rows t.F_are_height_rows.kp t.b_are_height_rows .nil (fun _ _ => rfl) (da_cons (de_name 0) da_nil))) (dss_one (ds_ret de_str)) dss_nil) (dss_one (ds_ret de_str))))
noncomputable def den_is_side_long : DenS := retS (andD (binD (isF false) (callD (typF) (consA (nameD 0) (nilA))) (cD (.ty "tuple"))) (chainD leF leF (cD (.int 1)) (callD (lenF) (consA (nameD 0) (nilA))) (cD (.int (11)))))
noncomputable def m_is_side_long : DenF := cutF (ofBody 1 den_is_side_long)
theorem ok_is_side_long {x : Tx} {P : Program} (t : TxOk P x) {w : World} {base : Heap} (tb : Tb x base) : FnD P w x.fx x.mg base 1 x.a_is_side_long x.fd_is_side_long ["thing"] m_is_side_long := by
  have sc := sc_is_side_long
  exact FnD.cut (fn_mk (k := 0) t.F_is_side_long sc rfl fun cdv A outer s H E dc => (dss_one (ds_ret (de_and (de_cmp is_ok opr_is (de_callTy typ_ok callr_type t.m_type (da_cons (de_name 0) da_nil)) (de_cls t.m_tuple) (nomark _)) (de_one (de_chain le_ok op_le le_ok op_le truths_int de_int (de_callB len_ok call_len t.m_len (da_cons (de_name 0) da_nil)) (de_numE t.n_MOST_SIDE)))))))
noncomputable def den_are_steps_beside : DenS := seqS (asgS 1 (binD subF (binD ixF (nameD 0) (cD (.int 0))) (cD (.int 1)))) (seqS (forI (nameG 2) (itD (nameD 0)) (seqS (ifS (orD (binD (isF true) (callD (typF) (consA (nameD 2) (nilA))) (cD (.ty "int"))) (binD (inF true) (binD subF (nameD 2) (nameD 1)) (tupD (consA (cD (.int 1)) (consA (unD negF (cD (.int 1))) (nilA)))))) (retS (cD (.bl false))) (nilS)) (asgS 1 (nameD 2)))) (retS (cD (.bl true))))
noncomputable def m_are_steps_beside : DenF := cutF (ofBody 3 den_are_steps_beside)
theorem ok_are_steps_beside {x : Tx} {P : Program} (t : TxOk P x) {w : World} {base : Heap} (tb : Tb x base) : FnD P w x.fx x.mg base 1 x.a_are_steps_beside x.fd_are_steps_beside ["row"] m_are_steps_beside := by
  have sc := sc_are_steps_beside
  exact FnD.cut (fn_mk (k := 0) t.F_are_steps_beside sc rfl fun cdv A outer s H E dc => (dss_cons (ds_set 1 sc.nd (de_bin sub_ok op_sub (de_ix (de_name 0) de_int) de_int)) (dss_cons (ds_forI dc (di_sq (de_name 0)) (dg_name 2 sc.nd) (dss_cons (ds_if (DW.dt (dw_or (dt_cmp is_ok opr_isnot (de_callTy typ_ok callr_type t.m_type (da_cons (de_name 2) da_nil)) (de_cls t.m_int) (nomark _)) (dw_or1 (dt_cmp in_ok op_notIn_seq (de_bin sub_ok op_sub (de_name 2) (de_name 1)) (de_tup (da_cons de_int (da_cons (de_un neg_ok un_neg de_int) da_nil))) rfl)))) (dss_one (ds_ret de_bl)) dss_nil) (dss_one (ds_set 1 sc.nd (de_name 2))))) (dss_one (ds_ret de_bl)))))
noncomputable def den_wrong_with_heights : DenS := seqS (ifS (orD (unD notF (tstD (fnD m_is_side_long 1 [] (consA (nameD 0) (nilA))))) (unD notF (tstD (fnD m_is_side_long 1 [] (consA (binD ixF (nameD 0) (cD (.int 0))) (nilA)))))) (retS (cD (.str "heights"))) (nilS)) (seqS (asgS 1 (binD ixF (binD ixF (nameD 0) (cD (.int 0))) (cD (.int 0)))) (seqS (ifS (orD (binD (isF true) (callD (typF) (consA (nameD 1) (nilA))) (cD (.ty "int"))) (orD (binD (eqF) (binD fmodF (nameD 1) (cD (.int 2))) (cD (.int 1))) (unD notF (tstD (fnD m_are_steps_beside 1 [] (consA (binD ixF (nameD 0) (cD (.int 0))) (nilA))))))) (retS (fnD m__wrong_or_steps 1 [] (consA (nameD 0) (nilA)))) (nilS)) (seqS (asgS 2 (callD (lenF) (consA (binD ixF (nameD 0) (cD (.int 0))) (nilA)))) (seqS (asgS 3 (binD ixF (nameD 0) (cD (.int 0)))) (seqS (forI (nameG 4) (itD (slpD (nameD 0) (someO (cD (.int 1))) (noneO) (noneO))) (seqS (ifS (orD (binD (isF true) (callD (typF) (consA (nameD 4) (nilA))) (cD (.ty "tuple"))) (binD (neF) (callD (lenF) (consA (nameD 4) (nilA))) (nameD 2))) (retS (cD (.str "heights"))) (nilS)) (seqS (asgS 5 (binD ixF (nameD 3) (cD (.int 0)))) (seqS (forI (tupG 2 (consG (nameG 6) (consG (nameG 7) (nilG)))) (zipD (consA (nameD 4) (consA (nameD 3) nilA))) (seqS (ifS (binD (isF true) (callD (typF) (consA (nameD 6) (nilA))) (cD (.ty "int"))) (retS (cD (.str "heights"))) (nilS)) (seqS (ifS (binD (inF true) (binD mulF (binD subF (nameD 6) (nameD 5)) (binD subF (nameD 6) (nameD 7))) (tupD (consA (cD (.int 1)) (consA (unD negF (cD (.int 1))) (nilA))))) (retS (fnD m__wrong_or_steps 1 [] (consA (nameD 0) (nilA)))) (nilS)) (asgS 5 (nameD 6))))) (asgS 3 (nameD 4)))))) (seqS (ifS (orD (binD (leF) (binD subF (binD addF (binD addF (callD (absF) (consA (nameD 1) (nilA))) (nameD 2)) (callD (lenF) (consA (nameD 0) (nilA)))) (cD (.int 2))) (cD (.int (35)))) (tstD (fnD m_is_rim_low 1 [] (consA (nameD 0) (nilA))))) (retS (cD .non)) (nilS)) (retS (cD (.str "heights")))))))))
noncomputable def m_wrong_with_heights : DenF := cutF (ofBody 8 den_wrong_with_heights)
theorem ok_wrong_with_heights {x : Tx} {P : Program} (t : TxOk P x) {w : World} {base : Heap} (tb : Tb x base) : FnD P w x.fx x.mg base 4 x.a_wrong_with_heights x.fd_wrong_with_heights ["thing"] m_wrong_with_heights := by
  have sc := sc_wrong_with_heights
  exact FnD.cut (fn_mk (k := 3) t.F_wrong_with_heights sc rfl fun cdv A outer s H E dc => (dss_cons (ds_if (DW.dt (dw_or (dt_not (dt_v (de_call (k := 1) (ps := ["thing"]) (ok_is_side_long t tb) (dc.mono (by decide)) t.g_is_side_long t.F_is_side_long.kp t.b_is_side_long .nil (fun _ _ => rfl) (da_cons (de_name 0) da_nil)))) (dw_or1 (dt_not (dt_v (de_call (k := 1) (ps := ["thing"]) (ok_is_side_long t tb) (dc.mono (by decide)) t.g_is_side_long t.F_is_side_long.kp t.b_is_side_long .nil (fun _ _ => rfl) (da_cons (de_ix (de_name 0) de_int) da_nil))))))) (dss_one (ds_ret de_str)) dss_nil) (dss_cons (ds_set 1 sc.nd (de_ix (de_ix (de_name 0) de_int) de_int)) (dss_cons (ds_if (DW.dt (dw_or (dt_cmp is_ok opr_isnot (de_callTy typ_ok callr_type t.m_type (da_cons (de_name 1) da_nil)) (de_cls t.m_int) (nomark _)) (dw_or (dt_cmp eq_ok (opr_eq dc.u64) (de_bin fmod_ok op_modN (de_name 1) de_int) de_int (nomark _)) (dw_or1 (dt_not (dt_v (de_call (k := 1) (ps := ["row"]) (ok_are_steps_beside t tb) (dc.mono (by decide)) t.g_are_steps_beside t.F_are_steps_beside.kp t.b_are_steps_beside .nil (fun _ _ => rfl) (da_cons (de_ix (de_name 0) de_int) da_nil)))))))) (dss_one (ds_ret (de_call (k := 3) (ps := ["thing"]) (ok__wrong_or_steps t tb) (dc.mono (by decide)) t.g__wrong_or_steps t.F__wrong_or_steps.kp t.b__wrong_or_steps .nil (fun _ _ => rfl) (da_cons (de_name 0) da_nil)))) dss_nil) (dss_cons (ds_set 2 sc.nd (de_callB len_ok call_len t.m_len (da_cons (de_ix (de_name 0) de_int) da_nil))) (dss_cons (ds_set 3 sc.nd (de_ix (de_name 0) de_int)) (dss_cons (ds_forI dc (di_sq (de_slp (de_name 0) (do_so de_int) do_no do_no)) (dg_name 4 sc.nd) (dss_cons (ds_if (DW.dt (dw_or (dt_cmp is_ok opr_isnot (de_callTy typ_ok callr_type t.m_type (da_cons (de_name 4) da_nil)) (de_cls t.m_tuple) (nomark _)) (dw_or1 (dt_cmp ne_ok (opr_ne dc.u64) (de_callB len_ok call_len t.m_len (da_cons (de_name 4) da_nil)) (de_name 2) (nomark _))))) (dss_one (ds_ret de_str)) dss_nil) (dss_cons (ds_set 5 sc.nd (de_ix (de_name 3) de_int)) (dss_cons (ds_forI dc (di_zip t.m_zip (de_name 4) (de_name 3)) (dg_tup dc.calm (dgs_cons (dg_name 6 sc.nd) (dgs_cons (dg_name 7 sc.nd) dgs_nil))) (dss_cons (ds_if (dt_cmp is_ok opr_isnot (de_callTy typ_ok callr_type t.m_type (da_cons (de_name 6) da_nil)) (de_cls t.m_int) (nomark _)) (dss_one (ds_ret de_str)) dss_nil) (dss_cons (ds_if (dt_cmp in_ok op_notIn_seq (de_bin mul_ok opr_mul (de_bin sub_ok op_sub (de_name 6) (de_name 5)) (de_bin sub_ok op_sub (de_name 6) (de_name 7))) (de_tup (da_cons de_int (da_cons (de_un neg_ok un_neg de_int) da_nil))) rfl) (dss_one (ds_ret (de_call (k := 3) (ps := ["thing"]) (ok__wrong_or_steps t tb) (dc.mono (by decide)) t.g__wrong_or_steps t.F__wrong_or_steps.kp t.b__wrong_or_steps .nil (fun _ _ => rfl) (da_cons (de_name 0) da_nil)))) dss_nil) (dss_one (ds_set 5 sc.nd (de_name 6)))))) (dss_one (ds_set 3 sc.nd (de_name 4))))))) (dss_cons (ds_if (DW.dt (dw_or (dt_cmp le_ok op_le (de_bin sub_ok op_sub (de_bin add_ok opr_add (de_bin add_ok opr_add (de_callB abs_ok call_abs t.m_abs (da_cons (de_name 1) da_nil)) (de_name 2)) (de_callB len_ok call_len t.m_len (da_cons (de_name 0) da_nil))) de_int) (de_numE t.n_MOST_RIM) (nomark _)) (dw_or1 (dt_v (de_call (k := 1) (ps := ["rows"]) (ok_is_rim_low t tb) (dc.mono (by decide)) t.g_is_rim_low t.F_is_rim_low.kp t.b_is_rim_low .nil (fun _ _ => rfl) (da_cons (de_name 0) da_nil)))))) (dss_one (ds_ret de_non)) dss_nil) (dss_one (ds_ret de_str))))))))))
noncomputable def den_is_tuple_of : DenS := retS (andD (binD (isF false) (callD (typF) (consA (nameD 0) (nilA))) (cD (.ty "tuple"))) (binD (eqF) (callD (lenF) (consA (nameD 0) (nilA))) (nameD 1)))
noncomputable def m_is_tuple_of : DenF := cutF (ofBody 2 den_is_tuple_of)
theorem ok_is_tuple_of {x : Tx} {P : Program} (t : TxOk P x) {w : World} {base : Heap} (tb : Tb x base) : FnD P w x.fx x.mg base 1 x.a_is_tuple_of x.fd_is_tuple_of ["thing", "many"] m_is_tuple_of := by
  have sc := sc_is_tuple_of
  exact FnD.cut (fn_mk (k := 0) t.F_is_tuple_of sc rfl fun cdv A outer s H E dc => (dss_one (ds_ret (de_and (de_cmp is_ok opr_is (de_callTy typ_ok callr_type t.m_type (da_cons (de_name 0) da_nil)) (de_cls t.m_tuple) (nomark _)) (de_one (de_cmp eq_ok (opr_eq dc.u64) (de_callB len_ok call_len t.m_len (da_cons (de_name 0) da_nil)) (de_name 1) (nomark _)))))))
noncomputable def den_are_worth_rows : DenS := seqS (asgG (nameD 1) (tupG 2 (consG (nameG 2) (consG (nameG 3) (nilG))))) (seqS (ifS (unD notF (tstD (fnD m_is_tuple_of 2 [] (consA (nameD 0) (consA (nameD 3) (nilA)))))) (retS (cD (.bl false))) (nilS)) (seqS (forI (nameG 4) (itD (nameD 0)) (seqS (ifS (orD (binD (isF true) (callD (typF) (consA (nameD 4) (nilA))) (cD (.ty "tuple"))) (binD (neF) (callD (lenF) (consA (nameD 4) (nilA))) (nameD 2))) (retS (cD (.bl false))) (nilS)) (forI (nameG 5) (itD (nameD 4)) (seqS (ifS (orD (binD (isF true) (callD (typF) (consA (nameD 5) (nilA))) (cD (.ty "tuple"))) (binD (neF) (callD (lenF) (consA (nameD 5) (nilA))) (cD (.int 2)))) (retS (cD (.bl false))) (nilS)) (seqS (asgG (nameD 5) (tupG 2 (consG (nameG 6) (consG (nameG 7) (nilG))))) (seqS (ifS (orD (binD (isF true) (callD (typF) (consA (nameD 6) (nilA))) (cD (.ty "int"))) (binD (isF true) (callD (typF) (consA (nameD 7) (nilA))) (cD (.ty "int")))) (retS (cD (.bl false))) (nilS)) (ifS (binD (eqF) (nameD 7) (cD (.int 1))) (ifS (binD (eqF) (nameD 6) (cD (.int 0))) (retS (cD (.bl false))) (nilS)) (ifS (orD (binD (ltF) (nameD 7) (cD (.int 1))) (binD (neF) (callD gcdF (consA (nameD 6) (consA (nameD 7) (nilA)))) (cD (.int 1)))) (retS (cD (.bl false))) (nilS))))))))) (retS (cD (.bl true)))))
noncomputable def m_are_worth_rows : DenF := cutF (ofBody 8 den_are_worth_rows)
theorem ok_are_worth_rows {x : Tx} {P : Program} (t : TxOk P x) {w : World} {base : Heap} (tb : Tb x base) : FnD P w x.fx x.mg base 2 x.a_are_worth_rows x.fd_are_worth_rows ["thing", "size"] m_are_worth_rows := by
  have sc := sc_are_worth_rows
  exact FnD.cut (fn_mk (k := 1) t.F_are_worth_rows sc rfl fun cdv A outer s H E dc => (dss_cons (ds_asg (de_name 1) (dg_tup dc.calm (dgs_cons (dg_name 2 sc.nd) (dgs_cons (dg_name 3 sc.nd) dgs_nil)))) (dss_cons (ds_if (dt_not (dt_v (de_call (k := 1) (ps := ["thing", "many"]) (ok_is_tuple_of t tb) (dc.mono (by decide)) t.g_is_tuple_of t.F_is_tuple_of.kp t.b_is_tuple_of .nil (fun _ _ => rfl) (da_cons (de_name 0) (da_cons (de_name 3) da_nil))))) (dss_one (ds_ret de_bl)) dss_nil) (dss_cons (ds_forI dc (di_sq (de_name 0)) (dg_name 4 sc.nd) (dss_cons (ds_if (DW.dt (dw_or (dt_cmp is_ok opr_isnot (de_callTy typ_ok callr_type t.m_type (da_cons (de_name 4) da_nil)) (de_cls t.m_tuple) (nomark _)) (dw_or1 (dt_cmp ne_ok (opr_ne dc.u64) (de_callB len_ok call_len t.m_len (da_cons (de_name 4) da_nil)) (de_name 2) (nomark _))))) (dss_one (ds_ret de_bl)) dss_nil) (dss_one (ds_forI dc (di_sq (de_name 4)) (dg_name 5 sc.nd) (dss_cons (ds_if (DW.dt (dw_or (dt_cmp is_ok opr_isnot (de_callTy typ_ok callr_type t.m_type (da_cons (de_name 5) da_nil)) (de_cls t.m_tuple) (nomark _)) (dw_or1 (dt_cmp ne_ok (opr_ne dc.u64) (de_callB len_ok call_len t.m_len (da_cons (de_name 5) da_nil)) de_int (nomark _))))) (dss_one (ds_ret de_bl)) dss_nil) (dss_cons (ds_asg (de_name 5) (dg_tup dc.calm (dgs_cons (dg_name 6 sc.nd) (dgs_cons (dg_name 7 sc.nd) dgs_nil)))) (dss_cons (ds_if (DW.dt (dw_or (dt_cmp is_ok opr_isnot (de_callTy typ_ok callr_type t.m_type (da_cons (de_name 6) da_nil)) (de_cls t.m_int) (nomark _)) (dw_or1 (dt_cmp is_ok opr_isnot (de_callTy typ_ok callr_type t.m_type (da_cons (de_name 7) da_nil)) (de_cls t.m_int) (nomark _))))) (dss_one (ds_ret de_bl)) dss_nil) (dss_one (ds_if (dt_cmp eq_ok (opr_eq dc.u64) (de_name 7) de_int (nomark _)) (dss_one (ds_if (dt_cmp eq_ok (opr_eq dc.u64) (de_name 6) de_int (nomark _)) (dss_one (ds_ret de_bl)) dss_nil)) (dss_one (ds_if (DW.dt (dw_or (dt_cmp lt_ok op_lt (de_name 7) de_int (nomark _)) (dw_or1 (dt_cmp ne_ok (opr_ne dc.u64) (de_callG gcd_ok cr_gcd t.m_gcd (da_cons (de_name 6) (da_cons (de_name 7) da_nil))) de_int (nomark _))))) (dss_one (ds_ret de_bl)) dss_nil))))))))))) (dss_one (ds_ret de_bl))))))
noncomputable def den_sides : DenS := retS (tupD (consA (callD (lenF) (consA (binD ixF (nameD 0) (cD (.int 0))) (nilA))) (consA (callD (lenF) (consA (nameD 0) (nilA))) (nilA))))
noncomputable def m_sides : DenF := cutF (ofBody 1 den_sides)
theorem ok_sides {x : Tx} {P : Program} (t : TxOk P x) {w : World} {base : Heap} (tb : Tb x base) : FnD P w x.fx x.mg base 1 x.a_sides x.fd_sides ["rows"] m_sides := by
  have sc := sc_sides
  exact FnD.cut (fn_mk (k := 0) t.F_sides sc rfl fun cdv A outer s H E dc => (dss_one (ds_ret (de_tup (da_cons (de_callB len_ok call_len t.m_len (da_cons (de_ix (de_name 0) de_int) da_nil)) (da_cons (de_callB len_ok call_len t.m_len (da_cons (de_name 0) da_nil)) da_nil))))))
noncomputable def den_need_field : DenS := seqS (ifS (unD notF (tstD (fnD m_is_tuple_of 2 [] (consA (nameD 0) (consA (cD (.int 2)) (nilA)))))) (raiseF "BadField" "place" (cD .non)) (nilS)) (seqS (asgG (nameD 0) (tupG 2 (consG (nameG 1) (consG (nameG 2) (nilG))))) (seqS (asgS 3 (fnD m_wrong_with_heights 1 [] (consA (nameD 1) (nilA)))) (seqS (ifS (binD (isF true) (nameD 3) (cD .non)) (raiseF "BadField" "place" (nameD 3)) (nilS)) (ifS (unD notF (tstD (fnD m_are_worth_rows 2 [] (consA (nameD 2) (consA (fnD m_sides 1 [] (consA (nameD 1) (nilA))) (nilA)))))) (raiseF "BadField" "place" (cD (.str "worths"))) (nilS)))))
noncomputable def m_need_field : DenF := cutF (ofBody 4 den_need_field)
theorem ok_need_field {x : Tx} {P : Program} (t : TxOk P x) {w : World} {base : Heap} (tb : Tb x base) : FnD P w x.fx x.mg base 5 x.a_need_field x.fd_need_field ["thing"] m_need_field := by
  have sc := sc_need_field
  exact FnD.cut (fn_mk (k := 4) t.F_need_field sc rfl fun cdv A outer s H E dc => (dss_cons (ds_if (dt_not (dt_v (de_call (k := 1) (ps := ["thing", "many"]) (ok_is_tuple_of t tb) (dc.mono (by decide)) t.g_is_tuple_of t.F_is_tuple_of.kp t.b_is_tuple_of .nil (fun _ _ => rfl) (da_cons (de_name 0) (da_cons de_int da_nil))))) (dss_one (ds_raiseF "BadField" (dc.mono (j := 1) (by decide)) t.h_cl_BadField (t.cg_BadField _) de_non)) dss_nil) (dss_cons (ds_asg (de_name 0) (dg_tup dc.calm (dgs_cons (dg_name 1 sc.nd) (dgs_cons (dg_name 2 sc.nd) dgs_nil)))) (dss_cons (ds_set 3 sc.nd (de_call (k := 4) (ps := ["thing"]) (ok_wrong_with_heights t tb) (dc.mono (by decide)) t.g_wrong_with_heights t.F_wrong_with_heights.kp t.b_wrong_with_heights .nil (fun _ _ => rfl) (da_cons (de_name 1) da_nil))) (dss_cons (ds_if (dt_cmp is_ok opr_isnot (de_name 3) de_non (nomark _)) (dss_one (ds_raiseF "BadField" (dc.mono (j := 1) (by decide)) t.h_cl_BadField (t.cg_BadField _) (de_name 3))) dss_nil) (dss_one (ds_if (dt_not (dt_v (de_call (k := 2) (ps := ["thing", "size"]) (ok_are_worth_rows t tb) (dc.mono (by decide)) t.g_are_worth_rows t.F_are_worth_rows.kp t.b_are_worth_rows .nil (fun _ _ => rfl) (da_cons (de_name 2) (da_cons (de_call (k := 1) (ps := ["rows"]) (ok_sides t tb) (dc.mono (by decide)) t.g_sides t.F_sides.kp t.b_sides .nil (fun _ _ => rfl) (da_cons (de_name 1) da_nil)) da_nil))))) (dss_one (ds_raiseF "BadField" (dc.mono (j := 1) (by decide)) t.h_cl_BadField (t.cg_BadField _) de_str)) dss_nil)))))))
noncomputable def den_is_field : DenS := seqS (tryS0 catT_BadField (dropS (fnD m_need_field 1 [] (consA (nameD 0) (nilA)))) (retS (cD (.bl false)))) (retS (cD (.bl true)))
noncomputable def m_is_field : DenF := cutF (ofBody 1 den_is_field)
theorem ok_is_field {x : Tx} {P : Program} (t : TxOk P x) {w : World} {base : Heap} (tb : Tb x base) : FnD P w x.fx x.mg base 6 x.a_is_field x.fd_is_field ["thing"] m_is_field := by
  have sc := sc_is_field
  exact FnD.cut (fn_mk (k := 5) t.F_is_field sc rfl fun cdv A outer s H E dc => (dss_cons (ds_try0 catT_BadField dc rfl rfl rfl (cla_name (c := .ref x.C_BadField) (ct := x.cv_BadField) ⟨rfl, rfl, .inl t.g_BadField⟩ (fun _ => of_decide_eq_true)) t.hcat_BadField (fun W1 pn1 xe1 dc => (dss_one (ds_expr (de_call (k := 5) (ps := ["thing"]) (ok_need_field t tb) (dc.mono (by decide)) t.g_need_field t.F_need_field.kp t.b_need_field .nil (fun _ _ => rfl) (da_cons (de_name 0) da_nil))))) (fun a1 pn1 => (dss_one (ds_ret de_bl)))) (dss_one (ds_ret de_bl))))
noncomputable def den__law_asked (cl : D) (cden : Store → RE) : DenS := seqS (asgG (tupD (consA (cD .non) (consA (cD .non) (nilA)))) (tupG 2 (consG (nameG 1) (consG (nameG 2) (nilG))))) (seqS (tryS 3 catT (asgS 2 (callC 0 cl cden)) (asgS 1 (nameD 3))) (seqS (ifS (binD (isF false) (nameD 1) (cD .non)) (retS (lstD (consA (nameD 2) (nilA)))) (nilS)) (seqS (ownS 4 (consA (tupD (consA (cD (.str "field")) (consA (callD (isiB subT) (consA (nameD 1) (consA (cD (.cls "BadField")) (nilA)))) (nilA)))) (consA (tupD (consA (cD (.str "fraction")) (consA (callD (isiB subT) (consA (nameD 1) (consA (cD (.cls "BadFraction")) (nilA)))) (nilA)))) (nilA)))) (seqS (ownAddS 4 (nameD 4) (lstD (consA (tupD (consA (cD (.str "rule")) (consA (callD (isiB subT) (consA (nameD 1) (consA (cD (.cls "BadRule")) (nilA)))) (nilA)))) (consA (tupD (consA (cD (.str "spot")) (consA (callD (isiB subT) (consA (nameD 1) (consA (cD (.cls "BadSpot")) (nilA)))) (nilA)))) (nilA))))) (seqS (ownAddS 4 (nameD 4) (lstD (consA (tupD (consA (cD (.str "target")) (consA (callD (isiB subT) (consA (nameD 1) (consA (cD (.cls "BadTarget")) (nilA)))) (nilA)))) (consA (tupD (consA (cD (.str "row")) (consA (callD (isiB subT) (consA (nameD 1) (consA (cD (.cls "BadRow")) (nilA)))) (nilA)))) (nilA))))) (seqS (appS (nameD 4) (tupD (consA (cD (.str "heights")) (consA (callD (isiB subT) (consA (nameD 1) (consA (cD (.cls "BadHeights")) (nilA)))) (nilA))))) (seqS (appS (nameD 4) (tupD (consA (cD (.str "great")) (consA (callD (isiB subT) (consA (nameD 1) (consA (cD (.cls "TooGreat")) (nilA)))) (nilA))))) (seqS (ownAddS 4 (nameD 4) (lstD (consA (tupD (consA (cD (.str "hollow")) (consA (callD (isiB subT) (consA (nameD 1) (consA (cD (.cls "NoHollow")) (nilA)))) (nilA)))) (consA (tupD (consA (cD (.str "peak")) (consA (callD (isiB subT) (consA (nameD 1) (consA (cD (.cls "NoPeak")) (nilA)))) (nilA)))) (nilA))))) (seqS (ownAddS 4 (nameD 4) (lstD (consA (tupD (consA (cD (.str "nought")) (consA (callD (isiB subT) (consA (nameD 1) (consA (cD (.cls "Nought")) (nilA)))) (nilA)))) (consA (tupD (consA (cD (.str "gone")) (consA (callD (isiB subT) (consA (nameD 1) (consA (cD (.cls "Gone")) (nilA)))) (nilA)))) (nilA))))) (seqS (appS (nameD 4) (tupD (consA (cD (.str "pairing")) (consA (callD (isiB subT) (consA (nameD 1) (consA (tupD (consA (cD (.cls "BadPairing")) (consA (cD (.cls "BadPaper")) (consA (cD (.cls "BadCoin")) (consA (cD (.cls "TooFew")) (consA (cD (.cls "BadText")) (nilA))))))) (nilA)))) (nilA))))) (seqS (asgS 5 (cutE (compD (set2 9 8) (tstD (nameD 8)) (nameD 9) [8, 9] (itD (nameD 4))))) (seqS (ownS 6 (consA (callD (isiB subT) (consA (nameD 1) (consA (cD (.ty "ValueError")) (nilA)))) (consA (callD (isiB subT) (consA (nameD 1) (consA (cD (.ty "RuntimeError")) (nilA)))) (nilA)))) (seqS (ownS 7 (consA (callD (isiB subT) (consA (nameD 1) (consA (cD (.cls "HollowError")) (nilA)))) (consA (callD (isiB subT) (consA (nameD 1) (consA (cD (.cls "DeedError")) (nilA)))) (nilA)))) (seqS (appS (nameD 6) (callD (isiB subT) (consA (nameD 1) (consA (cD (.ty "LookupError")) (nilA))))) (seqS (appS (nameD 7) (callD (isiB subT) (consA (nameD 1) (consA (cD (.cls "BookError")) (nilA))))) (seqS (ifS (orD (binD (neF) (callD (lenF) (consA (nameD 5) (nilA))) (cD (.int 1))) (orD (binD (neF) (nameD 6) (nameD 7)) (binD (neF) (cntD (nameD 7) (cD (.bl true))) (cD (.int 1))))) (retS (cD (.str "several"))) (nilS)) (seqS (ifS (binD (inF false) (binD ixF (nameD 5) (cD (.int 0))) (tupD (consA (cD (.str "hollow")) (consA (cD (.str "peak")) (consA (cD (.str "nought")) (nilA)))))) (retS (tupD (consA (binD ixF (nameD 5) (cD (.int 0))) (consA (unD (fldF ok_fld_spot "spot") (nameD 1)) (nilA))))) (nilS)) (seqS (ifS (binD (eqF) (binD ixF (nameD 5) (cD (.int 0))) (cD (.str "field"))) (retS (tupD (consA (cD (.str "field")) (consA (unD (fldF ok_fld_place "place") (nameD 1)) (nilA))))) (nilS)) (seqS (ifS (binD (eqF) (binD ixF (nameD 5) (cD (.int 0))) (cD (.str "great"))) (retS (tupD (consA (cD (.str "great")) (consA (unD (fldF ok_fld_most "most") (nameD 1)) (nilA))))) (nilS)) (retS (brD (binD (eqF) (binD ixF (nameD 5) (cD (.int 0))) (cD (.str "row"))) (tupD (consA (cD (.str "row")) (consA (unD (fldF ok_fld_number "number") (nameD 1)) (nilA)))) (binD ixF (nameD 5) (cD (.int 0))))))))))))))))))))))))
theorem ok__law_asked {x : Tx} {P : Program} (t : TxOk P x) {w : World} {base : Heap} {A : Around} {stk : List PySem.Env} {s : Shared} {H : Hp} {cdg : Value} {k : Nat} (cl : D) (cden : Store → RE) (dc : Dc (cxOf (L2.CX P w) P w x.fx.K x.mg base ["deed", "wrong", "found", "error", "some", "words", "kinds", "own", "is_it", "word"] "_law_asked" (defScope s__law_asked) x.a__law_asked cdg A stk s H E0) (fun cls d _ H => E0 cls d H) k)
    (act : ∀ (W1 : WX) (pn : List (Addr × Obj)) (xe : Value → Shared → Prop) (p1 p2 : Pos), Dc ((cxOf (L2.CX P w) P w x.fx.K x.mg base ["deed", "wrong", "found", "error", "some", "words", "kinds", "own", "is_it", "word"] "_law_asked" (defScope s__law_asked) x.a__law_asked cdg A stk s H E0).tr pn xe) W1 k → DE x.fx ((cxOf (L2.CX P w) P w x.fx.K x.mg base ["deed", "wrong", "found", "error", "some", "words", "kinds", "own", "is_it", "word"] "_law_asked" (defScope s__law_asked) x.a__law_asked cdg A stk s H E0).tr pn xe) W1 (.Call (.Name "deed" p1) [] [] p2) (callC 0 cl cden)) :
    DSs x.fx (cxOf (L2.CX P w) P w x.fx.K x.mg base ["deed", "wrong", "found", "error", "some", "words", "kinds", "own", "is_it", "word"] "_law_asked" (defScope s__law_asked) x.a__law_asked cdg A stk s H E0) (fun cls d _ H => E0 cls d H) (defBody s__law_asked) (den__law_asked cl cden) := by
  have sc := sc__law_asked
  exact (dss_cons (ds_asg (de_tup (da_cons de_non (da_cons de_non da_nil))) (dg_tup dc.calm (dgs_cons (dg_name 1 sc.nd) (dgs_cons (dg_name 2 sc.nd) dgs_nil)))) (dss_cons (ds_try 3 catT dc rfl rfl rfl sc.nd rfl rfl (cla_tup3 (ct := x.cv) ⟨rfl, t.g_HollowError⟩ ⟨rfl, t.g_DeedError⟩ ⟨rfl, t.g_BookError⟩ (fun _ => of_decide_eq_true)) t.hcat (fun W1 pn1 xe1 d1 => (dss_one (ds_set 2 sc.nd (act W1 pn1 xe1 _ _ d1)))) (fun a1 pn1 => (dss_one (ds_set 1 sc.nd (de_name 3))))) (dss_cons (ds_if (dt_cmp is_ok opr_is (de_name 1) de_non (nomark _)) (dss_one (ds_ret (de_lst (da_cons (de_name 2) da_nil)))) dss_nil) (dss_cons (ds_own 4 sc.nd (da_cons (de_tup (da_cons de_str (da_cons (de_callB (isiB_ok t.h_sub t.sub_cls) callr_isiAll t.m_isinstance (da_cons (de_name 1) (da_cons (de_own "BadField" (t.h_cl_BadField) t.g_BadField) da_nil))) da_nil))) (da_cons (de_tup (da_cons de_str (da_cons (de_callB (isiB_ok t.h_sub t.sub_cls) callr_isiAll t.m_isinstance (da_cons (de_name 1) (da_cons (de_own "BadFraction" (t.h_cl_BadFraction) t.g_BadFraction) da_nil))) da_nil))) da_nil))) (dss_cons (ds_ownAdd 4 sc.nd (de_name 4) (de_lst (da_cons (de_tup (da_cons de_str (da_cons (de_callB (isiB_ok t.h_sub t.sub_cls) callr_isiAll t.m_isinstance (da_cons (de_name 1) (da_cons (de_own "BadRule" (t.h_cl_BadRule) t.g_BadRule) da_nil))) da_nil))) (da_cons (de_tup (da_cons de_str (da_cons (de_callB (isiB_ok t.h_sub t.sub_cls) callr_isiAll t.m_isinstance (da_cons (de_name 1) (da_cons (de_own "BadSpot" (t.h_cl_BadSpot) t.g_BadSpot) da_nil))) da_nil))) da_nil)))) (dss_cons (ds_ownAdd 4 sc.nd (de_name 4) (de_lst (da_cons (de_tup (da_cons de_str (da_cons (de_callB (isiB_ok t.h_sub t.sub_cls) callr_isiAll t.m_isinstance (da_cons (de_name 1) (da_cons (de_own "BadTarget" (t.h_cl_BadTarget) t.g_BadTarget) da_nil))) da_nil))) (da_cons (de_tup (da_cons de_str (da_cons (de_callB (isiB_ok t.h_sub t.sub_cls) callr_isiAll t.m_isinstance (da_cons (de_name 1) (da_cons (de_own "BadRow" (t.h_cl_BadRow) t.g_BadRow) da_nil))) da_nil))) da_nil)))) (dss_cons (ds_app (de_name 4) (de_tup (da_cons de_str (da_cons (de_callB (isiB_ok t.h_sub t.sub_cls) callr_isiAll t.m_isinstance (da_cons (de_name 1) (da_cons (de_own "BadHeights" (t.h_cl_BadHeights) t.g_BadHeights) da_nil))) da_nil)))) (dss_cons (ds_app (de_name 4) (de_tup (da_cons de_str (da_cons (de_callB (isiB_ok t.h_sub t.sub_cls) callr_isiAll t.m_isinstance (da_cons (de_name 1) (da_cons (de_own "TooGreat" (t.h_cl_TooGreat) t.g_TooGreat) da_nil))) da_nil)))) (dss_cons (ds_ownAdd 4 sc.nd (de_name 4) (de_lst (da_cons (de_tup (da_cons de_str (da_cons (de_callB (isiB_ok t.h_sub t.sub_cls) callr_isiAll t.m_isinstance (da_cons (de_name 1) (da_cons (de_own "NoHollow" (t.h_cl_NoHollow) t.g_NoHollow) da_nil))) da_nil))) (da_cons (de_tup (da_cons de_str (da_cons (de_callB (isiB_ok t.h_sub t.sub_cls) callr_isiAll t.m_isinstance (da_cons (de_name 1) (da_cons (de_own "NoPeak" (t.h_cl_NoPeak) t.g_NoPeak) da_nil))) da_nil))) da_nil)))) (dss_cons (ds_ownAdd 4 sc.nd (de_name 4) (de_lst (da_cons (de_tup (da_cons de_str (da_cons (de_callB (isiB_ok t.h_sub t.sub_cls) callr_isiAll t.m_isinstance (da_cons (de_name 1) (da_cons (de_own "Nought" (t.h_cl_Nought) t.g_Nought) da_nil))) da_nil))) (da_cons (de_tup (da_cons de_str (da_cons (de_callB (isiB_ok t.h_sub t.sub_cls) callr_isiAll t.m_isinstance (da_cons (de_name 1) (da_cons (de_own "Gone" (t.h_cl_Gone) t.g_Gone) da_nil))) da_nil))) da_nil)))) (dss_cons (ds_app (de_name 4) (de_tup (da_cons de_str (da_cons (de_callB (isiB_ok t.h_sub t.sub_cls) callr_isiAll t.m_isinstance (da_cons (de_name 1) (da_cons (de_tup (da_cons (de_own "BadPairing" (t.h_cl_BadPairing) t.g_BadPairing) (da_cons (de_own "BadPaper" (t.h_cl_BadPaper) t.g_BadPaper) (da_cons (de_own "BadCoin" (t.h_cl_BadCoin) t.g_BadCoin) (da_cons (de_own "TooFew" (t.h_cl_TooFew) t.g_TooFew) (da_cons (de_own "BadText" (t.h_cl_BadText) t.g_BadText) da_nil)))))) da_nil))) da_nil)))) (dss_cons (DSet.ds (DSet.cut (dset_comp 5 (own := [("is_it", 8), ("word", 9)]) dc sc.nd (di_sq (de_name 4)) (blkOk_by (own := [("is_it", 8), ("word", 9)]) (by rfl)) (fun _ _ _ _ _ => pg_tup (by exact dc.calm) (pgs_cons (pg_name sc.nd (i := 9) rfl (by first | exact Or.inl rfl | exact Or.inr rfl) (by first | exact .inl rfl | exact .inr rfl)) (pgs_cons (pg_name sc.nd (i := 8) rfl (by first | exact Or.inl rfl | exact Or.inr rfl) (by first | exact .inl rfl | exact .inr rfl)) pgs_nil rfl) rfl) rfl rfl) (tg2 (vs := [8, 9]) (by decide) (by decide)) (fun _ _ _ _ _ dc => pts_if (dt_v (de_name 8))) (fun _ _ _ _ _ dc => (de_name 9))))) (dss_cons (ds_own 6 sc.nd (da_cons (de_callB (isiB_ok t.h_sub t.sub_cls) callr_isiAll t.m_isinstance (da_cons (de_name 1) (da_cons (de_cls t.m_ValueError) da_nil))) (da_cons (de_callB (isiB_ok t.h_sub t.sub_cls) callr_isiAll t.m_isinstance (da_cons (de_name 1) (da_cons (de_cls t.m_RuntimeError) da_nil))) da_nil))) (dss_cons (ds_own 7 sc.nd (da_cons (de_callB (isiB_ok t.h_sub t.sub_cls) callr_isiAll t.m_isinstance (da_cons (de_name 1) (da_cons (de_own "HollowError" (t.h_cl_HollowError) t.g_HollowError) da_nil))) (da_cons (de_callB (isiB_ok t.h_sub t.sub_cls) callr_isiAll t.m_isinstance (da_cons (de_name 1) (da_cons (de_own "DeedError" (t.h_cl_DeedError) t.g_DeedError) da_nil))) da_nil))) (dss_cons (ds_app (de_name 6) (de_callB (isiB_ok t.h_sub t.sub_cls) callr_isiAll t.m_isinstance (da_cons (de_name 1) (da_cons (de_cls t.m_LookupError) da_nil)))) (dss_cons (ds_app (de_name 7) (de_callB (isiB_ok t.h_sub t.sub_cls) callr_isiAll t.m_isinstance (da_cons (de_name 1) (da_cons (de_own "BookError" (t.h_cl_BookError) t.g_BookError) da_nil)))) (dss_cons (ds_if (DW.dt (dw_or (dt_cmp ne_ok (opr_ne dc.u64) (de_callB len_ok call_len t.m_len (da_cons (de_name 5) da_nil)) de_int (nomark _)) (dw_or (dt_cmp ne_ok (opr_ne dc.u64) (de_name 6) (de_name 7) (nomark _)) (dw_or1 (dt_cmp ne_ok (opr_ne dc.u64) (de_cnt (de_name 7) de_bl) de_int (nomark _)))))) (dss_one (ds_ret de_str)) dss_nil) (dss_cons (ds_if (dt_cmp in_ok op_in_seq (de_ix (de_name 5) de_int) (de_tup (da_cons de_str (da_cons de_str (da_cons de_str da_nil)))) rfl) (dss_one (ds_ret (de_tup (da_cons (de_ix (de_name 5) de_int) (da_cons (de_fld ok_fld_spot (fun c C h1 h2 => t.fld_spot h1 h2) (de_name 1)) da_nil))))) dss_nil) (dss_cons (ds_if (dt_cmp eq_ok (opr_eq dc.u64) (de_ix (de_name 5) de_int) de_str (nomark _)) (dss_one (ds_ret (de_tup (da_cons de_str (da_cons (de_fld ok_fld_place (fun c C h1 h2 => t.fld_place h1 h2) (de_name 1)) da_nil))))) dss_nil) (dss_cons (ds_if (dt_cmp eq_ok (opr_eq dc.u64) (de_ix (de_name 5) de_int) de_str (nomark _)) (dss_one (ds_ret (de_tup (da_cons de_str (da_cons (de_fld ok_fld_most (fun c C h1 h2 => t.fld_most h1 h2) (de_name 1)) da_nil))))) dss_nil) (dss_one (ds_ret (de_ifExp (dt_cmp eq_ok (opr_eq dc.u64) (de_ix (de_name 5) de_int) de_str (nomark _)) (de_tup (da_cons de_str (da_cons (de_fld ok_fld_number (fun c C h1 h2 => t.fld_number h1 h2) (de_name 1)) da_nil))) (de_ix (de_name 5) de_int))))))))))))))))))))))))
/-- what is told of a refusal -/
def askedT (c : String) (fs : List (Str × D)) : Option D := if c = "BadField" then askV fs "field" else none
noncomputable def gd__law_asked : (Store → RE) → Store → RE := gdAsk askedT
def bT (c k : String) : Bool := if k = "pairing" then (anyS subT c [.cls "BadPairing", .cls "BadPaper", .cls "BadCoin", .cls "TooFew", .cls "BadText"]).getD false else (subT c (.cls k)).getD ((subT c (.ty k)).getD false)
theorem askV_nl {fs : List (Str × D)} {w : Str} {v : D} (h : askV fs w = some v) : ∀ k, v ≠ .loc k := by
  intro k z
  subst z
  unfold askV at h
  split at h
  · obtain ⟨d, _, e⟩ := Option.map_eq_some_iff.mp h
    cases e
  · split at h
    · obtain ⟨d, _, e⟩ := Option.map_eq_some_iff.mp h
      cases e
    · split at h
      · obtain ⟨d, _, e⟩ := Option.map_eq_some_iff.mp h
        cases e
      · split at h
        · obtain ⟨d, _, e⟩ := Option.map_eq_some_iff.mp h
          cases e
        · cases h
theorem gd__law_asked_eq (cl : D) (cden : Store → RE) (M : Store) : gd__law_asked cden M = none ∨ cutR M (ofBody 10 (den__law_asked cl cden) [cl] M) = gd__law_asked cden M := by
  refine gdAsk_eq (S := subT) (ct := catT) (o1 := ok_fld_spot) (o2 := ok_fld_place) (o3 := ok_fld_most) (o4 := ok_fld_number) fun c fs v h => ?_
  unfold askedT at h
  by_cases hc : c = "BadField"
  · rw [if_pos hc] at h
    subst hc
    refine ⟨askV_nl h, fun cden M M1 hd => ask_exc (b := bT "BadField") (w := "field") hd rfl ?BadField1 ?BadField2 rfl rfl ⟨rfl, rfl, rfl⟩ rfl (fun z => absurd z (by decide)) (fun _ => rfl) (fun z => absurd z (by decide)) (fun z => absurd z (by decide)) h⟩
    · intro k hk
      simp only [List.not_mem_nil, or_false, List.mem_cons] at hk
      rcases hk with rfl | rfl | rfl | rfl | rfl | rfl | rfl | rfl | rfl | rfl | rfl | rfl | rfl | rfl | rfl <;> rfl
    · intro k hk
      simp only [List.not_mem_nil, or_false, List.mem_cons] at hk
      rcases hk with rfl | rfl | rfl <;> rfl
  · rw [if_neg hc] at h
    clear hc
    cases h
noncomputable def den__law_looked_at : DenS := seqS (parS 1 2 (fnD m__law_fault 1 [] (consA (nameD 0) (nilA))) (callD (reprGF) (consA (nameD 0) (nilA)))) (seqS (asgS 3 (brD (binD (eqF) (nameD 1) (lstD (nilA))) (lstD (consA (cD .non) (nilA))) (tupD (consA (cD (.str "field")) (consA (binD ixF (nameD 1) (cD (.int 0))) (nilA)))))) (seqS (forI (nameG 4) (rng1 (consA (cD (.int 2)) (nilA))) (seqS (ifS (binD (neF) (callD (reprGF) (consA (fnD m_is_field 1 [] (consA (nameD 0) (nilA))) (nilA))) (callD (reprGF) (consA (binD (eqF) (nameD 1) (lstD (nilA))) (nilA)))) (retS (cD (.bl false))) (nilS)) (ifS (binD (neF) (callD (reprGF) (consA (lamD gd__law_asked (fnD m_need_field 1 [] (consA (nameD 0) (nilA)))) (nilA))) (callD (reprGF) (consA (nameD 3) (nilA)))) (retS (cD (.bl false))) (nilS)))) (retS (binD (eqF) (callD (reprGF) (consA (nameD 0) (nilA))) (nameD 2)))))
noncomputable def m__law_looked_at : DenF := cutF (ofBody 5 den__law_looked_at)
theorem ok__law_looked_at {x : Tx} {P : Program} (t : TxOk P x) {w : World} {base : Heap} (tb : Tb x base) : FnD P w x.fx x.mg base 10 x.a__law_looked_at x.fd__law_looked_at ["thing"] m__law_looked_at := by
  have sc := sc__law_looked_at
  exact FnD.cut (fn_mkC (k := 9) t.F__law_looked_at t.code__law_looked_at sc rfl fun A outer s H E dc => (dss_cons (ds_par 1 2 dc.calm sc.nd (de_call (k := 3) (ps := ["thing"]) (ok__law_fault t tb) (dc.mono (by decide)) t.g__law_fault t.F__law_fault.kp t.b__law_fault .nil (fun _ _ => rfl) (da_cons (de_name 0) da_nil)) (de_callB reprG_ok (callr_reprE dc.gd dc.u64) t.m_repr (da_cons (de_name 0) da_nil))) (dss_cons (ds_set 3 sc.nd (de_ifExp (dt_cmp eq_ok (opr_eq dc.u64) (de_name 1) (de_lst da_nil) (nomark _)) (de_lst (da_cons de_non da_nil)) (de_tup (da_cons de_str (da_cons (de_ix (de_name 1) de_int) da_nil))))) (dss_cons (ds_forI dc (di_rng1 t.m_range de_int) (dg_name 4 sc.nd) (dss_cons (ds_if (dt_cmp ne_ok (opr_ne dc.u64) (de_callB reprG_ok (callr_reprE dc.gd dc.u64) t.m_repr (da_cons (de_call (k := 6) (ps := ["thing"]) (ok_is_field t tb) (dc.mono (by decide)) t.g_is_field t.F_is_field.kp t.b_is_field .nil (fun _ _ => rfl) (da_cons (de_name 0) da_nil)) da_nil)) (de_callB reprG_ok (callr_reprE dc.gd dc.u64) t.m_repr (da_cons (de_cmp eq_ok (opr_eq dc.u64) (de_name 1) (de_lst da_nil) (nomark _)) da_nil)) (nomark _)) (dss_one (ds_ret de_bl)) dss_nil) (dss_one (ds_if (dt_cmp ne_ok (opr_ne dc.u64) (de_callB reprG_ok (callr_reprE dc.gd dc.u64) t.m_repr (da_cons (de_lamC (k := 6) (dc.mono (by decide)) t.g__law_asked t.F__law_asked t.b__law_asked sc__law_asked rfl (tb.b__law_looked_at) rfl qual_cx t.inT__law_looked_at t.uniq__law_looked_at (LamX.lamS_by (sc := defScope s__law_looked_at) (by decide +kernel)) (fun A1 outer1 s1 H1 E1 f1 c1 dl => (de_call (k := 5) (ps := ["thing"]) (ok_need_field t tb) (dl.mono (by decide)) t.g_need_field t.F_need_field.kp t.b_need_field .nil (fun _ _ => rfl) (da_cons (de_name 0) da_nil))) (fun _ _ _ cl cden dcz actz => ok__law_asked t cl cden dcz actz) gd__law_asked_eq (fun _ _ _ _ _ => rfl)) da_nil)) (de_callB reprG_ok (callr_reprE dc.gd dc.u64) t.m_repr (da_cons (de_name 3) da_nil)) (nomark _)) (dss_one (ds_ret de_bl)) dss_nil)))) (dss_one (ds_ret (de_cmp eq_ok (opr_eq dc.u64) (de_callB reprG_ok (callr_reprE dc.gd dc.u64) t.m_repr (da_cons (de_name 0) da_nil)) (de_name 2) (nomark _))))))))
noncomputable def den__law_bounds_right : DenS := seqS (forI (nameG 2) (itD (lstD (consA (tupD (consA (cD (.int 11)) (consA (cD (.int 11)) (nilA)))) (consA (tupD (consA (cD (.int 12)) (consA (cD (.int 3)) (nilA)))) (consA (tupD (consA (cD (.int 3)) (consA (cD (.int 12)) (nilA)))) (consA (tupD (consA (cD (.int 1)) (consA (cD (.int 11)) (nilA)))) (consA (tupD (consA (cD (.int 11)) (consA (cD (.int 1)) (nilA)))) (consA (tupD (consA (cD (.int 1)) (consA (cD (.int 1)) (nilA)))) (nilA))))))))) (seqS (asgS 3 (fnD m__law_heights 5 [] (consA (nameD 0) (consA (nameD 1) (consA (binD ixF (nameD 2) (cD (.int 0))) (consA (binD ixF (nameD 2) (cD (.int 1))) (consA (cD (.int 0)) (nilA)))))))) (seqS (asgS 4 (fnD m__law_worths 5 [] (consA (nameD 0) (consA (nameD 1) (consA (binD ixF (nameD 2) (cD (.int 0))) (consA (binD ixF (nameD 2) (cD (.int 1))) (consA (cD (.int 1)) (nilA)))))))) (ifS (unD notF (tstD (fnD m__law_looked_at 1 [] (consA (tupD (consA (nameD 3) (consA (nameD 4) (nilA)))) (nilA))))) (retS (cD (.bl false))) (nilS))))) (seqS (forI (nameG 5) (itD (tupD (consA (cD (.int 34)) (consA (cD (.int 35)) (consA (cD (.int 36)) (consA (unD negF (cD (.int 33))) (consA (unD negF (cD (.int 34))) (consA (unD negF (cD (.int 35))) (nilA))))))))) (seqS (ownS 6 (nilA)) (seqS (forI (nameG 7) (rng1 (consA (cD (.int 4)) (nilA))) (appS (nameD 6) (callD (tupcF) (consA (cutE (compD (set1 13) (cD (.bl true)) (binD subF (nameD 5) (binD fmodF (binD addF (binD addF (nameD 5) (nameD 13)) (nameD 7)) (cD (.int 2)))) [13] (rng1 (consA (cD (.int 4)) (nilA))))) (nilA))))) (seqS (ifS (unD notF (tstD (fnD m__law_looked_at 1 [] (consA (tupD (consA (callD (tupcF) (consA (nameD 6) (nilA))) (consA (binD mulTF (tupD (consA (binD mulTF (tupD (consA (tupD (consA (cD (.int 1)) (consA (cD (.int 1)) (nilA)))) (nilA))) (cD (.int 4))) (nilA))) (cD (.int 4))) (nilA)))) (nilA))))) (retS (cD (.bl false))) (nilS)) (seqS (asgS 8 (binD ixF (nameD 6) (cD (.int 1)))) (forI (nameG 9) (itD (tupD (consA (cD (.int 1)) (consA (cD (.int 2)) (nilA))))) (seqS (asgS 10 (binD ixF (lstD (consA (binD ixF (nameD 8) (cD (.int 0))) (consA (binD ixF (nameD 8) (cD (.int 3))) (nilA)))) (binD subF (nameD 9) (cD (.int 1))))) (seqS (asgS 11 (binD addF (binD addF (slpD (nameD 8) (noneO) (someO (nameD 9)) (noneO)) (tupD (consA (binD subF (binD mulF (cD (.int 2)) (nameD 10)) (binD ixF (nameD 8) (nameD 9))) (nilA)))) (slpD (nameD 8) (someO (binD addF (nameD 9) (cD (.int 1)))) (noneO) (noneO)))) (seqS (asgS 12 (binD addF (tupD (consA (binD ixF (nameD 6) (cD (.int 0))) (consA (nameD 11) (nilA)))) (callD (tupcF) (consA (slpD (nameD 6) (someO (cD (.int 2))) (noneO) (noneO)) (nilA))))) (ifS (unD notF (tstD (fnD m__law_looked_at 1 [] (consA (tupD (consA (nameD 12) (consA (binD mulTF (tupD (consA (binD mulTF (tupD (consA (tupD (consA (cD (.int 1)) (consA (cD (.int 1)) (nilA)))) (nilA))) (cD (.int 4))) (nilA))) (cD (.int 4))) (nilA)))) (nilA))))) (retS (cD (.bl false))) (nilS))))))))))) (retS (binD (eqF) (tupD (consA (cD (.int (35))) (consA (cD (.int (11))) (nilA)))) (tupD (consA (cD (.int 35)) (consA (cD (.int 11)) (nilA)))))))
noncomputable def m__law_bounds_right : DenF := cutF (ofBody 14 den__law_bounds_right)
theorem ok__law_bounds_right {x : Tx} {P : Program} (t : TxOk P x) {w : World} {base : Heap} (tb : Tb x base) : FnD P w x.fx x.mg base 11 x.a__law_bounds_right x.fd__law_bounds_right ["cells", "spot"] m__law_bounds_right := by
  have sc := sc__law_bounds_right
  exact FnD.cut (fn_mk (k := 10) t.F__law_bounds_right sc rfl fun cdv A outer s H E dc => (dss_cons (ds_forI dc (di_sq (de_lst (da_cons (de_tup (da_cons de_int (da_cons de_int da_nil))) (da_cons (de_tup (da_cons de_int (da_cons de_int da_nil))) (da_cons (de_tup (da_cons de_int (da_cons de_int da_nil))) (da_cons (de_tup (da_cons de_int (da_cons de_int da_nil))) (da_cons (de_tup (da_cons de_int (da_cons de_int da_nil))) (da_cons (de_tup (da_cons de_int (da_cons de_int da_nil))) da_nil)))))))) (dg_name 2 sc.nd) (dss_cons (ds_set 3 sc.nd (de_call (k := 2) (ps := ["cells", "spot", "wide", "high", "base"]) (ok__law_heights t tb) (dc.mono (by decide)) t.g__law_heights t.F__law_heights.kp t.b__law_heights .nil (fun _ _ => rfl) (da_cons (de_name 0) (da_cons (de_name 1) (da_cons (de_ix (de_name 2) de_int) (da_cons (de_ix (de_name 2) de_int) (da_cons de_int da_nil))))))) (dss_cons (ds_set 4 sc.nd (de_call (k := 2) (ps := ["cells", "spot", "wide", "high", "sort"]) (ok__law_worths t tb) (dc.mono (by decide)) t.g__law_worths t.F__law_worths.kp t.b__law_worths .nil (fun _ _ => rfl) (da_cons (de_name 0) (da_cons (de_name 1) (da_cons (de_ix (de_name 2) de_int) (da_cons (de_ix (de_name 2) de_int) (da_cons de_int da_nil))))))) (dss_one (ds_if (dt_not (dt_v (de_call (k := 10) (ps := ["thing"]) (ok__law_looked_at t tb) (dc.mono (by decide)) t.g__law_looked_at t.F__law_looked_at.kp t.b__law_looked_at .nil (fun _ _ => rfl) (da_cons (de_tup (da_cons (de_name 3) (da_cons (de_name 4) da_nil))) da_nil)))) (dss_one (ds_ret de_bl)) dss_nil))))) (dss_cons (ds_forI dc (di_sq (de_tup (da_cons de_int (da_cons de_int (da_cons de_int (da_cons (de_un neg_ok un_neg de_int) (da_cons (de_un neg_ok un_neg de_int) (da_cons (de_un neg_ok un_neg de_int) da_nil)))))))) (dg_name 5 sc.nd) (dss_cons (ds_own 6 sc.nd da_nil) (dss_cons (ds_forI dc (di_rng1 t.m_range de_int) (dg_name 7 sc.nd) (dss_one (ds_app (de_name 6) (de_callTy tupc_ok callr_tuple t.m_tuple (da_cons (de_cut (de_comp (own := [("x", 13)]) dc sc.nd (di_rng1 t.m_range de_int) (blkOk_by (own := [("x", 13)]) (by rfl)) (fun _ _ _ _ _ => pg_name sc.nd (i := 13) rfl (by first | exact Or.inl rfl | exact Or.inr rfl) (by first | exact .inl rfl | exact .inr rfl)) (tg1 (vs := [13]) (by decide)) (fun _ _ _ _ _ _ => pts_yes) (fun _ _ _ _ _ dc => (de_bin sub_ok op_sub (de_name 5) (de_bin fmod_ok op_modN (de_bin add_ok opr_add (de_bin add_ok opr_add (de_name 5) (de_name 13)) (de_name 7)) de_int))))) da_nil))))) (dss_cons (ds_if (dt_not (dt_v (de_call (k := 10) (ps := ["thing"]) (ok__law_looked_at t tb) (dc.mono (by decide)) t.g__law_looked_at t.F__law_looked_at.kp t.b__law_looked_at .nil (fun _ _ => rfl) (da_cons (de_tup (da_cons (de_callTy tupc_ok callr_tuple t.m_tuple (da_cons (de_name 6) da_nil)) (da_cons (de_bin mulT_ok opr_mulT (de_tup (da_cons (de_bin mulT_ok opr_mulT (de_tup (da_cons (de_tup (da_cons de_int (da_cons de_int da_nil))) da_nil)) de_int) da_nil)) de_int) da_nil))) da_nil)))) (dss_one (ds_ret de_bl)) dss_nil) (dss_cons (ds_set 8 sc.nd (de_ix (de_name 6) de_int)) (dss_one (ds_forI dc (di_sq (de_tup (da_cons de_int (da_cons de_int da_nil)))) (dg_name 9 sc.nd) (dss_cons (ds_set 10 sc.nd (de_ix (de_lst (da_cons (de_ix (de_name 8) de_int) (da_cons (de_ix (de_name 8) de_int) da_nil))) (de_bin sub_ok op_sub (de_name 9) de_int))) (dss_cons (ds_set 11 sc.nd (de_bin add_ok opr_add (de_bin add_ok opr_add (de_slp (de_name 8) do_no (do_so (de_name 9)) do_no) (de_tup (da_cons (de_bin sub_ok op_sub (de_bin mul_ok opr_mul de_int (de_name 10)) (de_ix (de_name 8) (de_name 9))) da_nil))) (de_slp (de_name 8) (do_so (de_bin add_ok opr_add (de_name 9) de_int)) do_no do_no))) (dss_cons (ds_set 12 sc.nd (de_bin add_ok opr_add (de_tup (da_cons (de_ix (de_name 6) de_int) (da_cons (de_name 11) da_nil))) (de_callTy tupc_ok callr_tuple t.m_tuple (da_cons (de_slp (de_name 6) (do_so de_int) do_no do_no) da_nil)))) (dss_one (ds_if (dt_not (dt_v (de_call (k := 10) (ps := ["thing"]) (ok__law_looked_at t tb) (dc.mono (by decide)) t.g__law_looked_at t.F__law_looked_at.kp t.b__law_looked_at .nil (fun _ _ => rfl) (da_cons (de_tup (da_cons (de_name 12) (da_cons (de_bin mulT_ok opr_mulT (de_tup (da_cons (de_bin mulT_ok opr_mulT (de_tup (da_cons (de_tup (da_cons de_int (da_cons de_int da_nil))) da_nil)) de_int) da_nil)) de_int) da_nil))) da_nil)))) (dss_one (ds_ret de_bl)) dss_nil)))))))))))) (dss_one (ds_ret (de_cmp eq_ok (opr_eq dc.u64) (de_tup (da_cons (de_numE t.n_MOST_RIM) (da_cons (de_numE t.n_MOST_SIDE) da_nil))) (de_tup (da_cons de_int (da_cons de_int da_nil))) (nomark _)))))))
noncomputable def den__law_field : DenS := seqS (parS 4 5 (fnD m__law_cell 2 [] (consA (nameD 0) (consA (nameD 1) (nilA)))) (binD addF (binD subF (nameD 3) (nameD 2)) (cD (.int 1)))) (seqS (parS 6 7 (binD addF (nameD 2) (binD fmodF (nameD 4) (nameD 5))) (binD addF (nameD 2) (binD fmodF (binD fdivF (nameD 4) (cD (.int 11))) (nameD 5)))) (seqS (asgS 8 (fnD m__law_heights 5 [] (consA (nameD 0) (consA (nameD 1) (consA (nameD 6) (consA (nameD 7) (consA (binD subF (binD mulF (cD (.int 2)) (binD fmodF (binD fdivF (nameD 4) (cD (.int 121))) (cD (.int 13)))) (cD (.int 12))) (nilA)))))))) (retS (tupD (consA (nameD 8) (consA (fnD m__law_worths 5 [] (consA (nameD 0) (consA (nameD 1) (consA (nameD 6) (consA (nameD 7) (consA (binD fmodF (binD fdivF (nameD 4) (cD (.int 1573))) (cD (.int 4))) (nilA))))))) (nilA)))))))
noncomputable def m__law_field : DenF := cutF (ofBody 9 den__law_field)
theorem ok__law_field {x : Tx} {P : Program} (t : TxOk P x) {w : World} {base : Heap} (tb : Tb x base) : FnD P w x.fx x.mg base 3 x.a__law_field x.fd__law_field ["cells", "spot", "least", "most"] m__law_field := by
  have sc := sc__law_field
  exact FnD.cut (fn_mk (k := 2) t.F__law_field sc rfl fun cdv A outer s H E dc => (dss_cons (ds_par 4 5 dc.calm sc.nd (de_call (k := 1) (ps := ["cells", "spot"]) (ok__law_cell t tb) (dc.mono (by decide)) t.g__law_cell t.F__law_cell.kp t.b__law_cell .nil (fun _ _ => rfl) (da_cons (de_name 0) (da_cons (de_name 1) da_nil))) (de_bin add_ok opr_add (de_bin sub_ok op_sub (de_name 3) (de_name 2)) de_int)) (dss_cons (ds_par 6 7 dc.calm sc.nd (de_bin add_ok opr_add (de_name 2) (de_bin fmod_ok op_modN (de_name 4) (de_name 5))) (de_bin add_ok opr_add (de_name 2) (de_bin fmod_ok op_modN (de_bin fdiv_ok opr_fdiv (de_name 4) de_int) (de_name 5)))) (dss_cons (ds_set 8 sc.nd (de_call (k := 2) (ps := ["cells", "spot", "wide", "high", "base"]) (ok__law_heights t tb) (dc.mono (by decide)) t.g__law_heights t.F__law_heights.kp t.b__law_heights .nil (fun _ _ => rfl) (da_cons (de_name 0) (da_cons (de_name 1) (da_cons (de_name 6) (da_cons (de_name 7) (da_cons (de_bin sub_ok op_sub (de_bin mul_ok opr_mul de_int (de_bin fmod_ok op_modN (de_bin fdiv_ok opr_fdiv (de_name 4) de_int) de_int)) de_int) da_nil))))))) (dss_one (ds_ret (de_tup (da_cons (de_name 8) (da_cons (de_call (k := 2) (ps := ["cells", "spot", "wide", "high", "sort"]) (ok__law_worths t tb) (dc.mono (by decide)) t.g__law_worths t.F__law_worths.kp t.b__law_worths .nil (fun _ _ => rfl) (da_cons (de_name 0) (da_cons (de_name 1) (da_cons (de_name 6) (da_cons (de_name 7) (da_cons (de_bin fmod_ok op_modN (de_bin fdiv_ok opr_fdiv (de_name 4) de_int) de_int) da_nil)))))) da_nil)))))))))
noncomputable def den__law_odd : DenS := seqS (asgS 2 (lstD (consA (cD .non) (consA (cD (.bl true)) (consA (cD (.bl false)) (consA (unD negF (cD (.int 1))) (consA (cD (.int 0)) (consA (cD (.int 1)) (consA (cD (.int 2)) (consA (cD (.int 36)) (consA (binD powF (cD (.int 10)) (cD (.int 20))) (consA (cD (.str "1")) (consA (cD (.str "")) (consA (tupD (nilA)) (consA (lstD (nilA)) (consA (empD) (nilA))))))))))))))))) (seqS (asgS 2 (binD addF (nameD 2) (lstD (consA (tupD (consA (cD (.int 0)) (consA (cD (.int 0)) (nilA)))) (consA (tupD (consA (cD (.int 1)) (consA (cD (.int 1)) (nilA)))) (consA (tupD (consA (cD (.int 0)) (consA (cD (.int 1)) (nilA)))) (consA (tupD (consA (cD (.int 2)) (consA (cD (.int 4)) (nilA)))) (consA (tupD (consA (cD (.int 1)) (consA (unD negF (cD (.int 1))) (nilA)))) (consA (tupD (consA (nameD 1) (nilA))) (consA (lstD (consA (nameD 1) (nilA))) (nilA))))))))))) (retS (binD ixF (nameD 2) (binD fmodF (nameD 0) (cD (.int 21))))))
noncomputable def m__law_odd : DenF := cutF (ofBody 3 den__law_odd)
theorem ok__law_odd {x : Tx} {P : Program} (t : TxOk P x) {w : World} {base : Heap} (tb : Tb x base) : FnD P w x.fx x.mg base 1 x.a__law_odd x.fd__law_odd ["n", "thing"] m__law_odd := by
  have sc := sc__law_odd
  exact FnD.cut (fn_mk (k := 0) t.F__law_odd sc rfl fun cdv A outer s H E dc => (dss_cons (ds_set 2 sc.nd (de_lst (da_cons de_non (da_cons de_bl (da_cons de_bl (da_cons (de_un neg_ok un_neg de_int) (da_cons de_int (da_cons de_int (da_cons de_int (da_cons de_int (da_cons (de_bin pow_ok opr_pow de_int de_int) (da_cons de_str (da_cons de_str (da_cons (de_tup da_nil) (da_cons (de_lst da_nil) (da_cons de_emp da_nil)))))))))))))))) (dss_cons (ds_set 2 sc.nd (de_bin add_ok opr_add (de_name 2) (de_lst (da_cons (de_tup (da_cons de_int (da_cons de_int da_nil))) (da_cons (de_tup (da_cons de_int (da_cons de_int da_nil))) (da_cons (de_tup (da_cons de_int (da_cons de_int da_nil))) (da_cons (de_tup (da_cons de_int (da_cons de_int da_nil))) (da_cons (de_tup (da_cons de_int (da_cons (de_un neg_ok un_neg de_int) da_nil))) (da_cons (de_tup (da_cons (de_name 1) da_nil)) (da_cons (de_lst (da_cons (de_name 1) da_nil)) da_nil)))))))))) (dss_one (ds_ret (de_ix (de_name 2) (de_bin fmod_ok op_modN (de_name 0) de_int)))))))
noncomputable def den__law_spoilt (rec : DenF) : DenS := seqS (asgS 4 (fnD m__law_cell 2 [] (consA (nameD 0) (consA (nameD 1) (nilA))))) (seqS (ifS (orD (unD notF (tstD (callD (isiB subT) (consA (nameD 2) (consA (cD (.ty "tuple")) (nilA)))))) (orD (binD (eqGF) (nameD 2) (tupD (nilA))) (binD (eqGF) (nameD 3) (cD (.int 0))))) (seqS (ifS (andD (tstD (callD (isiB subT) (consA (nameD 2) (consA (cD (.ty "int")) (nilA))))) (binD (gtF) (binD fmodF (nameD 4) (cD (.int 3))) (cD (.int 0)))) (retS (binD addBF (nameD 2) (binD ixF (lstD (consA (cD (.int 1)) (consA (unD negF (cD (.int 1))) (consA (cD (.int 2)) (consA (unD negF (cD (.int 2))) (nilA)))))) (binD fmodF (binD fdivF (nameD 4) (cD (.int 3))) (cD (.int 4)))))) (nilS)) (retS (fnD m__law_odd 2 [] (consA (binD fdivF (nameD 4) (cD (.int 3))) (consA (nameD 2) (nilA)))))) (nilS)) (seqS (parS 5 6 (binD fmodF (nameD 4) (callD (lenF) (consA (nameD 2) (nilA)))) (binD fmodF (binD fdivF (nameD 4) (cD (.int 128))) (cD (.int 9)))) (seqS (ifS (binD (ltF) (nameD 6) (cD (.int 6))) (seqS (asgS 7 (fnD rec 4 [] (consA (nameD 0) (consA (nameD 1) (consA (binD ixF (nameD 2) (nameD 5)) (consA (binD subF (nameD 3) (cD (.int 1))) (nilA))))))) (retS (binD addBF (binD addBF (slpD (nameD 2) (noneO) (someO (nameD 5)) (noneO)) (tupD (consA (nameD 7) (nilA)))) (slpD (nameD 2) (someO (binD addBF (nameD 5) (cD (.int 1)))) (noneO) (noneO))))) (nilS)) (seqS (asgS 8 (lstD (consA (binD addBF (slpD (nameD 2) (noneO) (someO (nameD 5)) (noneO)) (slpD (nameD 2) (someO (binD addBF (nameD 5) (cD (.int 1)))) (noneO) (noneO))) (consA (binD addBF (slpD (nameD 2) (noneO) (someO (binD addBF (nameD 5) (cD (.int 1)))) (noneO)) (slpD (nameD 2) (someO (nameD 5)) (noneO) (noneO))) (nilA))))) (retS (binD ixF (binD addBF (nameD 8) (lstD (consA (callD (lstcF) (consA (nameD 2) (nilA))) (nilA)))) (binD subF (nameD 6) (cD (.int 6)))))))))
noncomputable def m__law_spoilt_ : Nat → DenF
  | 0 => fun _ _ => none
  | n + 1 => ofBody 9 (den__law_spoilt (m__law_spoilt_ n))
noncomputable def m__law_spoilt : DenF := m__law_spoilt_ 5
theorem ok__law_spoilt_ {x : Tx} {P : Program} (t : TxOk P x) {w : World} {base : Heap} (tb : Tb x base) (n : Nat) : FnD P w x.fx x.mg base (2 + n) x.a__law_spoilt x.fd__law_spoilt ["cells", "spot", "thing", "deep"] (m__law_spoilt_ n) := by
  induction n with
  | zero => exact FnD.stuck
  | succ n ih =>
    have sc := sc__law_spoilt
    exact fn_mk (k := 2 + n) t.F__law_spoilt sc rfl fun cdv A outer s H E dc => by
      have hrec := ih
      exact (dss_cons (ds_set 4 sc.nd (de_call (k := 1) (ps := ["cells", "spot"]) (ok__law_cell t tb) (dc.mono (by omega)) t.g__law_cell t.F__law_cell.kp t.b__law_cell .nil (fun _ _ => rfl) (da_cons (de_name 0) (da_cons (de_name 1) da_nil)))) (dss_cons (ds_if (DW.dt (dw_or (dt_not (dt_v (de_callB (isiB_ok t.h_sub t.sub_cls) callr_isiAll t.m_isinstance (da_cons (de_name 2) (da_cons (de_cls t.m_tuple) da_nil))))) (dw_or (dt_cmp eqG_ok (opr_eqG dc.u64) (de_name 2) (de_tup da_nil) (nomark _)) (dw_or1 (dt_cmp eqG_ok (opr_eqG dc.u64) (de_name 3) de_int (nomark _)))))) (dss_cons (ds_if (DW.dt (dw_and (dt_v (de_callB (isiB_ok t.h_sub t.sub_cls) callr_isiAll t.m_isinstance (da_cons (de_name 2) (da_cons (de_cls t.m_int) da_nil)))) (dw_and1 (dt_cmp gt_ok op_gt (de_bin fmod_ok op_modN (de_name 4) de_int) de_int (nomark _))))) (dss_one (ds_ret (de_bin addB_ok opr_addB (de_name 2) (de_ix (de_lst (da_cons de_int (da_cons (de_un neg_ok un_neg de_int) (da_cons de_int (da_cons (de_un neg_ok un_neg de_int) da_nil))))) (de_bin fmod_ok op_modN (de_bin fdiv_ok opr_fdiv (de_name 4) de_int) de_int))))) dss_nil) (dss_one (ds_ret (de_call (k := 1) (ps := ["n", "thing"]) (ok__law_odd t tb) (dc.mono (by omega)) t.g__law_odd t.F__law_odd.kp t.b__law_odd .nil (fun _ _ => rfl) (da_cons (de_bin fdiv_ok opr_fdiv (de_name 4) de_int) (da_cons (de_name 2) da_nil)))))) dss_nil) (dss_cons (ds_par 5 6 dc.calm sc.nd (de_bin fmod_ok op_modN (de_name 4) (de_callB len_ok call_len t.m_len (da_cons (de_name 2) da_nil))) (de_bin fmod_ok op_modN (de_bin fdiv_ok opr_fdiv (de_name 4) de_int) de_int)) (dss_cons (ds_if (dt_cmp lt_ok op_lt (de_name 6) de_int (nomark _)) (dss_cons (ds_set 7 sc.nd (de_call (ps := ["cells", "spot", "thing", "deep"]) (hrec) dc t.g__law_spoilt t.F__law_spoilt.kp t.b__law_spoilt .nil (fun _ _ => rfl) (da_cons (de_name 0) (da_cons (de_name 1) (da_cons (de_ix (de_name 2) (de_name 5)) (da_cons (de_bin sub_ok op_sub (de_name 3) de_int) da_nil)))))) (dss_one (ds_ret (de_bin addB_ok opr_addB (de_bin addB_ok opr_addB (de_slp (de_name 2) do_no (do_so (de_name 5)) do_no) (de_tup (da_cons (de_name 7) da_nil))) (de_slp (de_name 2) (do_so (de_bin addB_ok opr_addB (de_name 5) de_int)) do_no do_no))))) dss_nil) (dss_cons (ds_set 8 sc.nd (de_lst (da_cons (de_bin addB_ok opr_addB (de_slp (de_name 2) do_no (do_so (de_name 5)) do_no) (de_slp (de_name 2) (do_so (de_bin addB_ok opr_addB (de_name 5) de_int)) do_no do_no)) (da_cons (de_bin addB_ok opr_addB (de_slp (de_name 2) do_no (do_so (de_bin addB_ok opr_addB (de_name 5) de_int)) do_no) (de_slp (de_name 2) (do_so (de_name 5)) do_no do_no)) da_nil)))) (dss_one (ds_ret (de_ix (de_bin addB_ok opr_addB (de_name 8) (de_lst (da_cons (de_callTy lstc_ok callr_list t.m_list (da_cons (de_name 2) da_nil)) da_nil))) (de_bin sub_ok op_sub (de_name 6) de_int)))))))))
theorem ok__law_spoilt {x : Tx} {P : Program} (t : TxOk P x) {w : World} {base : Heap} (tb : Tb x base) : FnD P w x.fx x.mg base 7 x.a__law_spoilt x.fd__law_spoilt ["cells", "spot", "thing", "deep"] m__law_spoilt := ok__law_spoilt_ t tb 5
noncomputable def den_law : DenS := seqS (ownS 1 (consA (cD (.int 0)) (nilA))) (seqS (forI (nameG 2) (rng1 (consA (binD addF (cD (.int 3)) (callD (minF) (consA (cD (.int 9)) (consA (callD (lenF) (consA (nameD 0) (nilA))) (nilA))))) (nilA))) (seqS (asgS 3 (fnD m__law_field 4 [] (consA (nameD 0) (consA (nameD 1) (consA (cD (.int 1)) (consA (cD (.int 7)) (nilA))))))) (seqS (ifS (orD (unD notF (tstD (fnD m__law_looked_at 1 [] (consA (nameD 3) (nilA))))) (binD (isTF true) (fnD m_is_field 1 [] (consA (nameD 3) (nilA))) (cD (.bl true)))) (retS (cD (.bl false))) (nilS)) (seqS (forI (nameG 4) (rng1 (consA (cD (.int 4)) (nilA))) (seqS (asgS 5 (fnD m__law_spoilt 4 [] (consA (nameD 0) (consA (nameD 1) (consA (nameD 3) (consA (cD (.int 4)) (nilA))))))) (seqS (ifS (binD (eqF) (binD fmodF (fnD m__law_cell 2 [] (consA (nameD 0) (consA (nameD 1) (nilA)))) (cD (.int 3))) (cD (.int 0))) (asgS 5 (fnD m__law_spoilt 4 [] (consA (nameD 0) (consA (nameD 1) (consA (nameD 5) (consA (cD (.int 4)) (nilA))))))) (nilS)) (ifS (unD notF (tstD (fnD m__law_looked_at 1 [] (consA (nameD 5) (nilA))))) (retS (cD (.bl false))) (nilS))))) (seqS (asgS 6 (callD (tupcF) (consA (cutE (compD (set1 7) (cD (.bl true)) (callD (tupcF) (consA (cutE (compD (set1 8) (cD (.bl true)) (binD addF (nameD 8) (cD (.int 1))) [8] (itD (nameD 7)))) (nilA))) [7] (itD (binD ixF (nameD 3) (cD (.int 0)))))) (nilA)))) (ifS (orD (unD notF (tstD (fnD m__law_looked_at 1 [] (consA (tupD (consA (nameD 6) (consA (binD ixF (nameD 3) (cD (.int 1))) (nilA)))) (nilA))))) (unD notF (tstD (fnD m__law_looked_at 1 [] (consA (slpD (nameD 3) (noneO) (noneO) (someO (unD negF (cD (.int 1))))) (nilA)))))) (retS (cD (.bl false))) (nilS))))))) (retS (fnD m__law_bounds_right 2 [] (consA (nameD 0) (consA (nameD 1) (nilA))))))
noncomputable def m_law : DenF := cutF (ofBody 9 den_law)
theorem ok_law {x : Tx} {P : Program} (t : TxOk P x) {w : World} {base : Heap} (tb : Tb x base) : FnD P w x.fx x.mg base 12 x.a_law x.fd_law ["script"] m_law := by
  have sc := sc_law
  exact FnD.cut (fn_mk (k := 11) t.F_law sc rfl fun cdv A outer s H E dc => (dss_cons (ds_own 1 sc.nd (da_cons de_int da_nil)) (dss_cons (ds_forI dc (di_rng1 t.m_range (de_bin add_ok opr_add de_int (de_callB int2_ok (call_min2 dc.calm) t.m_min (da_cons de_int (da_cons (de_callB len_ok call_len t.m_len (da_cons (de_name 0) da_nil)) da_nil))))) (dg_name 2 sc.nd) (dss_cons (ds_set 3 sc.nd (de_call (k := 3) (ps := ["cells", "spot", "least", "most"]) (ok__law_field t tb) (dc.mono (by decide)) t.g__law_field t.F__law_field.kp t.b__law_field .nil (fun _ _ => rfl) (da_cons (de_name 0) (da_cons (de_name 1) (da_cons de_int (da_cons de_int da_nil)))))) (dss_cons (ds_if (DW.dt (dw_or (dt_not (dt_v (de_call (k := 10) (ps := ["thing"]) (ok__law_looked_at t tb) (dc.mono (by decide)) t.g__law_looked_at t.F__law_looked_at.kp t.b__law_looked_at .nil (fun _ _ => rfl) (da_cons (de_name 3) da_nil)))) (dw_or1 (dt_cmp isT_ok opr_isTnot (de_call (k := 6) (ps := ["thing"]) (ok_is_field t tb) (dc.mono (by decide)) t.g_is_field t.F_is_field.kp t.b_is_field .nil (fun _ _ => rfl) (da_cons (de_name 3) da_nil)) de_bl (nomark _))))) (dss_one (ds_ret de_bl)) dss_nil) (dss_cons (ds_forI dc (di_rng1 t.m_range de_int) (dg_name 4 sc.nd) (dss_cons (ds_set 5 sc.nd (de_call (k := 7) (ps := ["cells", "spot", "thing", "deep"]) (ok__law_spoilt t tb) (dc.mono (by decide)) t.g__law_spoilt t.F__law_spoilt.kp t.b__law_spoilt .nil (fun _ _ => rfl) (da_cons (de_name 0) (da_cons (de_name 1) (da_cons (de_name 3) (da_cons de_int da_nil)))))) (dss_cons (ds_if (dt_cmp eq_ok (opr_eq dc.u64) (de_bin fmod_ok op_modN (de_call (k := 1) (ps := ["cells", "spot"]) (ok__law_cell t tb) (dc.mono (by decide)) t.g__law_cell t.F__law_cell.kp t.b__law_cell .nil (fun _ _ => rfl) (da_cons (de_name 0) (da_cons (de_name 1) da_nil))) de_int) de_int (nomark _)) (dss_one (ds_set 5 sc.nd (de_call (k := 7) (ps := ["cells", "spot", "thing", "deep"]) (ok__law_spoilt t tb) (dc.mono (by decide)) t.g__law_spoilt t.F__law_spoilt.kp t.b__law_spoilt .nil (fun _ _ => rfl) (da_cons (de_name 0) (da_cons (de_name 1) (da_cons (de_name 5) (da_cons de_int da_nil))))))) dss_nil) (dss_one (ds_if (dt_not (dt_v (de_call (k := 10) (ps := ["thing"]) (ok__law_looked_at t tb) (dc.mono (by decide)) t.g__law_looked_at t.F__law_looked_at.kp t.b__law_looked_at .nil (fun _ _ => rfl) (da_cons (de_name 5) da_nil)))) (dss_one (ds_ret de_bl)) dss_nil))))) (dss_cons (ds_set 6 sc.nd (de_callTy tupc_ok callr_tuple t.m_tuple (da_cons (de_cut (de_comp (own := [("row", 7)]) dc sc.nd (di_sq (de_ix (de_name 3) de_int)) (blkOk_by (own := [("row", 7)]) (by rfl)) (fun _ _ _ _ _ => pg_name sc.nd (i := 7) rfl (by first | exact Or.inl rfl | exact Or.inr rfl) (by first | exact .inl rfl | exact .inr rfl)) (tg1 (vs := [7]) (by decide)) (fun _ _ _ _ _ _ => pts_yes) (fun _ _ _ _ _ dc => (de_callTy tupc_ok callr_tuple t.m_tuple (da_cons (de_cut (de_comp (own := [("one", 8)]) dc sc.nd (di_sq (de_name 7)) (blkOk_by (own := [("one", 8)]) (by rfl)) (fun _ _ _ _ _ => pg_name sc.nd (i := 8) rfl (by first | exact Or.inl rfl | exact Or.inr rfl) (by first | exact .inl rfl | exact .inr rfl)) (tg1 (vs := [8]) (by decide)) (fun _ _ _ _ _ _ => pts_yes) (fun _ _ _ _ _ dc => (de_bin add_ok opr_add (de_name 8) de_int)))) da_nil))))) da_nil))) (dss_one (ds_if (DW.dt (dw_or (dt_not (dt_v (de_call (k := 10) (ps := ["thing"]) (ok__law_looked_at t tb) (dc.mono (by decide)) t.g__law_looked_at t.F__law_looked_at.kp t.b__law_looked_at .nil (fun _ _ => rfl) (da_cons (de_tup (da_cons (de_name 6) (da_cons (de_ix (de_name 3) de_int) da_nil))) da_nil)))) (dw_or1 (dt_not (dt_v (de_call (k := 10) (ps := ["thing"]) (ok__law_looked_at t tb) (dc.mono (by decide)) t.g__law_looked_at t.F__law_looked_at.kp t.b__law_looked_at .nil (fun _ _ => rfl) (da_cons (de_slp (de_name 3) do_no do_no (do_so (de_un neg_ok un_neg de_int))) da_nil))))))) (dss_one (ds_ret de_bl)) dss_nil))))))) (dss_one (ds_ret (de_call (k := 11) (ps := ["cells", "spot"]) (ok__law_bounds_right t tb) (dc.mono (by decide)) t.g__law_bounds_right t.F__law_bounds_right.kp t.b__law_bounds_right .nil (fun _ _ => rfl) (da_cons (de_name 0) (da_cons (de_name 1) da_nil))))))))
end K02
namespace K02
open PySem L2 DL
section
variable {w h n : Nat} {f : Nat → Nat → D} {g : Nat → D} {M : Store}
abbrev szD (w h : Nat) : D := .tup [.int (w : Int), .int (h : Int)]
theorem tupof_row {i : Int} : m_is_tuple_of [rowD n g, .int i] M = ok (.bl (decide ((n : Int) = i))) M := fv_rt0 rfl (by simp [seqS, ifS, retS, raiseF, raiseS, consA, nilA, binD, callD, nameD, cD, bindE_v, thenS_v, bindE_x, thenS_x, unD, parS, asgS, tupD, int2F, eq_int, ne_int, intF0, negF, notF, nilS, brD, fnD, addE, subE, ix0, ix1, dropS, asgG, tupG, consG, nameG, nilG, lstD, andD, orD, tstD, ownS, appS, len_tup, len_lst, tup_tup, wipeE, set1, set2, typ_int, typ_tup, typ_non, typ_lst, isF, chainD, asT, truD, len_row, typ_row, den_is_tuple_of]) rfl
theorem tupof_tup {ds : List D} {i : Int} : m_is_tuple_of [.tup ds, .int i] M = ok (.bl (decide ((ds.length : Int) = i))) M := fv_rt0 rfl (by simp [seqS, ifS, retS, raiseF, raiseS, consA, nilA, binD, callD, nameD, cD, bindE_v, thenS_v, bindE_x, thenS_x, unD, parS, asgS, tupD, int2F, eq_int, ne_int, intF0, negF, notF, nilS, brD, fnD, addE, subE, ix0, ix1, dropS, asgG, tupG, consG, nameG, nilG, lstD, andD, orD, tstD, ownS, appS, len_tup, len_lst, tup_tup, wipeE, set1, set2, typ_int, typ_tup, typ_non, typ_lst, isF, chainD, asT, truD, len_row, typ_row, den_is_tuple_of]) rfl
theorem gcd_ev {a b : Int} {M : Store} : gcdF [.int a, .int b] M = ok (.int ((Nat.gcd a.natAbs b.natAbs : Nat) : Int)) M := rfl
theorem sides_ok (hh : 0 < h) : m_sides [tabD w h f] M = ok (szD w h) M := fv_rt0 rfl (by simp [seqS, ifS, retS, raiseF, raiseS, consA, nilA, binD, callD, nameD, cD, bindE_v, thenS_v, bindE_x, thenS_x, unD, parS, asgS, tupD, int2F, eq_int, ne_int, intF0, negF, notF, nilS, brD, fnD, addE, subE, ix0, ix1, dropS, asgG, tupG, consG, nameG, nilG, lstD, andD, orD, tstD, ownS, appS, len_tup, len_lst, tup_tup, wipeE, set1, set2, typ_int, typ_tup, typ_non, typ_lst, isF, chainD, asT, truD, len_row, typ_row, den_sides, ix_row0 hh]) rfl
theorem side_long (h1 : 1 ≤ n) (h2 : n ≤ 11) : m_is_side_long [rowD n g] M = ok (.bl true) M := fv_rt0 (e0 := [some (rowD n g)]) rfl (by
  have e := chain_le (da := cD (.int 1)) (db := callD lenF (consA (nameD 0) nilA)) (dc := cD (.int 11)) (e := [some (rowD n g)]) (M := M) (i := 1) (j := n) (k := 11) rfl (by simp [seqS, ifS, retS, raiseF, raiseS, consA, nilA, binD, callD, nameD, cD, bindE_v, thenS_v, bindE_x, thenS_x, unD, parS, asgS, tupD, int2F, eq_int, ne_int, intF0, negF, notF, nilS, brD, fnD, addE, subE, ix0, ix1, dropS, asgG, tupG, consG, nameG, nilG, lstD, andD, orD, tstD, ownS, appS, len_tup, len_lst, tup_tup, wipeE, set1, set2, typ_int, typ_tup, typ_non, typ_lst, isF, chainD, asT, truD, len_row, typ_row]) rfl
  rw [decide_eq_true (by omega : (1 : Int) ≤ (n : Int)), decide_eq_true (by omega : (n : Int) ≤ 11)] at e
  unfold den_is_side_long
  simp only [retS, andD, brD]
  rw [show binD (isF false) (callD typF (consA (nameD 0) nilA)) (cD (.ty "tuple")) [some (rowD n g)] M = ok (.bl true) M by simp [seqS, ifS, retS, raiseF, raiseS, consA, nilA, binD, callD, nameD, cD, bindE_v, thenS_v, bindE_x, thenS_x, unD, parS, asgS, tupD, int2F, eq_int, ne_int, intF0, negF, notF, nilS, brD, fnD, addE, subE, ix0, ix1, dropS, asgG, tupG, consG, nameG, nilG, lstD, andD, orD, tstD, ownS, appS, len_tup, len_lst, tup_tup, wipeE, set1, set2, typ_int, typ_tup, typ_non, typ_lst, isF, chainD, asT, truD, len_row, typ_row], bindE_v]
  dsimp only
  rw [e]
  rfl) rfl
def rimB (w h x y : Nat) : Bool := (decide (x = 0) || decide (x + 1 = w)) || (decide (y = 0) || decide (y + 1 = h))
theorem fmA_all {α β : Type} {F : α → Option β} {G : α → β} : ∀ l : List α, (∀ k ∈ l, F k = some (G k)) → l.filterMap F = l.map G
  | [], _ => rfl
  | a :: l, h => by
    rw [List.filterMap_cons, h a (List.mem_cons_self ..), List.map_cons, fmA_all l fun k hk => h k (List.mem_cons_of_mem _ hk)]
theorem dropA_ix : ∀ n, n < 12 → 0 < n → whole n (some 1) none none = false ∧ prtI n (some 1) none none = (List.range (n - 1)).map fun i => i + 1 := by decide
theorem slp_tail {da : DenE} {e : DL.Env} (ha : da e M = ok (rowD n g) M) (hn : n ≤ 11) (kn : 0 < n) : slpD da (someO (cD (.int 1))) noneO noneO e M = ok (.tup ((List.range (n - 1)).map fun i => g (i + 1))) M := by
  obtain ⟨q1, q2⟩ := dropA_ix n (by omega) kn
  unfold slpD
  rw [ha, bindE_v]
  show prtF (rowD n g) (some 1) none none M = _
  have hl : ((List.range n).map g).length = n := by simp
  unfold rowD prtF prtT
  dsimp only
  rw [hl, q1, q2, if_pos ⟨by decide, by simp; omega⟩, if_neg (by decide), List.filterMap_map]
  rw [fmA_all (G := fun i => g (i + 1)) (List.range (n - 1)) fun j hj => by
    have := List.mem_range.mp hj
    show ((List.range n).map g)[j + 1]? = _
    rw [List.getElem?_map, List.getElem?_range (by omega)]
    rfl]
theorem nin_pm {a : Int} (h : a.natAbs = 1) : inF true (.int a) (.tup [.int 1, .int (-1)]) M = ok (.bl false) M := by
  have : a = 1 ∨ a = -1 := by omega
  rcases this with rfl | rfl
  · simp [inF, flD, sqD, flDs, inV, eqV]
  · simp [inF, flD, sqD, flDs, inV, eqV]
end
end K02
namespace K02
open PySem L2 DL
/-- heights' rows that are looked at -/
abbrev hD (H : Nat → Nat → Int) : Nat → Nat → D := fun x y => .int (H x y)
abbrev wD (W : Nat → Nat → Int × Int) : Nat → Nat → D := fun x y => .tup [.int (W x y).1, .int (W x y).2]
abbrev fieldD (w h : Nat) (H : Nat → Nat → Int) (W : Nat → Nat → Int × Int) : D := .tup [tabD w h (hD H), tabD w h (wD W)]
/-- a good field -/
structure VF (w h : Nat) (H : Nat → Nat → Int) (W : Nat → Nat → Int × Int) : Prop where
  w1 : 1 ≤ w
  w2 : w ≤ 11
  h1 : 1 ≤ h
  h2 : h ≤ 11
  par : ∀ x y, x < w → y < h → ((x : Int) + (y : Int) + H x y) % 2 = 0
  sx : ∀ x y, x + 1 < w → y < h → (H (x + 1) y - H x y).natAbs = 1
  sy : ∀ x y, x < w → y + 1 < h → (H x (y + 1) - H x y).natAbs = 1
  rim : ∀ x y, x < w → y < h → rimB w h x y = true → (H x y).natAbs ≤ 35
  wor : ∀ x y, x < w → y < h → 1 ≤ (W x y).2 ∧ Nat.gcd (W x y).1.natAbs (W x y).2.natAbs = 1 ∧ (W x y).1 ≠ 0
section
variable {w h n : Nat} {f : Nat → Nat → D} {g : Nat → D} {M : Store} {H : Nat → Nat → Int} {W : Nat → Nat → Int × Int}
theorem bsteps_ok {G : Nat → Int} (hn : 1 ≤ n) (hs : ∀ x, x + 1 < n → (G (x + 1) - G x).natAbs = 1) : m_are_steps_beside [rowD n fun x => .int (G x)] M = ok (.bl true) M := by
  have i0 : ∀ M, ixF (rowD n fun x => D.int (G x)) (.int 0) M = ok (.int (G 0)) M := fun M => ix_row0 (by omega)
  have it : ∀ e M, e[0]? = some (some (rowD n fun x => D.int (G x))) → itD (nameD 0) e M = ok ((List.range n).map fun x => D.int (G x), fun _ => True) M := fun e M he => it_row (by
    unfold nameD
    rw [he])
  obtain ⟨R, hR⟩ : ∃ R, R = rowD n fun x => D.int (G x) := ⟨_, rfl⟩
  rw [← hR] at i0 it ⊢
  let B : Nat → Int := fun j => if j = 0 then G 0 - 1 else G (j - 1)
  refine fv_wp (e0 := [some R, none, none]) rfl ?_ rfl
  unfold den_are_steps_beside
  refine wp_nx (e' := [some R, some (.int (B 0)), none]) (M' := M) (by simp [seqS, ifS, retS, raiseF, raiseS, consA, nilA, binD, callD, nameD, cD, bindE_v, thenS_v, bindE_x, thenS_x, unD, parS, asgS, tupD, int2F, eq_int, ne_int, intF0, negF, notF, nilS, brD, fnD, addE, subE, ix0, ix1, dropS, asgG, tupG, consG, nameG, nilG, lstD, andD, orD, tstD, ownS, appS, len_tup, len_lst, tup_tup, wipeE, set1, set2, typ_int, typ_tup, typ_non, typ_lst, isF, chainD, asT, truD, len_row, typ_row, i0, B]) ?_
  refine wp_for_nx ((List.range n).map fun x => D.int (G x)) (fun j e M' => M' = M ∧ ∃ a, e = [some R, some (.int (B j)), a]) (it _ _ rfl) (fun j d e M' hd hi => ?_) (fun _ _ _ => trivial) ⟨rfl, _, rfl⟩ (fun e' M' hi => ?_)
  · obtain ⟨rfl, a, rfl⟩ := hi
    obtain ⟨hj, hv⟩ : j < n ∧ d = .int (G j) := by
      have lt := (List.getElem?_eq_some_iff.mp hd).1
      simp only [List.length_map, List.length_range] at lt
      refine ⟨lt, ?_⟩
      rw [List.getElem?_map, List.getElem?_range lt] at hd
      exact (Option.some.inj hd).symm
    subst hv
    have hb : (G j - B j).natAbs = 1 := by
      show (G j - (if j = 0 then G 0 - 1 else G (j - 1))).natAbs = 1
      by_cases c : j = 0
      · subst c
        rw [if_pos rfl]
        omega
      · rw [if_neg c]
        have := hs (j - 1) (by omega)
        rwa [show j - 1 + 1 = j by omega] at this
    have hB : B (j + 1) = G j := by
      show (if j + 1 = 0 then G 0 - 1 else G (j + 1 - 1)) = G j
      rw [if_neg (by omega)]
      rfl
    rw [hB]
    have q := fun M => nin_pm (M := M) hb
    generalize B j = b at *
    generalize G j = c at *
    have q1 : ∀ M, inF true (.int (c - b)) (.tup [.int 1, .int (-1)]) M = ok (.bl false) M := q
    refine ⟨trivial, [some R, some (.int b), some (.int c)], M', rfl, ?_⟩
    refine wp_nx (e' := [some R, some (.int b), some (.int c)]) (M' := M') (by simp [seqS, ifS, retS, raiseF, raiseS, consA, nilA, binD, callD, nameD, cD, bindE_v, thenS_v, bindE_x, thenS_x, unD, parS, asgS, tupD, int2F, eq_int, ne_int, intF0, negF, notF, nilS, brD, fnD, addE, subE, ix0, ix1, dropS, asgG, tupG, consG, nameG, nilG, lstD, andD, orD, tstD, ownS, appS, len_tup, len_lst, tup_tup, wipeE, set1, set2, typ_int, typ_tup, typ_non, typ_lst, isF, chainD, asT, truD, len_row, typ_row, q1]) ?_
    exact wp_of (M' := M') (.nx [some R, some (.int c), some (.int c)]) (by simp [seqS, ifS, retS, raiseF, raiseS, consA, nilA, binD, callD, nameD, cD, bindE_v, thenS_v, bindE_x, thenS_x, unD, parS, asgS, tupD, int2F, eq_int, ne_int, intF0, negF, notF, nilS, brD, fnD, addE, subE, ix0, ix1, dropS, asgG, tupG, consG, nameG, nilG, lstD, andD, orD, tstD, ownS, appS, len_tup, len_lst, tup_tup, wipeE, set1, set2, typ_int, typ_tup, typ_non, typ_lst, isF, chainD, asT, truD, len_row, typ_row]) ⟨_, .inl rfl, rfl, _, rfl⟩
  · obtain ⟨rfl, a, rfl⟩ := hi
    exact wp_of (.rt (.bl true)) (M' := M') (by simp [seqS, ifS, retS, raiseF, raiseS, consA, nilA, binD, callD, nameD, cD, bindE_v, thenS_v, bindE_x, thenS_x, unD, parS, asgS, tupD, int2F, eq_int, ne_int, intF0, negF, notF, nilS, brD, fnD, addE, subE, ix0, ix1, dropS, asgG, tupG, consG, nameG, nilG, lstD, andD, orD, tstD, ownS, appS, len_tup, len_lst, tup_tup, wipeE, set1, set2, typ_int, typ_tup, typ_non, typ_lst, isF, chainD, asT, truD, len_row, typ_row]) ⟨rfl, [], by simp⟩
theorem ints_map {xs : List Int} : intsOf (xs.map D.int) = some xs := by
  induction xs with
  | nil => rfl
  | cons a r ih =>
    show (intsOf (r.map D.int)).map (a :: ·) = _
    rw [ih]
    rfl
theorem min_ge {xs : List Int} {a : Int} (hx : ∀ x ∈ a :: xs, -35 ≤ x ∧ x ≤ 35) : ∃ m : Int, -35 ≤ m ∧ ∀ M, minLF [.lst ((a :: xs).map D.int)] M = ok (.int m) M := by
  refine ⟨mnI a xs, (hx _ (mnI_mem a xs)).1, fun M => ?_⟩
  have e : intsL M (.lst ((a :: xs).map D.int)) = some (a :: xs) := ints_map
  show (match intsL M (.lst ((a :: xs).map D.int)) with
    | some (n :: ns) => ok (D.int (mnI n ns)) M
    | _ => none) = _
  rw [e]
theorem max_le {xs : List Int} {a : Int} (hx : ∀ x ∈ a :: xs, -35 ≤ x ∧ x ≤ 35) : ∃ m : Int, m ≤ 35 ∧ ∀ M, maxLF [.lst ((a :: xs).map D.int)] M = ok (.int m) M := by
  refine ⟨mxI a xs, (hx _ (mxI_mem a xs)).2, fun M => ?_⟩
  have e : intsL M (.lst ((a :: xs).map D.int)) = some (a :: xs) := ints_map
  show (match intsL M (.lst ((a :: xs).map D.int)) with
    | some (n :: ns) => ok (D.int (mxI n ns)) M
    | _ => none) = _
  rw [e]
theorem at_last {α : Type} {xs : List α} {x : α} {n : Nat} (hl : xs.length = n + 1) (hx : xs[n]? = some x) : atI xs (-1) = some x := by
  have e : ixN xs.length (-1) = some n := by
    unfold ixN
    rw [hl, if_neg (by decide), if_pos (show -((n + 1 : Nat) : Int) ≤ -1 by omega)]
    exact congrArg _ (show ((-1 : Int) + ((n + 1 : Nat) : Int)).toNat = n by omega)
  unfold atI
  rw [e]
  exact hx
theorem rimlow_ok (v : VF w h H W) : m_is_rim_low [tabD w h (hD H)] M = ok (.bl true) M := by
  have w1 := v.w1
  have h1 := v.h1
  have w2 := v.w2
  have h2 := v.h2
  let R0 : List Int := (List.range w).map fun x => H x 0
  let R1 : List Int := (List.range w).map fun x => H x (h - 1)
  let C0 : List Int := (List.range h).map fun y => H 0 y
  let C1 : List Int := (List.range h).map fun y => H (w - 1) y
  have ix0 : ∀ M, ixF (tabD w h (hD H)) (.int 0) M = ok (.tup (R0.map D.int)) M := fun M => by
    rw [ix_row0 h1]
    show ok (rowD w fun x => hD H x 0) M = _
    unfold rowD
    rw [List.map_map]
    rfl
  have ix1 : ∀ M, ixF (tabD w h (hD H)) (.int (-1)) M = ok (.tup (R1.map D.int)) M := fun M => by
    refine (ix_tup (d := rowD w fun x => hD H x (h - 1)) (at_last (n := h - 1) (by rw [List.length_map, List.length_range]; omega) ?_)).trans ?_
    · rw [List.getElem?_map, List.getElem?_range (by omega)]
      rfl
    · unfold rowD
      rw [List.map_map]
      rfl
  have hr : ∀ y M, ixF (rowD w fun x => hD H x y) (.int 0) M = ok (.int (H 0 y)) M := fun y M => ix_row0 w1
  have hl : ∀ y M, ixF (rowD w fun x => hD H x y) (.int (-1)) M = ok (.int (H (w - 1) y)) M := fun y M => ix_tup (at_last (n := w - 1) (by rw [List.length_map, List.length_range]; omega) (by
    rw [List.getElem?_map, List.getElem?_range (by omega)]
    rfl))
  have it : ∀ (e : DL.Env) M, e[0]? = some (some (tabD w h (hD H))) → itD (nameD 0) e M = ok ((List.range h).map fun y => rowD w fun x => hD H x y, fun _ => True) M := fun e M he => it_row (by
    unfold nameD
    rw [he])
  have bd : ∀ z ∈ R0 ++ R1 ++ C0 ++ C1, -35 ≤ z ∧ z ≤ 35 := fun z hz => by
    have key : ∀ x y, x < w → y < h → (x = 0 ∨ x + 1 = w ∨ y = 0 ∨ y + 1 = h) → -35 ≤ H x y ∧ H x y ≤ 35 := fun x y hx hy c => by
      have := v.rim x y hx hy (by
        unfold rimB
        rcases c with c | c | c | c <;> simp [c])
      omega
    simp only [List.mem_append] at hz
    rcases hz with ((hz | hz) | hz) | hz
    · obtain ⟨x, hx, rfl⟩ := List.mem_map.mp hz
      exact key x 0 (List.mem_range.mp hx) (by omega) (by omega)
    · obtain ⟨x, hx, rfl⟩ := List.mem_map.mp hz
      exact key x (h - 1) (List.mem_range.mp hx) (by omega) (by omega)
    · obtain ⟨x, hx, rfl⟩ := List.mem_map.mp hz
      exact key 0 x (by omega) (List.mem_range.mp hx) (by omega)
    · obtain ⟨x, hx, rfl⟩ := List.mem_map.mp hz
      exact key (w - 1) x (by omega) (List.mem_range.mp hx) (by omega)
  have ln : (R0 ++ R1 ++ C0 ++ C1).length = w + w + h + h := by simp [R0, R1, C0, C1]; omega
  obtain ⟨a, xs, hE⟩ : ∃ a xs, R0 ++ R1 ++ C0 ++ C1 = a :: xs := by
    cases hc : R0 ++ R1 ++ C0 ++ C1 with
    | nil =>
      rw [hc] at ln
      simp at ln
      omega
    | cons a xs => exact ⟨a, xs, rfl⟩
  rw [hE] at bd
  obtain ⟨mn, n1, n2⟩ := min_ge bd
  obtain ⟨mx, x1, x2⟩ := max_le bd
  rw [← hE] at n2 x2
  have cat : ∀ M, addF (.tup (R0.map D.int)) (.tup (R1.map D.int)) M = ok (.tup ((R0 ++ R1).map D.int)) M := fun M => by
    have hne : R0.map D.int ≠ [] := by
      intro z
      have := congrArg List.length z
      simp [R0] at this
      omega
    show (if (R0.map D.int).length + (R1.map D.int).length ≤ sizeLine ∧ R0.map D.int ≠ [] then ok (D.tup (R0.map D.int ++ R1.map D.int)) M else none) = _
    rw [if_pos ⟨sz_ok (by simp [R0, R1]; omega), hne⟩, List.map_append]
  have lst : ∀ M, lstcF [.tup ((R0 ++ R1).map D.int)] M = ok (.lst ((R0 ++ R1).map D.int)) M := fun _ => rfl
  have addl : ∀ (xs ys : List Int) M, xs.length + ys.length ≤ 1000 → addF (.lst (xs.map D.int)) (.lst (ys.map D.int)) M = ok (.lst ((xs ++ ys).map D.int)) M := fun xs ys M hz => by
    show (if (xs.map D.int).length + (ys.map D.int).length ≤ sizeLine then ok (D.lst (xs.map D.int ++ ys.map D.int)) M else none) = _
    rw [if_pos (sz_ok (by simp; omega)), List.map_append]
  have l0 : (R0 ++ R1).length + C0.length ≤ 1000 := by simp [R0, R1, C0]; omega
  have l1 : (R0 ++ R1 ++ C0).length + C1.length ≤ 1000 := by simp [R0, R1, C0, C1]; omega
  have ad1 := fun M => addl (R0 ++ R1) C0 M l0
  have ad2 := fun M => addl (R0 ++ R1 ++ C0) C1 M l1
  obtain ⟨R, hR⟩ : ∃ R, R = tabD w h (hD H) := ⟨_, rfl⟩
  rw [← hR] at ix0 ix1 it ⊢
  have c0 : ∀ M, cutE (compD (set1 2) (cD (.bl true)) (binD ixF (nameD 2) (cD (.int 0))) [2] (itD (nameD 0))) [some R, none, none] M = ok (.lst (C0.map D.int)) M := fun M => by
    have q := comp_v (set := set1 2) (vs := [2]) (g := fun y : Nat => rowD w fun x => hD H x y) (f := fun y : Nat => D.int (H 0 y)) (de := binD ixF (nameD 2) (cD (.int 0))) (di := itD (nameD 0)) (e := [some R, none, none]) (M := M) (List.range h) (it _ _ rfl) (by simp; omega) (fun y hy => ⟨_, rfl, fun M => by
      have q1 := hr y
      generalize (rowD w fun x => hD H x y) = Q at *
      simp [seqS, ifS, retS, raiseF, raiseS, consA, nilA, binD, callD, nameD, cD, bindE_v, thenS_v, bindE_x, thenS_x, unD, parS, asgS, tupD, int2F, eq_int, ne_int, intF0, negF, notF, nilS, brD, fnD, addE, subE, ix0, ix1, dropS, asgG, tupG, consG, nameG, nilG, lstD, andD, orD, tstD, ownS, appS, len_tup, len_lst, tup_tup, wipeE, set1, set2, typ_int, typ_tup, typ_non, typ_lst, isF, chainD, asT, truD, len_row, typ_row, wipeE, q1]⟩) (fun _ _ => rfl)
    rw [List.map_map]
    exact q
  have c1 : ∀ M, cutE (compD (set1 2) (cD (.bl true)) (binD ixF (nameD 2) (unD negF (cD (.int 1)))) [2] (itD (nameD 0))) [some R, none, none] M = ok (.lst (C1.map D.int)) M := fun M => by
    have q := comp_v (set := set1 2) (vs := [2]) (g := fun y : Nat => rowD w fun x => hD H x y) (f := fun y : Nat => D.int (H (w - 1) y)) (de := binD ixF (nameD 2) (unD negF (cD (.int 1)))) (di := itD (nameD 0)) (e := [some R, none, none]) (M := M) (List.range h) (it _ _ rfl) (by simp; omega) (fun y hy => ⟨_, rfl, fun M => by
      have q1 := hl y
      generalize (rowD w fun x => hD H x y) = Q at *
      simp [seqS, ifS, retS, raiseF, raiseS, consA, nilA, binD, callD, nameD, cD, bindE_v, thenS_v, bindE_x, thenS_x, unD, parS, asgS, tupD, int2F, eq_int, ne_int, intF0, negF, notF, nilS, brD, fnD, addE, subE, ix0, ix1, dropS, asgG, tupG, consG, nameG, nilG, lstD, andD, orD, tstD, ownS, appS, len_tup, len_lst, tup_tup, wipeE, set1, set2, typ_int, typ_tup, typ_non, typ_lst, isF, chainD, asT, truD, len_row, typ_row, wipeE, q1]⟩) (fun _ _ => rfl)
    rw [List.map_map]
    exact q
  generalize C0.map D.int = c0l at *
  generalize C1.map D.int = c1l at *
  generalize (R0 ++ R1).map D.int = rr at *
  generalize R0.map D.int = r0 at *
  generalize R1.map D.int = r1 at *
  generalize (R0 ++ R1 ++ C0 ++ C1).map D.int = ee at *
  generalize (R0 ++ R1 ++ C0).map D.int = e3 at *
  have t1 : decide ((-35 : Int) ≤ mn) = true := decide_eq_true n1
  have t2 : decide (mx ≤ (35 : Int)) = true := decide_eq_true x1
  refine fv_rt0 (e0 := [some R, none, none]) rfl ?_ rfl
  unfold den_is_rim_low
  rw [seq_nx (e' := [some R, some (.lst ee), none]) (M' := M) (by simp [seqS, ifS, retS, raiseF, raiseS, consA, nilA, binD, callD, nameD, cD, bindE_v, thenS_v, bindE_x, thenS_x, unD, parS, asgS, tupD, int2F, eq_int, ne_int, intF0, negF, notF, nilS, brD, fnD, addE, subE, ix0, ix1, dropS, asgG, tupG, consG, nameG, nilG, lstD, andD, orD, tstD, ownS, appS, len_tup, len_lst, tup_tup, wipeE, set1, set2, typ_int, typ_tup, typ_non, typ_lst, isF, chainD, asT, truD, len_row, typ_row, ix0, ix1, cat, lst, c0, c1, ad1, ad2])]
  simp [seqS, ifS, retS, raiseF, raiseS, consA, nilA, binD, callD, nameD, cD, bindE_v, thenS_v, bindE_x, thenS_x, unD, parS, asgS, tupD, int2F, eq_int, ne_int, intF0, negF, notF, nilS, brD, fnD, addE, subE, ix0, ix1, dropS, asgG, tupG, consG, nameG, nilG, lstD, andD, orD, tstD, ownS, appS, len_tup, len_lst, tup_tup, wipeE, set1, set2, typ_int, typ_tup, typ_non, typ_lst, isF, chainD, asT, truD, len_row, typ_row, n2, x2, le_int, t1, t2]
end
end K02
namespace K02
open PySem L2 DL
section
variable {w h n : Nat} {f : Nat → Nat → D} {g : Nat → D} {M : Store} {H : Nat → Nat → Int} {W : Nat → Nat → Int × Int}
theorem zip_rows {da db : DenE} {e : DL.Env} {f1 f2 : Nat → D} (ha : ∀ M, da e M = ok (rowD n f1) M) (hb : ∀ M, db e M = ok (rowD n f2) M) (M : Store) : zipD (consA da (consA db nilA)) e M = ok (zipI ((List.range n).map f1) ((List.range n).map f2), fun _ => True) M := by
  unfold zipD
  simp only [consA, nilA, ha, hb, bindE_v]
  rfl
theorem zip_rows_get {f1 f2 : Nat → D} {x : Nat} {d : D} (h : (zipI ((List.range n).map f1) ((List.range n).map f2))[x]? = some d) : x < n ∧ d = .tup [f1 x, f2 x] := by
  obtain ⟨a, b, ha, hb, rfl⟩ := zip_get h
  have lt := (List.getElem?_eq_some_iff.mp ha).1
  simp only [List.length_map, List.length_range] at lt
  rw [List.getElem?_map, List.getElem?_range lt] at ha hb
  rw [← Option.some.inj ha, ← Option.some.inj hb]
  exact ⟨lt, rfl⟩
theorem map_get {n : Nat} {f1 : Nat → D} {x : Nat} {d : D} (h : ((List.range n).map f1)[x]? = some d) : x < n ∧ d = f1 x := by
  have lt := (List.getElem?_eq_some_iff.mp h).1
  simp only [List.length_map, List.length_range] at lt
  rw [List.getElem?_map, List.getElem?_range lt] at h
  exact ⟨lt, (Option.some.inj h).symm⟩
theorem wrong_ok (v : VF w h H W) : m_wrong_with_heights [tabD w h (hD H)] M = ok .non M := by
  have w1 := v.w1
  have h1 := v.h1
  have w2 := v.w2
  have h2 := v.h2
  have i0 : ∀ M, ixF (tabD w h (hD H)) (.int 0) M = ok (rowD w fun x => hD H x 0) M := fun M => ix_row0 h1
  have i1 : ∀ M, ixF (rowD w fun x => hD H x 0) (.int 0) M = ok (.int (H 0 0)) M := fun M => ix_row0 w1
  have a1 : ∀ M, m_is_side_long [tabD w h (hD H)] M = ok (.bl true) M := fun M => side_long h1 h2
  have a2 : ∀ M, m_is_side_long [rowD w fun x => hD H x 0] M = ok (.bl true) M := fun M => side_long w1 w2
  have a3 : ∀ M, m_are_steps_beside [rowD w fun x => hD H x 0] M = ok (.bl true) M := fun M => bsteps_ok w1 fun x hx => v.sx x 0 hx h1
  have a4 : ∀ M, m_is_rim_low [tabD w h (hD H)] M = ok (.bl true) M := fun M => rimlow_ok v
  have tl : ∀ (e : DL.Env) M, e[0]? = some (some (tabD w h (hD H))) → itD (slpD (nameD 0) (someO (cD (.int 1))) noneO noneO) e M = ok ((List.range (h - 1)).map fun y => rowD w fun x => hD H x (y + 1), fun _ => True) M := fun e M he => it_tup (slp_tail (g := fun y => rowD w fun x => hD H x y) (by
    unfold nameD
    rw [he]) h2 (by omega))
  have ln : ∀ M, lenF [tabD w h (hD H)] M = ok (.int (h : Int)) M := fun M => len_row
  have lw : ∀ y M, lenF [rowD w fun x => hD H x y] M = ok (.int (w : Int)) M := fun y M => len_row
  have ty : ∀ y M, typF [rowD w fun x => hD H x y] M = ok (.ty "tuple") M := fun y M => rfl
  have pz : ∀ M, fmodF (.int (H 0 0)) (.int 2) M = ok (.int 0) M := fun M => by
    rw [fmd (by decide)]
    have := v.par 0 0 (by omega) (by omega)
    rw [show (H 0 0) % 2 = 0 by omega]
  have ix : ∀ y M, ixF (rowD w fun x => hD H x y) (.int 0) M = ok (.int (H 0 y)) M := fun y M => ix_row0 w1
  obtain ⟨A, hA⟩ : ∃ A : Int, A = ((H 0 0).natAbs : Int) := ⟨_, rfl⟩
  have b3 : ∀ M, absF [.int (H 0 0)] M = ok (.int A) M := fun M => abs_is hA
  obtain ⟨wi, hwi⟩ : ∃ i : Int, i = (w : Int) := ⟨_, rfl⟩
  obtain ⟨hi, hhi⟩ : ∃ i : Int, i = (h : Int) := ⟨_, rfl⟩
  rw [← hwi] at lw
  rw [← hhi] at ln
  obtain ⟨R, hR⟩ : ∃ R, R = tabD w h (hD H) := ⟨_, rfl⟩
  rw [← hR] at i0 a1 a4 tl ln ⊢
  obtain ⟨Q, hQ⟩ : ∃ Q : Nat → D, Q = fun y => rowD w fun x => hD H x y := ⟨_, rfl⟩
  have hQ' : ∀ y, (rowD w fun x => hD H x y) = Q y := fun y => by rw [hQ]
  simp only [hQ'] at i0 i1 a2 a3 tl lw ty ix
  let B : Nat → Nat → Int := fun y x => if x = 0 then H 0 y else H (x - 1) (y + 1)
  refine fv_wp (e0 := [some R, none, none, none, none, none, none, none]) rfl ?_ rfl
  unfold den_wrong_with_heights
  refine wp_nx (e' := [some R, none, none, none, none, none, none, none]) (M' := M) (by simp [seqS, ifS, retS, raiseF, raiseS, consA, nilA, binD, callD, nameD, cD, bindE_v, thenS_v, bindE_x, thenS_x, unD, parS, asgS, tupD, int2F, eq_int, ne_int, intF0, negF, notF, nilS, brD, fnD, addE, subE, ix0, ix1, dropS, asgG, tupG, consG, nameG, nilG, lstD, andD, orD, tstD, ownS, appS, len_tup, len_lst, tup_tup, wipeE, set1, set2, typ_int, typ_tup, typ_non, typ_lst, isF, chainD, asT, truD, len_row, typ_row, i0, a1, a2]) ?_
  refine wp_nx (e' := [some R, some (.int (H 0 0)), none, none, none, none, none, none]) (M' := M) (by simp [seqS, ifS, retS, raiseF, raiseS, consA, nilA, binD, callD, nameD, cD, bindE_v, thenS_v, bindE_x, thenS_x, unD, parS, asgS, tupD, int2F, eq_int, ne_int, intF0, negF, notF, nilS, brD, fnD, addE, subE, ix0, ix1, dropS, asgG, tupG, consG, nameG, nilG, lstD, andD, orD, tstD, ownS, appS, len_tup, len_lst, tup_tup, wipeE, set1, set2, typ_int, typ_tup, typ_non, typ_lst, isF, chainD, asT, truD, len_row, typ_row, i0, i1]) ?_
  refine wp_nx (e' := [some R, some (.int (H 0 0)), none, none, none, none, none, none]) (M' := M) (by simp [seqS, ifS, retS, raiseF, raiseS, consA, nilA, binD, callD, nameD, cD, bindE_v, thenS_v, bindE_x, thenS_x, unD, parS, asgS, tupD, int2F, eq_int, ne_int, intF0, negF, notF, nilS, brD, fnD, addE, subE, ix0, ix1, dropS, asgG, tupG, consG, nameG, nilG, lstD, andD, orD, tstD, ownS, appS, len_tup, len_lst, tup_tup, wipeE, set1, set2, typ_int, typ_tup, typ_non, typ_lst, isF, chainD, asT, truD, len_row, typ_row, pz, i0, a3]) ?_
  refine wp_nx (e' := [some R, some (.int (H 0 0)), some (.int wi), none, none, none, none, none]) (M' := M) (by simp [seqS, ifS, retS, raiseF, raiseS, consA, nilA, binD, callD, nameD, cD, bindE_v, thenS_v, bindE_x, thenS_x, unD, parS, asgS, tupD, int2F, eq_int, ne_int, intF0, negF, notF, nilS, brD, fnD, addE, subE, ix0, ix1, dropS, asgG, tupG, consG, nameG, nilG, lstD, andD, orD, tstD, ownS, appS, len_tup, len_lst, tup_tup, wipeE, set1, set2, typ_int, typ_tup, typ_non, typ_lst, isF, chainD, asT, truD, len_row, typ_row, i0, lw]) ?_
  refine wp_nx (e' := [some R, some (.int (H 0 0)), some (.int wi), some (Q 0), none, none, none, none]) (M' := M) (by simp [seqS, ifS, retS, raiseF, raiseS, consA, nilA, binD, callD, nameD, cD, bindE_v, thenS_v, bindE_x, thenS_x, unD, parS, asgS, tupD, int2F, eq_int, ne_int, intF0, negF, notF, nilS, brD, fnD, addE, subE, ix0, ix1, dropS, asgG, tupG, consG, nameG, nilG, lstD, andD, orD, tstD, ownS, appS, len_tup, len_lst, tup_tup, wipeE, set1, set2, typ_int, typ_tup, typ_non, typ_lst, isF, chainD, asT, truD, len_row, typ_row, i0]) ?_
  refine wp_for_nx ((List.range (h - 1)).map fun y => Q (y + 1)) (fun j e M' => M' = M ∧ ∃ a b c d, e = [some R, some (.int (H 0 0)), some (.int wi), some (Q j), a, b, c, d]) (tl _ _ rfl) (fun j d e M' hd hi => ?_) (fun _ _ _ => trivial) ⟨rfl, _, _, _, _, rfl⟩ (fun e' M' hi => ?_)
  · obtain ⟨rfl, a, b, c, d', rfl⟩ := hi
    obtain ⟨hj, rfl⟩ := map_get hd
    have zr : ∀ (b c d : Option D) (M : Store), zipD (consA (nameD 4) (consA (nameD 3) nilA)) [some R, some (.int (H 0 0)), some (.int wi), some (Q j), some (Q (j + 1)), b, c, d] M = ok (zipI ((List.range w).map fun x => hD H x (j + 1)) ((List.range w).map fun x => hD H x j), fun _ => True) M := fun b c d M => zip_rows (fun M => by
      show ok (Q (j + 1)) M = _
      rw [← hQ']) (fun M => by
      show ok (Q j) M = _
      rw [← hQ']) M
    have q1 := ix j
    have q2 := lw (j + 1)
    have q3 := ty (j + 1)
    refine ⟨trivial, [some R, some (.int (H 0 0)), some (.int wi), some (Q j), some (Q (j + 1)), b, c, d'], M', rfl, ?_⟩
    refine wp_nx (e' := [some R, some (.int (H 0 0)), some (.int wi), some (Q j), some (Q (j + 1)), b, c, d']) (M' := M') (by
      generalize Q (j + 1) = P at *
      generalize H 0 0 = k0 at *
      simp [seqS, ifS, retS, raiseF, raiseS, consA, nilA, binD, callD, nameD, cD, bindE_v, thenS_v, bindE_x, thenS_x, unD, parS, asgS, tupD, int2F, eq_int, ne_int, intF0, negF, notF, nilS, brD, fnD, addE, subE, ix0, ix1, dropS, asgG, tupG, consG, nameG, nilG, lstD, andD, orD, tstD, ownS, appS, len_tup, len_lst, tup_tup, wipeE, set1, set2, typ_int, typ_tup, typ_non, typ_lst, isF, chainD, asT, truD, len_row, typ_row, q2, q3]) ?_
    refine wp_nx (e' := [some R, some (.int (H 0 0)), some (.int wi), some (Q j), some (Q (j + 1)), some (.int (H 0 j)), c, d']) (M' := M') (by
      generalize Q (j + 1) = P at *
      generalize Q j = P' at *
      generalize H 0 0 = k0 at *
      simp [seqS, ifS, retS, raiseF, raiseS, consA, nilA, binD, callD, nameD, cD, bindE_v, thenS_v, bindE_x, thenS_x, unD, parS, asgS, tupD, int2F, eq_int, ne_int, intF0, negF, notF, nilS, brD, fnD, addE, subE, ix0, ix1, dropS, asgG, tupG, consG, nameG, nilG, lstD, andD, orD, tstD, ownS, appS, len_tup, len_lst, tup_tup, wipeE, set1, set2, typ_int, typ_tup, typ_non, typ_lst, isF, chainD, asT, truD, len_row, typ_row, q1]) ?_
    refine wp_for_nx (zipI ((List.range w).map fun x => hD H x (j + 1)) ((List.range w).map fun x => hD H x j)) (fun x e M'' => M'' = M' ∧ ∃ c d, e = [some R, some (.int (H 0 0)), some (.int wi), some (Q j), some (Q (j + 1)), some (.int (B j x)), c, d]) (zr _ _ _ _) (fun x d e M2 hd hi => ?_) (fun _ _ _ => trivial) ⟨rfl, _, _, rfl⟩ (fun e' M2 hi => ?_)
    · obtain ⟨rfl, c, d', rfl⟩ := hi
      obtain ⟨hx, rfl⟩ := zip_rows_get hd
      have n1 : (H x (j + 1) - B j x).natAbs = 1 := by
        show (H x (j + 1) - (if x = 0 then H 0 j else H (x - 1) (j + 1))).natAbs = 1
        by_cases c : x = 0
        · subst c
          rw [if_pos rfl]
          exact v.sy 0 j hx (by omega)
        · rw [if_neg c]
          have := v.sx (x - 1) (j + 1) (by omega) (by omega)
          rwa [show x - 1 + 1 = x by omega] at this
      have n2 := v.sy x j hx (by omega)
      have hB : B j (x + 1) = H x (j + 1) := by
        show (if x + 1 = 0 then H 0 j else H (x + 1 - 1) (j + 1)) = _
        rw [if_neg (by omega)]
        rfl
      rw [hB]
      obtain ⟨pr, hpr⟩ : ∃ z : Int, z = (H x (j + 1) - B j x) * (H x (j + 1) - H x j) := ⟨_, rfl⟩
      have pn : pr.natAbs = 1 := by rw [hpr, Int.natAbs_mul, n1, n2]
      have em : ∀ M, mulF (.int (H x (j + 1) - B j x)) (.int (H x (j + 1) - H x j)) M = ok (.int pr) M := fun M => by
        rw [hpr]
        exact mulB (k := 1) (l := 1) (by unfold Bd; omega) (by unfold Bd; omega) (by decide)
      have p1 := fun M => nin_pm (M := M) pn
      clear hpr
      show True ∧ ∃ e1 M1, tupG 2 (consG (nameG 6) (consG (nameG 7) nilG)) (.tup [.int (H x (j + 1)), .int (H x j)]) _ _ = _ ∧ _
      generalize B j x = bb at *
      generalize H x (j + 1) = u at *
      generalize H x j = l at *
      generalize H 0 0 = k0 at *
      generalize Q (j + 1) = P at *
      generalize Q j = P' at *
      refine ⟨trivial, [some R, some (.int k0), some (.int wi), some P', some P, some (.int bb), some (.int u), some (.int l)], M2, by simp [seqS, ifS, retS, raiseF, raiseS, consA, nilA, binD, callD, nameD, cD, bindE_v, thenS_v, bindE_x, thenS_x, unD, parS, asgS, tupD, int2F, eq_int, ne_int, intF0, negF, notF, nilS, brD, fnD, addE, subE, ix0, ix1, dropS, asgG, tupG, consG, nameG, nilG, lstD, andD, orD, tstD, ownS, appS, len_tup, len_lst, tup_tup, wipeE, set1, set2, typ_int, typ_tup, typ_non, typ_lst, isF, chainD, asT, truD, len_row, typ_row], ?_⟩
      refine wp_nx (e' := [some R, some (.int k0), some (.int wi), some P', some P, some (.int bb), some (.int u), some (.int l)]) (M' := M2) (by simp [seqS, ifS, retS, raiseF, raiseS, consA, nilA, binD, callD, nameD, cD, bindE_v, thenS_v, bindE_x, thenS_x, unD, parS, asgS, tupD, int2F, eq_int, ne_int, intF0, negF, notF, nilS, brD, fnD, addE, subE, ix0, ix1, dropS, asgG, tupG, consG, nameG, nilG, lstD, andD, orD, tstD, ownS, appS, len_tup, len_lst, tup_tup, wipeE, set1, set2, typ_int, typ_tup, typ_non, typ_lst, isF, chainD, asT, truD, len_row, typ_row]) ?_
      refine wp_nx (e' := [some R, some (.int k0), some (.int wi), some P', some P, some (.int bb), some (.int u), some (.int l)]) (M' := M2) (by simp [seqS, ifS, retS, raiseF, raiseS, consA, nilA, binD, callD, nameD, cD, bindE_v, thenS_v, bindE_x, thenS_x, unD, parS, asgS, tupD, int2F, eq_int, ne_int, intF0, negF, notF, nilS, brD, fnD, addE, subE, ix0, ix1, dropS, asgG, tupG, consG, nameG, nilG, lstD, andD, orD, tstD, ownS, appS, len_tup, len_lst, tup_tup, wipeE, set1, set2, typ_int, typ_tup, typ_non, typ_lst, isF, chainD, asT, truD, len_row, typ_row, em, p1]) ?_
      exact wp_of (M' := M2) (.nx [some R, some (.int k0), some (.int wi), some P', some P, some (.int u), some (.int u), some (.int l)]) (by simp [seqS, ifS, retS, raiseF, raiseS, consA, nilA, binD, callD, nameD, cD, bindE_v, thenS_v, bindE_x, thenS_x, unD, parS, asgS, tupD, int2F, eq_int, ne_int, intF0, negF, notF, nilS, brD, fnD, addE, subE, ix0, ix1, dropS, asgG, tupG, consG, nameG, nilG, lstD, andD, orD, tstD, ownS, appS, len_tup, len_lst, tup_tup, wipeE, set1, set2, typ_int, typ_tup, typ_non, typ_lst, isF, chainD, asT, truD, len_row, typ_row]) ⟨_, .inl rfl, rfl, _, _, rfl⟩
    · obtain ⟨rfl, c, d', rfl⟩ := hi
      refine wp_of (M' := M2) (.nx [some R, some (.int (H 0 0)), some (.int wi), some (Q (j + 1)), some (Q (j + 1)), some (.int (B j (zipI ((List.range w).map fun x => hD H x (j + 1)) ((List.range w).map fun x => hD H x j)).length)), c, d']) ?_ ⟨_, .inl rfl, rfl, _, _, _, _, rfl⟩
      generalize B j _ = bb
      generalize Q (j + 1) = P at *
      generalize H 0 0 = k0 at *
      simp [seqS, ifS, retS, raiseF, raiseS, consA, nilA, binD, callD, nameD, cD, bindE_v, thenS_v, bindE_x, thenS_x, unD, parS, asgS, tupD, int2F, eq_int, ne_int, intF0, negF, notF, nilS, brD, fnD, addE, subE, ix0, ix1, dropS, asgG, tupG, consG, nameG, nilG, lstD, andD, orD, tstD, ownS, appS, len_tup, len_lst, tup_tup, wipeE, set1, set2, typ_int, typ_tup, typ_non, typ_lst, isF, chainD, asT, truD, len_row, typ_row]
  · obtain ⟨rfl, a, b, c, d', rfl⟩ := hi
    generalize Q ((List.range (h - 1)).map fun y => Q (y + 1)).length = P
    refine wp_of (M' := M') (.rt .non) ?_ ⟨rfl, [], by simp⟩
    refine seq_rt ?_
    generalize H 0 0 = k0 at *
    by_cases hc : A + wi + hi - 2 ≤ 35
    · simp [seqS, ifS, retS, raiseF, raiseS, consA, nilA, binD, callD, nameD, cD, bindE_v, thenS_v, bindE_x, thenS_x, unD, parS, asgS, tupD, int2F, eq_int, ne_int, intF0, negF, notF, nilS, brD, fnD, addE, subE, ix0, ix1, dropS, asgG, tupG, consG, nameG, nilG, lstD, andD, orD, tstD, ownS, appS, len_tup, len_lst, tup_tup, wipeE, set1, set2, typ_int, typ_tup, typ_non, typ_lst, isF, chainD, asT, truD, len_row, typ_row, b3, ln, le_int, hc]
    · simp [seqS, ifS, retS, raiseF, raiseS, consA, nilA, binD, callD, nameD, cD, bindE_v, thenS_v, bindE_x, thenS_x, unD, parS, asgS, tupD, int2F, eq_int, ne_int, intF0, negF, notF, nilS, brD, fnD, addE, subE, ix0, ix1, dropS, asgG, tupG, consG, nameG, nilG, lstD, andD, orD, tstD, ownS, appS, len_tup, len_lst, tup_tup, wipeE, set1, set2, typ_int, typ_tup, typ_non, typ_lst, isF, chainD, asT, truD, len_row, typ_row, b3, ln, le_int, hc, a4]
theorem wrows_ok (v : VF w h H W) : m_are_worth_rows [tabD w h (wD W), szD w h] M = ok (.bl true) M := by
  have w2 := v.w2
  have h2 := v.h2
  obtain ⟨wi, hwi⟩ : ∃ i : Int, i = (w : Int) := ⟨_, rfl⟩
  obtain ⟨hi, hhi⟩ : ∃ i : Int, i = (h : Int) := ⟨_, rfl⟩
  have t1 : ∀ M, m_is_tuple_of [tabD w h (wD W), .int hi] M = ok (.bl true) M := fun M => by
    rw [hhi, tupof_row, decide_eq_true rfl]
  have it : ∀ (e : DL.Env) M, e[0]? = some (some (tabD w h (wD W))) → itD (nameD 0) e M = ok ((List.range h).map fun y => rowD w fun x => wD W x y, fun _ => True) M := fun e M he => it_row (by
    unfold nameD
    rw [he])
  have lw : ∀ y M, lenF [rowD w fun x => wD W x y] M = ok (.int wi) M := fun y M => by rw [hwi]; exact len_row
  have ty : ∀ y M, typF [rowD w fun x => wD W x y] M = ok (.ty "tuple") M := fun y M => rfl
  have it2 : ∀ y (e : DL.Env) M, e[4]? = some (some (rowD w fun x => wD W x y)) → itD (nameD 4) e M = ok ((List.range w).map fun x => wD W x y, fun _ => True) M := fun y e M he => it_row (by
    unfold nameD
    rw [he])
  show m_are_worth_rows [_, .tup [.int (w : Int), .int (h : Int)]] M = _
  rw [← hwi, ← hhi]
  obtain ⟨R, hR⟩ : ∃ R, R = tabD w h (wD W) := ⟨_, rfl⟩
  rw [← hR] at t1 it ⊢
  let S : D := .tup [.int wi, .int hi]
  refine fv_wp (e0 := [some R, some S, none, none, none, none, none, none]) rfl ?_ rfl
  unfold den_are_worth_rows
  refine wp_nx (e' := [some R, some S, some (.int wi), some (.int hi), none, none, none, none]) (M' := M) (by simp [seqS, ifS, retS, raiseF, raiseS, consA, nilA, binD, callD, nameD, cD, bindE_v, thenS_v, bindE_x, thenS_x, unD, parS, asgS, tupD, int2F, eq_int, ne_int, intF0, negF, notF, nilS, brD, fnD, addE, subE, ix0, ix1, dropS, asgG, tupG, consG, nameG, nilG, lstD, andD, orD, tstD, ownS, appS, len_tup, len_lst, tup_tup, wipeE, set1, set2, typ_int, typ_tup, typ_non, typ_lst, isF, chainD, asT, truD, len_row, typ_row, S]) ?_
  refine wp_nx (e' := [some R, some S, some (.int wi), some (.int hi), none, none, none, none]) (M' := M) (by simp [seqS, ifS, retS, raiseF, raiseS, consA, nilA, binD, callD, nameD, cD, bindE_v, thenS_v, bindE_x, thenS_x, unD, parS, asgS, tupD, int2F, eq_int, ne_int, intF0, negF, notF, nilS, brD, fnD, addE, subE, ix0, ix1, dropS, asgG, tupG, consG, nameG, nilG, lstD, andD, orD, tstD, ownS, appS, len_tup, len_lst, tup_tup, wipeE, set1, set2, typ_int, typ_tup, typ_non, typ_lst, isF, chainD, asT, truD, len_row, typ_row, t1]) ?_
  refine wp_for_nx ((List.range h).map fun y => rowD w fun x => wD W x y) (fun _ e M' => M' = M ∧ ∃ a b c d, e = [some R, some S, some (.int wi), some (.int hi), a, b, c, d]) (it _ _ rfl) (fun j d e M' hd hi => ?_) (fun _ _ _ => trivial) ⟨rfl, _, _, _, _, rfl⟩ (fun e' M' hi => ?_)
  · obtain ⟨rfl, a, b, c, d', rfl⟩ := hi
    obtain ⟨hy, rfl⟩ := map_get hd
    have q2 := lw j
    have q3 := ty j
    have q4 := it2 j
    generalize (rowD w fun x => wD W x j) = P at *
    refine ⟨trivial, [some R, some S, some (.int wi), some (.int hi), some P, b, c, d'], M', rfl, ?_⟩
    refine wp_nx (e' := [some R, some S, some (.int wi), some (.int hi), some P, b, c, d']) (M' := M') (by simp [seqS, ifS, retS, raiseF, raiseS, consA, nilA, binD, callD, nameD, cD, bindE_v, thenS_v, bindE_x, thenS_x, unD, parS, asgS, tupD, int2F, eq_int, ne_int, intF0, negF, notF, nilS, brD, fnD, addE, subE, ix0, ix1, dropS, asgG, tupG, consG, nameG, nilG, lstD, andD, orD, tstD, ownS, appS, len_tup, len_lst, tup_tup, wipeE, set1, set2, typ_int, typ_tup, typ_non, typ_lst, isF, chainD, asT, truD, len_row, typ_row, q2, q3]) ?_
    refine wp_for ((List.range w).map fun x => wD W x j) (fun _ e M'' => M'' = M' ∧ ∃ b c d, e = [some R, some S, some (.int wi), some (.int hi), some P, b, c, d]) (q4 _ _ rfl) (fun x d e M2 hd hi => ?_) (fun _ _ _ => trivial) ⟨rfl, _, _, _, rfl⟩ (fun e' M2 hi => ?_)
    · obtain ⟨rfl, b, c, d', rfl⟩ := hi
      obtain ⟨hx, rfl⟩ := map_get hd
      obtain ⟨p1, p2, p3⟩ := v.wor x j hx hy
      show True ∧ ∃ e1 M1, nameG 5 (.tup [.int (W x j).1, .int (W x j).2]) _ _ = _ ∧ _
      generalize (W x j).1 = u at *
      generalize (W x j).2 = l at *
      let V : D := .tup [.int u, .int l]
      have gc : ∀ M, gcdF [.int u, .int l] M = ok (.int 1) M := fun M => by rw [gcd_ev, p2]; rfl
      refine ⟨trivial, [some R, some S, some (.int wi), some (.int hi), some P, some V, c, d'], M2, rfl, ?_⟩
      refine wp_nx (e' := [some R, some S, some (.int wi), some (.int hi), some P, some V, c, d']) (M' := M2) (by simp [seqS, ifS, retS, raiseF, raiseS, consA, nilA, binD, callD, nameD, cD, bindE_v, thenS_v, bindE_x, thenS_x, unD, parS, asgS, tupD, int2F, eq_int, ne_int, intF0, negF, notF, nilS, brD, fnD, addE, subE, ix0, ix1, dropS, asgG, tupG, consG, nameG, nilG, lstD, andD, orD, tstD, ownS, appS, len_tup, len_lst, tup_tup, wipeE, set1, set2, typ_int, typ_tup, typ_non, typ_lst, isF, chainD, asT, truD, len_row, typ_row, V]) ?_
      refine wp_nx (e' := [some R, some S, some (.int wi), some (.int hi), some P, some V, some (.int u), some (.int l)]) (M' := M2) (by simp [seqS, ifS, retS, raiseF, raiseS, consA, nilA, binD, callD, nameD, cD, bindE_v, thenS_v, bindE_x, thenS_x, unD, parS, asgS, tupD, int2F, eq_int, ne_int, intF0, negF, notF, nilS, brD, fnD, addE, subE, ix0, ix1, dropS, asgG, tupG, consG, nameG, nilG, lstD, andD, orD, tstD, ownS, appS, len_tup, len_lst, tup_tup, wipeE, set1, set2, typ_int, typ_tup, typ_non, typ_lst, isF, chainD, asT, truD, len_row, typ_row, V]) ?_
      refine wp_nx (e' := [some R, some S, some (.int wi), some (.int hi), some P, some V, some (.int u), some (.int l)]) (M' := M2) (by simp [seqS, ifS, retS, raiseF, raiseS, consA, nilA, binD, callD, nameD, cD, bindE_v, thenS_v, bindE_x, thenS_x, unD, parS, asgS, tupD, int2F, eq_int, ne_int, intF0, negF, notF, nilS, brD, fnD, addE, subE, ix0, ix1, dropS, asgG, tupG, consG, nameG, nilG, lstD, andD, orD, tstD, ownS, appS, len_tup, len_lst, tup_tup, wipeE, set1, set2, typ_int, typ_tup, typ_non, typ_lst, isF, chainD, asT, truD, len_row, typ_row]) ?_
      refine wp_of (M' := M2) (.nx [some R, some S, some (.int wi), some (.int hi), some P, some V, some (.int u), some (.int l)]) ?_ ⟨_, .inl rfl, rfl, _, _, _, rfl⟩
      have nl : ¬ l < 1 := by omega
      by_cases hc : l = 1
      · simp [seqS, ifS, retS, raiseF, raiseS, consA, nilA, binD, callD, nameD, cD, bindE_v, thenS_v, bindE_x, thenS_x, unD, parS, asgS, tupD, int2F, eq_int, ne_int, intF0, negF, notF, nilS, brD, fnD, addE, subE, ix0, ix1, dropS, asgG, tupG, consG, nameG, nilG, lstD, andD, orD, tstD, ownS, appS, len_tup, len_lst, tup_tup, wipeE, set1, set2, typ_int, typ_tup, typ_non, typ_lst, isF, chainD, asT, truD, len_row, typ_row, hc, p3]
      · simp [seqS, ifS, retS, raiseF, raiseS, consA, nilA, binD, callD, nameD, cD, bindE_v, thenS_v, bindE_x, thenS_x, unD, parS, asgS, tupD, int2F, eq_int, ne_int, intF0, negF, notF, nilS, brD, fnD, addE, subE, ix0, ix1, dropS, asgG, tupG, consG, nameG, nilG, lstD, andD, orD, tstD, ownS, appS, len_tup, len_lst, tup_tup, wipeE, set1, set2, typ_int, typ_tup, typ_non, typ_lst, isF, chainD, asT, truD, len_row, typ_row, hc, lt_int, nl, gc]
    · obtain ⟨rfl, b, c, d', rfl⟩ := hi
      exact ⟨_, .inl rfl, rfl, _, _, _, _, rfl⟩
  · obtain ⟨rfl, a, b, c, d', rfl⟩ := hi
    exact wp_of (.rt (.bl true)) (M' := M') (by simp [seqS, ifS, retS, raiseF, raiseS, consA, nilA, binD, callD, nameD, cD, bindE_v, thenS_v, bindE_x, thenS_x, unD, parS, asgS, tupD, int2F, eq_int, ne_int, intF0, negF, notF, nilS, brD, fnD, addE, subE, ix0, ix1, dropS, asgG, tupG, consG, nameG, nilG, lstD, andD, orD, tstD, ownS, appS, len_tup, len_lst, tup_tup, wipeE, set1, set2, typ_int, typ_tup, typ_non, typ_lst, isF, chainD, asT, truD, len_row, typ_row]) ⟨rfl, [], by simp⟩
theorem need_ok (v : VF w h H W) : m_need_field [fieldD w h H W] M = ok .non M := by
  obtain ⟨R, hR⟩ : ∃ R, R = tabD w h (hD H) := ⟨_, rfl⟩
  obtain ⟨U, hU⟩ : ∃ R, R = tabD w h (wD W) := ⟨_, rfl⟩
  obtain ⟨S, hS⟩ : ∃ S, S = szD w h := ⟨_, rfl⟩
  have a1 : ∀ M, m_wrong_with_heights [R] M = ok .non M := fun M => by rw [hR]; exact wrong_ok v
  have a3 : ∀ M, m_sides [R] M = ok S M := fun M => by rw [hR, hS]; exact sides_ok v.h1
  have a4 : ∀ M, m_are_worth_rows [U, S] M = ok (.bl true) M := fun M => by rw [hU, hS]; exact wrows_ok v
  show m_need_field [.tup [tabD w h (hD H), tabD w h (wD W)]] M = _
  rw [← hR, ← hU]
  refine fv_wpn (e0 := [some (.tup [R, U]), none, none, none]) rfl ?_
  unfold den_need_field
  refine wp_nx (e' := [some (.tup [R, U]), none, none, none]) (M' := M) (by simp [seqS, ifS, retS, raiseF, raiseS, consA, nilA, binD, callD, nameD, cD, bindE_v, thenS_v, bindE_x, thenS_x, unD, parS, asgS, tupD, int2F, eq_int, ne_int, intF0, negF, notF, nilS, brD, fnD, addE, subE, ix0, ix1, dropS, asgG, tupG, consG, nameG, nilG, lstD, andD, orD, tstD, ownS, appS, len_tup, len_lst, tup_tup, wipeE, set1, set2, typ_int, typ_tup, typ_non, typ_lst, isF, chainD, asT, truD, len_row, typ_row, tupof_tup]) ?_
  refine wp_nx (e' := [some (.tup [R, U]), some R, some U, none]) (M' := M) (by simp [seqS, ifS, retS, raiseF, raiseS, consA, nilA, binD, callD, nameD, cD, bindE_v, thenS_v, bindE_x, thenS_x, unD, parS, asgS, tupD, int2F, eq_int, ne_int, intF0, negF, notF, nilS, brD, fnD, addE, subE, ix0, ix1, dropS, asgG, tupG, consG, nameG, nilG, lstD, andD, orD, tstD, ownS, appS, len_tup, len_lst, tup_tup, wipeE, set1, set2, typ_int, typ_tup, typ_non, typ_lst, isF, chainD, asT, truD, len_row, typ_row]) ?_
  refine wp_nx (e' := [some (.tup [R, U]), some R, some U, some .non]) (M' := M) (by simp [seqS, ifS, retS, raiseF, raiseS, consA, nilA, binD, callD, nameD, cD, bindE_v, thenS_v, bindE_x, thenS_x, unD, parS, asgS, tupD, int2F, eq_int, ne_int, intF0, negF, notF, nilS, brD, fnD, addE, subE, ix0, ix1, dropS, asgG, tupG, consG, nameG, nilG, lstD, andD, orD, tstD, ownS, appS, len_tup, len_lst, tup_tup, wipeE, set1, set2, typ_int, typ_tup, typ_non, typ_lst, isF, chainD, asT, truD, len_row, typ_row, a1]) ?_
  refine wp_nx (e' := [some (.tup [R, U]), some R, some U, some .non]) (M' := M) (by simp [seqS, ifS, retS, raiseF, raiseS, consA, nilA, binD, callD, nameD, cD, bindE_v, thenS_v, bindE_x, thenS_x, unD, parS, asgS, tupD, int2F, eq_int, ne_int, intF0, negF, notF, nilS, brD, fnD, addE, subE, ix0, ix1, dropS, asgG, tupG, consG, nameG, nilG, lstD, andD, orD, tstD, ownS, appS, len_tup, len_lst, tup_tup, wipeE, set1, set2, typ_int, typ_tup, typ_non, typ_lst, isF, chainD, asT, truD, len_row, typ_row, isNone]) ?_
  exact wp_of (M' := M) (.nx [some (.tup [R, U]), some R, some U, some .non]) (by simp [seqS, ifS, retS, raiseF, raiseS, consA, nilA, binD, callD, nameD, cD, bindE_v, thenS_v, bindE_x, thenS_x, unD, parS, asgS, tupD, int2F, eq_int, ne_int, intF0, negF, notF, nilS, brD, fnD, addE, subE, ix0, ix1, dropS, asgG, tupG, consG, nameG, nilG, lstD, andD, orD, tstD, ownS, appS, len_tup, len_lst, tup_tup, wipeE, set1, set2, typ_int, typ_tup, typ_non, typ_lst, isF, chainD, asT, truD, len_row, typ_row, a3, a4]) ⟨⟨_, rfl⟩, [], by simp⟩
end
end K02
namespace K02
open PySem L2 DL
section
variable {w h n : Nat} {f g : Nat → D} {M : Store} {H : Nat → Nat → Int} {W : Nat → Nat → Int × Int} {e : DL.Env} {da de : DenE} {di : DenI}
/-- tuple([.. for .. in ..]) over n things -/
theorem tupcomp {i : Nat} (hdi : ∀ M, di e M = ok ((List.range n).map g, fun _ => True) M) (hn : n ≤ 100) (hde : ∀ k, k < n → ∀ M, de (e.set i (some (g k))) M = ok (f k) M) (nl : ∀ k, k < n → nlD 0 (f k) = true) (M : Store) :
    callD tupcF (consA (cutE (compD (set1 i) (cD (.bl true)) de [i] di)) nilA) e M = ok (rowD n f) M := by
  have hc := comp_v (M := M) (set := set1 i) (vs := [i]) (de := de) (g := g) (f := f) (e := e) (List.range n) (hdi M) (by rw [List.length_range]; omega) (fun k hk => ⟨e.set i (some (g k)), by
    show some ((e.set i none).set i (some (g k))) = _
    rw [List.set_set], hde k (List.mem_range.mp hk)⟩) (fun k hk => nl k (List.mem_range.mp hk))
  show bindE (bindE (cutE _ e M) fun d M1 => bindE (ok [] M1) fun ds M2 => ok (d :: ds) M2) tupcF = _
  rw [hc]
  exact tup_row (by omega)
theorem nl_tab {f : Nat → Nat → D} (hf : ∀ x y, nlD 0 (f x y) = true) : nlD 0 (tabD w h f) = true := nl_row fun y _ => nl_row fun x _ => hf x y
theorem range_snoc {f : Nat → D} (n : Nat) : (List.range n).map f ++ [f n] = (List.range (n + 1)).map f := by
  rw [List.range_succ, List.map_append]
  rfl
theorem rng_get {n j : Nat} {f : Nat → D} {d : D} (h : ((List.range n).map f)[j]? = some d) : j < n ∧ d = f j := by
  have lt := get_lt h
  rw [List.length_map, List.length_range] at lt
  rw [List.getElem?_map, List.getElem?_range lt] at h
  exact ⟨lt, (Option.some.inj h).symm⟩
end
end K02
namespace K02
open PySem L2 DL
theorem at_mod {ns : List Int} {k : Nat} (h : 0 < ns.length) : ∃ z, atI (ns.map D.int) ((k : Int) % (ns.length : Int)) = some (.int z) := by
  have lt := Nat.mod_lt k h
  refine ⟨ns[k % ns.length], ?_⟩
  rw [show (k : Int) % (ns.length : Int) = ((k % ns.length : Nat) : Int) from (Int.natCast_emod _ _).symm]
  exact at_nat (by simp [lt])
/-- the next cell -/
theorem cell_ok {ns : List Int} {k0 : Nat} {M : Store} (h : M[0]? = some (.lst [.int (k0 : Int)])) (hk : k0 ≤ 5000) (hn : ns.length ≤ 63) : ∃ c : Int, 0 ≤ c ∧ c < 306783379 ∧ m__law_cell [.scr ns, .loc 0] M = ok (.int c) (M.set 0 (.lst [.int ((k0 + 1 : Nat) : Int)])) := by
  have lt : 0 < M.length := get_lt h
  obtain ⟨K, hK⟩ : ∃ K : Int, K = ((k0 + 1 : Nat) : Int) := ⟨_, rfl⟩
  obtain ⟨M', hM'⟩ : ∃ M', M' = M.set 0 (.lst [.int K]) := ⟨_, rfl⟩
  obtain ⟨k, hk0⟩ : ∃ k : Int, k = (k0 : Int) := ⟨_, rfl⟩
  rw [← hk0] at h
  have g' : M'[0]? = some (.lst [.int K]) := by
    rw [hM']
    simp [lt]
  have k0' : 1 ≤ K := by omega
  have k1' : K ≤ 5001 := by omega
  have hkK : k + 1 = K := by omega
  rw [← hK, ← hM']
  have mB : ∀ (x y : Int) M, Bd 45 x → Bd 45 y → mulF (.int x) (.int y) M = ok (.int (x * y)) M := fun x y M h1 h2 => mulB h1 h2 (by decide)
  have bK : Bd 45 K := by unfold Bd; omega
  have b31 : Bd 45 31 := by unfold Bd; decide
  have b79 : Bd 45 7919 := by unfold Bd; decide
  have b3k : Bd 45 (31 * K) := by unfold Bd; omega
  obtain ⟨base, hb⟩ : ∃ b : Int, b = 31 * K * K + 7919 * K := ⟨_, rfl⟩
  have ba0 : 0 ≤ base := by
    have : (0 : Int) ≤ 31 * K * K := Int.mul_nonneg (by omega) (by omega)
    omega
  let E : DL.Env := [some (.scr ns), some (.loc 0), some (.int K), some (.int base), none, none]
  have a1 : ∀ M, M[0]? = some (.lst [.int k]) → ixF (.loc 0) (.int 0) M = ok (.int k) M := fun M hm => ix_loc hm rfl
  have a2 : ixF (.loc 0) (.int 0) M' = ok (.int K) M' := ix_loc g' rfl
  have st1 : asgG (binD addF (binD ixF (nameD 1) (cD (.int 0))) (cD (.int 1))) (subG (nameD 1) (cD (.int 0))) [some (.scr ns), some (.loc 0), none, none, none, none] M = some (.nx [some (.scr ns), some (.loc 0), none, none, none, none], M') := by
    simp [seqS, ifS, retS, raiseF, raiseS, consA, nilA, binD, callD, nameD, cD, bindE_v, thenS_v, bindE_x, thenS_x, unD, parS, asgS, tupD, int2F, eq_int, ne_int, intF0, negF, notF, nilS, brD, fnD, addE, subE, ix0, ix1, dropS, asgG, tupG, consG, nameG, nilG, lstD, andD, orD, tstD, ownS, appS, len_tup, len_lst, tup_tup, wipeE, set1, set2, typ_int, typ_tup, typ_non, typ_lst, isF, chainD, asT, truD, len_row, typ_row, a1 M h, hkK, subG, h, ixN, hM']
  have st2 : asgS 2 (binD ixF (nameD 1) (cD (.int 0))) [some (.scr ns), some (.loc 0), none, none, none, none] M' = some (.nx [some (.scr ns), some (.loc 0), some (.int K), none, none, none], M') := by simp [seqS, ifS, retS, raiseF, raiseS, consA, nilA, binD, callD, nameD, cD, bindE_v, thenS_v, bindE_x, thenS_x, unD, parS, asgS, tupD, int2F, eq_int, ne_int, intF0, negF, notF, nilS, brD, fnD, addE, subE, ix0, ix1, dropS, asgG, tupG, consG, nameG, nilG, lstD, andD, orD, tstD, ownS, appS, len_tup, len_lst, tup_tup, wipeE, set1, set2, typ_int, typ_tup, typ_non, typ_lst, isF, chainD, asT, truD, len_row, typ_row, a2]
  have st3 : asgS 3 (binD addF (binD mulF (binD mulF (cD (.int 31)) (nameD 2)) (nameD 2)) (binD mulF (cD (.int 7919)) (nameD 2))) [some (.scr ns), some (.loc 0), some (.int K), none, none, none] M' = some (.nx E, M') := by
    simp [seqS, ifS, retS, raiseF, raiseS, consA, nilA, binD, callD, nameD, cD, bindE_v, thenS_v, bindE_x, thenS_x, unD, parS, asgS, tupD, int2F, eq_int, ne_int, intF0, negF, notF, nilS, brD, fnD, addE, subE, ix0, ix1, dropS, asgG, tupG, consG, nameG, nilG, lstD, andD, orD, tstD, ownS, appS, len_tup, len_lst, tup_tup, wipeE, set1, set2, typ_int, typ_tup, typ_non, typ_lst, isF, chainD, asT, truD, len_row, typ_row, mB _ _ _ b31 bK, mB _ _ _ b3k bK, mB _ _ _ b79 bK, hb, E]
  have last : ∀ (e : DL.Env) (b : Int), 0 ≤ b → e[3]? = some (some (.int b)) → Wp (retS (binD fdivF (binD fmodF (binD powF (binD fmodF (nameD 3) (cD (.int 2147483647))) (cD (.int 5))) (cD (.int 2147483647))) (cD (.int 7))) e M') (fun f M1 => M1 = M' ∧ ∃ c : Int, 0 ≤ c ∧ c < 306783379 ∧ f = .rt (.int c)) := by
    intro e b b0 h3
    obtain ⟨r, hr⟩ : ∃ r, r = b % 2147483647 := ⟨_, rfl⟩
    have r0 : 0 ≤ r := by omega
    have r1 : r < 2147483647 := by omega
    have rb : Bd 31 r := by unfold Bd; omega
    have e1 : ∀ M, fmodF (.int b) (.int 2147483647) M = ok (.int r) M := fun M => by rw [fmd (by decide), hr]
    obtain ⟨s, hs⟩ : ∃ s, s = r ^ 5 := ⟨_, rfl⟩
    have e2 : ∀ M, powF (.int r) (.int 5) M = ok (.int s) M := fun M => by
      rw [hs]
      exact pow_nat (n := 5) (by have := rb.lg; omega)
    obtain ⟨t, ht⟩ : ∃ t, t = s % 2147483647 := ⟨_, rfl⟩
    have e3 : ∀ M, fmodF (.int s) (.int 2147483647) M = ok (.int t) M := fun M => by rw [fmd (by decide), ht]
    have e4 : ∀ M, fdivF (.int t) (.int 7) M = ok (.int (t / 7)) M := fun M => fdv (by decide) (by unfold Bd; decide)
    exact wp_of (.rt (.int (t / 7))) (M' := M') (by simp [seqS, ifS, retS, raiseF, raiseS, consA, nilA, binD, callD, nameD, cD, bindE_v, thenS_v, bindE_x, thenS_x, unD, parS, asgS, tupD, int2F, eq_int, ne_int, intF0, negF, notF, nilS, brD, fnD, addE, subE, ix0, ix1, dropS, asgG, tupG, consG, nameG, nilG, lstD, andD, orD, tstD, ownS, appS, len_tup, len_lst, tup_tup, wipeE, set1, set2, typ_int, typ_tup, typ_non, typ_lst, isF, chainD, asT, truD, len_row, typ_row, h3, e1, e2, e3, e4]) ⟨rfl, t / 7, by omega, by omega, rfl⟩
  obtain ⟨L, hL⟩ : ∃ L : Int, L = (ns.length : Int) := ⟨_, rfl⟩
  have ln : ∀ M, lenF [.scr ns] M = ok (.int L) M := fun M => by rw [hL]; exact len_scr
  have key : Wp (den__law_cell [some (.scr ns), some (.loc 0), none, none, none, none] M) (fun f M1 => M1 = M' ∧ ∃ c : Int, 0 ≤ c ∧ c < 306783379 ∧ f = .rt (.int c)) := by
    unfold den__law_cell
    refine wp_nx st1 (wp_nx st2 (wp_nx st3 (wp_seq ?_)))
    by_cases hl : ns.length = 0
    · have l0 : ¬ 0 < L := by omega
      refine wp_of (.nx E) (M' := M') (by simp [seqS, ifS, retS, raiseF, raiseS, consA, nilA, binD, callD, nameD, cD, bindE_v, thenS_v, bindE_x, thenS_x, unD, parS, asgS, tupD, int2F, eq_int, ne_int, intF0, negF, notF, nilS, brD, fnD, addE, subE, ix0, ix1, dropS, asgG, tupG, consG, nameG, nilG, lstD, andD, orD, tstD, ownS, appS, len_tup, len_lst, tup_tup, wipeE, set1, set2, typ_int, typ_tup, typ_non, typ_lst, isF, chainD, asT, truD, len_row, typ_row, ln, l0, E]) (.inl ⟨E, rfl, ?_⟩)
      exact wp_nx (e' := E) (M' := M') (by simp [seqS, ifS, retS, raiseF, raiseS, consA, nilA, binD, callD, nameD, cD, bindE_v, thenS_v, bindE_x, thenS_x, unD, parS, asgS, tupD, int2F, eq_int, ne_int, intF0, negF, notF, nilS, brD, fnD, addE, subE, ix0, ix1, dropS, asgG, tupG, consG, nameG, nilG, lstD, andD, orD, tstD, ownS, appS, len_tup, len_lst, tup_tup, wipeE, set1, set2, typ_int, typ_tup, typ_non, typ_lst, isF, chainD, asT, truD, len_row, typ_row, ln, l0, E]) (last E base ba0 rfl)
    · have l0 : 0 < L := by omega
      have l1 : L ≤ 63 := by omega
      obtain ⟨z, hz⟩ := at_mod (ns := ns) (k := k0 + 1) (by omega)
      rw [← hK, ← hL] at hz
      obtain ⟨m, hm⟩ : ∃ m, m = K % L := ⟨_, rfl⟩
      obtain ⟨q, hq⟩ : ∃ q, q = K / L := ⟨_, rfl⟩
      rw [← hm] at hz
      have fm : ∀ M, fmodF (.int K) (.int L) M = ok (.int m) M := fun M => by rw [fmd l0, hm]
      have fd : ∀ M, fdivF (.int K) (.int L) M = ok (.int q) M := fun M => by rw [fdv l0 (by unfold Bd; omega), hq]
      have ix : ∀ M, ixF (.scr ns) (.int m) M = ok (.int z) M := fun M => ix_scr hz
      have p18 : ∀ M, powF (.int 10) (.int 18) M = ok (.int 1000000000000000000) M := fun M => pow_nat (n := 18) (by decide)
      have q0 : 0 ≤ q := by
        rw [hq]
        exact Int.ediv_nonneg (by omega) (by omega)
      have q1 : q ≤ 5001 := by
        rw [hq]
        exact Int.le_trans (Int.ediv_le_self _ (by omega)) k1'
      have rest : ∀ (a b : Option D), Wp (seqS (ifS (binD (gtF) (callD (lenF) (consA (nameD 0) (nilA))) (cD (.int 0))) (asgS 3 (binD addF (nameD 3) (binD mulF (binD fmodF (binD ixF (nameD 0) (binD fmodF (nameD 2) (callD (lenF) (consA (nameD 0) (nilA))))) (cD (.int 2147483629))) (binD addF (cD (.int 1)) (binD fdivF (nameD 2) (callD (lenF) (consA (nameD 0) (nilA)))))))) (nilS)) (retS (binD fdivF (binD fmodF (binD powF (binD fmodF (nameD 3) (cD (.int 2147483647))) (cD (.int 5))) (cD (.int 2147483647))) (cD (.int 7)))) [some (.scr ns), some (.loc 0), some (.int K), some (.int base), a, b] M') (fun f M1 => M1 = M' ∧ ∃ c : Int, 0 ≤ c ∧ c < 306783379 ∧ f = .rt (.int c)) := by
        intro a b
        obtain ⟨r, hr⟩ : ∃ r, r = z % 2147483629 := ⟨_, rfl⟩
        have fz : ∀ M, fmodF (.int z) (.int 2147483629) M = ok (.int r) M := fun M => by rw [fmd (by decide), hr]
        have r0 : 0 ≤ r := by omega
        have r1 : r < 2147483629 := by omega
        have mm := fun M => mB r (1 + q) M (by unfold Bd; omega) (by unfold Bd; omega)
        have rq : 0 ≤ r * (1 + q) := Int.mul_nonneg r0 (by omega)
        obtain ⟨b2, hb2⟩ : ∃ b2, b2 = base + r * (1 + q) := ⟨_, rfl⟩
        exact wp_nx (e' := [some (.scr ns), some (.loc 0), some (.int K), some (.int b2), a, b]) (M' := M') (by simp [seqS, ifS, retS, raiseF, raiseS, consA, nilA, binD, callD, nameD, cD, bindE_v, thenS_v, bindE_x, thenS_x, unD, parS, asgS, tupD, int2F, eq_int, ne_int, intF0, negF, notF, nilS, brD, fnD, addE, subE, ix0, ix1, dropS, asgG, tupG, consG, nameG, nilG, lstD, andD, orD, tstD, ownS, appS, len_tup, len_lst, tup_tup, wipeE, set1, set2, typ_int, typ_tup, typ_non, typ_lst, isF, chainD, asT, truD, len_row, typ_row, ln, l0, fm, ix, fz, fd, mm, ← hb2]) (last _ b2 (by omega) rfl)
      by_cases c2 : (1000000000000000000 : Int) ≤ z
      · by_cases c3 : q < 60
        · refine wp_if (M' := M') true (by simp [seqS, ifS, retS, raiseF, raiseS, consA, nilA, binD, callD, nameD, cD, bindE_v, thenS_v, bindE_x, thenS_x, unD, parS, asgS, tupD, int2F, eq_int, ne_int, intF0, negF, notF, nilS, brD, fnD, addE, subE, ix0, ix1, dropS, asgG, tupG, consG, nameG, nilG, lstD, andD, orD, tstD, ownS, appS, len_tup, len_lst, tup_tup, wipeE, set1, set2, typ_int, typ_tup, typ_non, typ_lst, isF, chainD, asT, truD, len_row, typ_row, ln, l0, fm, fd, ix, p18, ge_int, c2, c3, E]) (fun _ => ?_) (fun z => nomatch z)
          refine wp_nx (e' := [some (.scr ns), some (.loc 0), some (.int K), some (.int base), some (.int z), none]) (M' := M') (by simp [seqS, ifS, retS, raiseF, raiseS, consA, nilA, binD, callD, nameD, cD, bindE_v, thenS_v, bindE_x, thenS_x, unD, parS, asgS, tupD, int2F, eq_int, ne_int, intF0, negF, notF, nilS, brD, fnD, addE, subE, ix0, ix1, dropS, asgG, tupG, consG, nameG, nilG, lstD, andD, orD, tstD, ownS, appS, len_tup, len_lst, tup_tup, wipeE, set1, set2, typ_int, typ_tup, typ_non, typ_lst, isF, chainD, asT, truD, len_row, typ_row, ln, fm, ix, E]) ?_
          refine wp_for_nx ((List.range q.toNat).map fun (j : Nat) => D.int (j : Int)) (fun _ e M1 => M1 = M' ∧ ∃ own a, e = [some (.scr ns), some (.loc 0), some (.int K), some (.int base), some (.int own), a]) (it_rng (by
            rw [Int.toNat_of_nonneg q0]
            simp [seqS, ifS, retS, raiseF, raiseS, consA, nilA, binD, callD, nameD, cD, bindE_v, thenS_v, bindE_x, thenS_x, unD, parS, asgS, tupD, int2F, eq_int, ne_int, intF0, negF, notF, nilS, brD, fnD, addE, subE, ix0, ix1, dropS, asgG, tupG, consG, nameG, nilG, lstD, andD, orD, tstD, ownS, appS, len_tup, len_lst, tup_tup, wipeE, set1, set2, typ_int, typ_tup, typ_non, typ_lst, isF, chainD, asT, truD, len_row, typ_row, ln, fd]) (by omega)) (fun j d e M1 hd hi => ?_) (fun _ _ _ => trivial) ⟨rfl, z, none, rfl⟩ (fun e' M1 hi => ?_)
          · obtain ⟨rfl, own, a, rfl⟩ := hi
            have q : ∀ M, fdivF (.int own) (.int 306783379) M = ok (.int (own / 306783379)) M := fun M => fdv (by decide) (by unfold Bd; decide)
            obtain ⟨o2, ho2⟩ : ∃ o2, o2 = own / 306783379 := ⟨_, rfl⟩
            rw [← ho2] at q
            exact ⟨trivial, [some (.scr ns), some (.loc 0), some (.int K), some (.int base), some (.int own), some d], M1, rfl, wp_of (.nx [some (.scr ns), some (.loc 0), some (.int K), some (.int base), some (.int o2), some d]) (M' := M1) (by simp [seqS, ifS, retS, raiseF, raiseS, consA, nilA, binD, callD, nameD, cD, bindE_v, thenS_v, bindE_x, thenS_x, unD, parS, asgS, tupD, int2F, eq_int, ne_int, intF0, negF, notF, nilS, brD, fnD, addE, subE, ix0, ix1, dropS, asgG, tupG, consG, nameG, nilG, lstD, andD, orD, tstD, ownS, appS, len_tup, len_lst, tup_tup, wipeE, set1, set2, typ_int, typ_tup, typ_non, typ_lst, isF, chainD, asT, truD, len_row, typ_row, q]) ⟨_, .inl rfl, rfl, _, _, rfl⟩⟩
          · obtain ⟨rfl, own, a, rfl⟩ := hi
            by_cases c4 : 0 < own
            · have fo : ∀ M, fmodF (.int own) (.int 306783379) M = ok (.int (own % 306783379)) M := fun M => fmd (by decide)
              obtain ⟨o2, ho2⟩ : ∃ o2, o2 = own % 306783379 := ⟨_, rfl⟩
              rw [← ho2] at fo
              exact wp_of (.rt (.int o2)) (M' := M1) (by simp [seqS, ifS, retS, raiseF, raiseS, consA, nilA, binD, callD, nameD, cD, bindE_v, thenS_v, bindE_x, thenS_x, unD, parS, asgS, tupD, int2F, eq_int, ne_int, intF0, negF, notF, nilS, brD, fnD, addE, subE, ix0, ix1, dropS, asgG, tupG, consG, nameG, nilG, lstD, andD, orD, tstD, ownS, appS, len_tup, len_lst, tup_tup, wipeE, set1, set2, typ_int, typ_tup, typ_non, typ_lst, isF, chainD, asT, truD, len_row, typ_row, c4, fo]) (.inr ⟨(fun _ z => nomatch z), rfl, o2, by omega, by omega, rfl⟩)
            · exact wp_of (.nx [some (.scr ns), some (.loc 0), some (.int K), some (.int base), some (.int own), a]) (M' := M1) (by simp [seqS, ifS, retS, raiseF, raiseS, consA, nilA, binD, callD, nameD, cD, bindE_v, thenS_v, bindE_x, thenS_x, unD, parS, asgS, tupD, int2F, eq_int, ne_int, intF0, negF, notF, nilS, brD, fnD, addE, subE, ix0, ix1, dropS, asgG, tupG, consG, nameG, nilG, lstD, andD, orD, tstD, ownS, appS, len_tup, len_lst, tup_tup, wipeE, set1, set2, typ_int, typ_tup, typ_non, typ_lst, isF, chainD, asT, truD, len_row, typ_row, c4]) (.inl ⟨_, rfl, rest _ _⟩)
        · exact wp_of (.nx E) (M' := M') (by simp [seqS, ifS, retS, raiseF, raiseS, consA, nilA, binD, callD, nameD, cD, bindE_v, thenS_v, bindE_x, thenS_x, unD, parS, asgS, tupD, int2F, eq_int, ne_int, intF0, negF, notF, nilS, brD, fnD, addE, subE, ix0, ix1, dropS, asgG, tupG, consG, nameG, nilG, lstD, andD, orD, tstD, ownS, appS, len_tup, len_lst, tup_tup, wipeE, set1, set2, typ_int, typ_tup, typ_non, typ_lst, isF, chainD, asT, truD, len_row, typ_row, ln, l0, fm, fd, ix, p18, ge_int, c2, c3, E]) (.inl ⟨E, rfl, rest _ _⟩)
      · exact wp_of (.nx E) (M' := M') (by simp [seqS, ifS, retS, raiseF, raiseS, consA, nilA, binD, callD, nameD, cD, bindE_v, thenS_v, bindE_x, thenS_x, unD, parS, asgS, tupD, int2F, eq_int, ne_int, intF0, negF, notF, nilS, brD, fnD, addE, subE, ix0, ix1, dropS, asgG, tupG, consG, nameG, nilG, lstD, andD, orD, tstD, ownS, appS, len_tup, len_lst, tup_tup, wipeE, set1, set2, typ_int, typ_tup, typ_non, typ_lst, isF, chainD, asT, truD, len_row, typ_row, ln, l0, fm, fd, ix, p18, ge_int, c2, E]) (.inl ⟨E, rfl, rest _ _⟩)
  obtain ⟨f, M1, h1, rfl, c, c0, c1, rfl⟩ := key
  refine ⟨c, c0, c1, fv_rt2 (e0 := [some (.scr ns), some (.loc 0), none, none, none, none]) [] rfl (by rw [h1, List.append_nil]) (by rw [hM', List.length_set]) ?_ rfl⟩
  rw [hM']
  exact set_ok rfl
end K02
namespace K02
open PySem L2 DL
theorem wl_true {dt : DenE} {body : DenS} {f : Nat} {e e' : DL.Env} {M M1 M' : Store} (h1 : dt e M = ok (.bl true) M1) (h2 : body e M1 = some (.nx e', M')) : whileS dt body (f + 1) e M = whileS dt body f e' M' := by
  rw [whileS, h1]
  simp only [ok, h2]
theorem wl_false {dt : DenE} {body : DenS} {f : Nat} {e : DL.Env} {M M1 : Store} (h1 : dt e M = ok (.bl false) M1) : whileS dt body (f + 1) e M = some (.nx e, M1) := by
  rw [whileS, h1]
  simp only [ok]
theorem euclid : ∀ (f n m : Nat) (a b : D) (M : Store), m < f →
    whileS (binD (neF) (nameD 3) (cD (.int 0))) (parS 2 3 (nameD 3) (binD fmodF (nameD 2) (nameD 3))) f [some a, some b, some (.int (n : Int)), some (.int (m : Int)), none] M = some (.nx [some a, some b, some (.int ((Nat.gcd n m : Nat) : Int)), some (.int 0), none], M) := by
  intro f
  induction f with
  | zero => intro n m a b M h; omega
  | succ f ih =>
    intro n m a b M h
    by_cases h0 : m = 0
    · subst h0
      rw [wl_false (M1 := M) (by simp [seqS, ifS, retS, raiseF, raiseS, consA, nilA, binD, callD, nameD, cD, bindE_v, thenS_v, bindE_x, thenS_x, unD, parS, asgS, tupD, int2F, eq_int, ne_int, intF0, negF, notF, nilS, brD, fnD, addE, subE, ix0, ix1, dropS, asgG, tupG, consG, nameG, nilG, lstD, andD, orD, tstD, ownS, appS, len_tup, len_lst, tup_tup, wipeE, set1, set2, typ_int, typ_tup, typ_non, typ_lst, isF, chainD, asT, truD, len_row, typ_row])]
      simp
    · have lt : n % m < f := Nat.lt_of_lt_of_le (Nat.mod_lt _ (Nat.pos_of_ne_zero h0)) (by omega)
      have := ih m (n % m) a b M lt
      have g : Nat.gcd m (n % m) = Nat.gcd n m := by rw [Nat.gcd_comm n m, Nat.gcd_rec m n, Nat.gcd_comm]
      rw [g] at this
      obtain ⟨A, hA⟩ : ∃ A : Int, A = (n : Int) := ⟨_, rfl⟩
      obtain ⟨B, hB⟩ : ∃ A : Int, A = (m : Int) := ⟨_, rfl⟩
      obtain ⟨C, hC⟩ : ∃ A : Int, A = ((n % m : Nat) : Int) := ⟨_, rfl⟩
      have hm : B ≠ 0 := by omega
      have q : ∀ M, fmodF (.int A) (.int B) M = ok (.int C) M := fun M => by
        rw [fmd (by omega), hA, hB, hC, Int.natCast_emod]
      rw [← hA, ← hB]
      rw [← hB, ← hC] at this
      rw [wl_true (M1 := M) (M' := M) (e' := [some a, some b, some (.int B), some (.int C), none]) (by simp [seqS, ifS, retS, raiseF, raiseS, consA, nilA, binD, callD, nameD, cD, bindE_v, thenS_v, bindE_x, thenS_x, unD, parS, asgS, tupD, int2F, eq_int, ne_int, intF0, negF, notF, nilS, brD, fnD, addE, subE, ix0, ix1, dropS, asgG, tupG, consG, nameG, nilG, lstD, andD, orD, tstD, ownS, appS, len_tup, len_lst, tup_tup, wipeE, set1, set2, typ_int, typ_tup, typ_non, typ_lst, isF, chainD, asT, truD, len_row, typ_row, hm]) (by simp [seqS, ifS, retS, raiseF, raiseS, consA, nilA, binD, callD, nameD, cD, bindE_v, thenS_v, bindE_x, thenS_x, unD, parS, asgS, tupD, int2F, eq_int, ne_int, intF0, negF, notF, nilS, brD, fnD, addE, subE, ix0, ix1, dropS, asgG, tupG, consG, nameG, nilG, lstD, andD, orD, tstD, ownS, appS, len_tup, len_lst, tup_tup, wipeE, set1, set2, typ_int, typ_tup, typ_non, typ_lst, isF, chainD, asT, truD, len_row, typ_row, q])]
      exact this
/-- lowest terms of small numbers -/
theorem low_ok {a b : Int} (ha : a ≠ 0) (hb : 0 < b) (hb2 : b < 1000000) : ∃ p : Int × Int, 1 ≤ p.2 ∧ p.2 ≤ b ∧ p.1 ≠ 0 ∧ p.1.natAbs ≤ a.natAbs ∧ Nat.gcd p.1.natAbs p.2.natAbs = 1 ∧ ∀ M, m__law_low [.int a, .int b] M = ok (.tup [.int p.1, .int p.2]) M := by
  have g0 : 0 < Nat.gcd a.natAbs b.natAbs := Nat.gcd_pos_of_pos_right _ (by omega)
  have gl : Nat.gcd a.natAbs b.natAbs ≤ b.natAbs := Nat.gcd_le_right _ (by omega)
  have da : ((Nat.gcd a.natAbs b.natAbs : Nat) : Int) ∣ a := Int.natAbs_dvd_natAbs.mp (by simpa using Nat.gcd_dvd_left _ _)
  have db : ((Nat.gcd a.natAbs b.natAbs : Nat) : Int) ∣ b := Int.natAbs_dvd_natAbs.mp (by simpa using Nat.gcd_dvd_right _ _)
  have cop : Nat.gcd (a.natAbs / Nat.gcd a.natAbs b.natAbs) (b.natAbs / Nat.gcd a.natAbs b.natAbs) = 1 := Nat.gcd_div_gcd_div_gcd_of_pos_right (by omega)
  have eu := fun (a' b' : D) M => euclid (b.natAbs + 1) a.natAbs b.natAbs a' b' M (by omega)
  obtain ⟨G, hG⟩ : ∃ G : Int, G = ((Nat.gcd a.natAbs b.natAbs : Nat) : Int) := ⟨_, rfl⟩
  obtain ⟨A, hA⟩ : ∃ A : Int, A = (a.natAbs : Int) := ⟨_, rfl⟩
  obtain ⟨B, hB⟩ : ∃ A : Int, A = (b.natAbs : Int) := ⟨_, rfl⟩
  have hBb : B.natAbs = b.natAbs := by omega
  have ga : (a / G).natAbs = a.natAbs / Nat.gcd a.natAbs b.natAbs := by
    rw [hG, Int.natAbs_ediv_of_dvd da, Int.natAbs_natCast]
  have gb : (b / G).natAbs = b.natAbs / Nat.gcd a.natAbs b.natAbs := by
    rw [hG, Int.natAbs_ediv_of_dvd db, Int.natAbs_natCast]
  have b0 : 0 < b / G := by
    rw [hG] at *
    exact Int.ediv_pos_of_pos_of_dvd hb (by omega) db
  have a0 : a / G ≠ 0 := fun z => ha (by
    have := Int.ediv_mul_cancel (hG ▸ da)
    rw [z, Int.zero_mul] at this
    exact this.symm)
  refine ⟨(a / G, b / G), by omega, Int.ediv_le_self _ (by omega), a0, by rw [ga]; exact Nat.div_le_self _ _, by rw [ga, gb]; exact cop, fun M => ?_⟩
  have fa : ∀ M, fdivF (.int a) (.int G) M = ok (.int (a / G)) M := fun M => fdv (by omega) (by unfold Bd; omega)
  have fb : ∀ M, fdivF (.int b) (.int G) M = ok (.int (b / G)) M := fun M => fdv (by omega) (by unfold Bd; omega)
  have xa : ∀ M, absF [.int a] M = ok (.int A) M := fun M => abs_is hA
  have xb : ∀ M, absF [.int b] M = ok (.int B) M := fun M => abs_is hB
  have eu' : ∀ M, wlS (fuelN 3) (binD (neF) (nameD 3) (cD (.int 0))) (parS 2 3 (nameD 3) (binD fmodF (nameD 2) (nameD 3))) [some (.int a), some (.int b), some (.int A), some (.int B), none] M = some (.nx [some (.int a), some (.int b), some (.int G), some (.int 0), none], M) := fun M => by
    have hf : fuelN 3 [some (.int a), some (.int b), some (.int A), some (.int B), none] M = b.natAbs + 1 := by
      show B.natAbs + 1 = _
      rw [hBb]
    unfold wlS
    rw [hf, hA, hB, hG]
    exact eu _ _ M
  obtain ⟨p, hp⟩ : ∃ p, p = a / G := ⟨_, rfl⟩
  obtain ⟨q, hq⟩ : ∃ q, q = b / G := ⟨_, rfl⟩
  rw [← hp] at fa ⊢
  rw [← hq] at fb ⊢
  refine fv_rt0 (e0 := [some (.int a), some (.int b), none, none, none]) rfl ?_ rfl
  unfold den__law_low
  rw [seq_nx (e' := [some (.int a), some (.int b), some (.int A), some (.int B), none]) (M' := M) (by simp [seqS, ifS, retS, raiseF, raiseS, consA, nilA, binD, callD, nameD, cD, bindE_v, thenS_v, bindE_x, thenS_x, unD, parS, asgS, tupD, int2F, eq_int, ne_int, intF0, negF, notF, nilS, brD, fnD, addE, subE, ix0, ix1, dropS, asgG, tupG, consG, nameG, nilG, lstD, andD, orD, tstD, ownS, appS, len_tup, len_lst, tup_tup, wipeE, set1, set2, typ_int, typ_tup, typ_non, typ_lst, isF, chainD, asT, truD, len_row, typ_row, xa, xb]), seq_nx (eu' M)]
  rw [seq_nx (e' := [some (.int a), some (.int b), some (.int G), some (.int 0), some (.int G)]) (M' := M) (by simp [seqS, ifS, retS, raiseF, raiseS, consA, nilA, binD, callD, nameD, cD, bindE_v, thenS_v, bindE_x, thenS_x, unD, parS, asgS, tupD, int2F, eq_int, ne_int, intF0, negF, notF, nilS, brD, fnD, addE, subE, ix0, ix1, dropS, asgG, tupG, consG, nameG, nilG, lstD, andD, orD, tstD, ownS, appS, len_tup, len_lst, tup_tup, wipeE, set1, set2, typ_int, typ_tup, typ_non, typ_lst, isF, chainD, asT, truD, len_row, typ_row, hb])]
  simp [seqS, ifS, retS, raiseF, raiseS, consA, nilA, binD, callD, nameD, cD, bindE_v, thenS_v, bindE_x, thenS_x, unD, parS, asgS, tupD, int2F, eq_int, ne_int, intF0, negF, notF, nilS, brD, fnD, addE, subE, ix0, ix1, dropS, asgG, tupG, consG, nameG, nilG, lstD, andD, orD, tstD, ownS, appS, len_tup, len_lst, tup_tup, wipeE, set1, set2, typ_int, typ_tup, typ_non, typ_lst, isF, chainD, asT, truD, len_row, typ_row, fa, fb]
end K02
namespace K02
open PySem L2 DL
theorem last_ix : ∀ n, n < 13 → sliceRange (sliceBounds (some (-1)) none none n).1 (sliceBounds (some (-1)) none none n).2.1 (sliceBounds (some (-1)) none none n).2.2 = if n = 0 then [] else [n - 1] := by decide
section
variable {M : Store} {e : DL.Env} {da : DenE} {n : Nat} {xs : List D}
theorem slp_last0 (hd : da e M = ok (.loc n) M) (hn : M[n]? = some (.lst [])) : slpD da (someO (unD negF (cD (.int 1)))) noneO noneO e M = ok (.lst []) M := by
  unfold slpD
  rw [hd, bindE_v]
  show slcF (.loc n) (some (-1)) none none M = _
  unfold slcF
  simp [getL, hn, pickL, last_ix 0 (by decide)]
theorem slp_last1 {k : Nat} {d : D} (hd : da e M = ok (.loc n) M) (hn : M[n]? = some (.lst xs)) (hl : xs.length = k + 1) (hk : k < 12) (hx : xs[k]? = some d) : slpD da (someO (unD negF (cD (.int 1)))) noneO noneO e M = ok (.lst [d]) M := by
  unfold slpD
  rw [hd, bindE_v]
  show slcF (.loc n) (some (-1)) none none M = _
  have hg : getL M (.loc n) = some xs := by simp [getL, hn]
  unfold slcF pickL
  rw [hg]
  dsimp only
  rw [if_neg (by decide), hl, last_ix (k + 1) (by omega), if_neg (by omega)]
  rw [Nat.add_sub_cancel]
  simp [hx]
theorem pick_ok {S : List Int} {N X : Int} (hS : S ≠ []) (hS2 : S.length ≤ 100) (h11 : e[11]? = some (some (.lst (S.map D.int)))) (h7 : e[7]? = some (some (.int N))) (h9 : e[9]? = some (some (.int X))) (hX : 0 ≤ X) :
    ∃ c ∈ S, ∀ M, binD ixF (nameD 11) (binD fmodF (binD andF (binD shrF (nameD 7) (nameD 9)) (cD (.int 1))) (callD lenF (consA (nameD 11) nilA))) e M = ok (.int c) M := by
  obtain ⟨j, hj⟩ : ∃ j, j = N / 2 ^ X.toNat := ⟨_, rfl⟩
  obtain ⟨i, hi⟩ : ∃ i, i = Builtin.bitAnd j 1 := ⟨_, rfl⟩
  obtain ⟨L, hL⟩ : ∃ L : Int, L = (S.length : Int) := ⟨_, rfl⟩
  have l0 : 0 < S.length := List.length_pos_iff.mpr hS
  obtain ⟨t, ht⟩ : ∃ t, t = i % L := ⟨_, rfl⟩
  have t0 : 0 ≤ t := by
    rw [ht]
    exact Int.emod_nonneg _ (by omega)
  have t1 : t < L := by
    rw [ht]
    exact Int.emod_lt_of_pos _ (by omega)
  have lt : t.toNat < S.length := by omega
  have a1 : ∀ M, shrF (.int N) (.int X) M = ok (.int j) M := fun M => by
    rw [hj]
    exact if_pos (decide_eq_true hX)
  have a2 : ∀ M, andF (.int j) (.int 1) M = ok (.int i) M := fun M => by rw [hi]; rfl
  have a3 : ∀ M, lenF [.lst (S.map D.int)] M = ok (.int L) M := fun M => by rw [len_lst, hL, List.length_map]
  have a4 : ∀ M, fmodF (.int i) (.int L) M = ok (.int t) M := fun M => by rw [fmd (by omega), ht]
  have a5 : ∀ M, ixF (.lst (S.map D.int)) (.int t) M = ok (.int S[t.toNat]) M := fun M => ix_lst (by
    have q := at_nat (xs := S.map D.int) (n := t.toNat) (x := .int S[t.toNat]) (by simp [lt])
    rwa [Int.toNat_of_nonneg t0] at q)
  refine ⟨S[t.toNat], List.getElem_mem lt, fun M => ?_⟩
  obtain ⟨c, hc⟩ : ∃ c, c = S[t.toNat] := ⟨_, rfl⟩
  rw [← hc] at a5 ⊢
  have b7 : ∀ M, nameD 7 e M = ok (.int N) M := fun M => by simp [nameD, h7]
  have b9 : ∀ M, nameD 9 e M = ok (.int X) M := fun M => by simp [nameD, h9]
  have b11 : ∀ M, nameD 11 e M = ok (.lst (S.map D.int)) M := fun M => by simp [nameD, h11]
  simp only [binD, callD, consA, nilA, b7, b9, b11, bindE_v, cD, a1, a2, a3, a4, a5]
end
section
variable {M : Store} {s0 s1 s2 s3 s5 s6 a11 a12 a13 : Option D} {B N X : Int} {Rw : Nat} {row : List D}
abbrev envH (s0 s1 s2 s3 s5 s6 a10 a11 a12 a13 : Option D) (B N X : Int) (Rw : Nat) : DL.Env := [s0, s1, s2, s3, some (.int B), s5, s6, some (.int N), some (.loc Rw), some (.int X), a10, a11, a12, a13]
noncomputable abbrev A2 : DenS := asgS 11 (lstD (consA (nameD 4) (consA (nameD 4) (nilA))))
noncomputable abbrev A3 : DenS := ifS (binD (neF) (nameD 10) (lstD (nilA))) (seqS (asgS 11 (lstD (consA (binD subF (binD ixF (nameD 10) (cD (.int 0))) (cD (.int 1))) (consA (binD addF (binD ixF (nameD 10) (cD (.int 0))) (cD (.int 1))) (nilA))))) (asgS 11 (cutE (compD (set1 13) (binD (eqF) (callD (absF) (consA (binD subF (nameD 13) (binD ixF (nameD 10) (unD negF (cD (.int 1))))) (nilA))) (cD (.int 1))) (nameD 13) [13] (itD (nameD 11)))))) (nilS)
noncomputable abbrev A4 : DenS := appS (nameD 8) (binD ixF (nameD 11) (binD fmodF (binD andF (binD shrF (nameD 7) (nameD 9)) (cD (.int 1))) (callD (lenF) (consA (nameD 11) (nilA)))))
theorem append_ok {S : List Int} {a10 : Option D} (hS : S ≠ []) (hS2 : S.length ≤ 100) (hX : 0 ≤ X) (hM : M[Rw]? = some (.lst row)) (hr : row.length < 100) : ∃ c ∈ S, A4 (envH s0 s1 s2 s3 s5 s6 a10 (some (.lst (S.map D.int))) a12 a13 B N X Rw) M = some (.nx (envH s0 s1 s2 s3 s5 s6 a10 (some (.lst (S.map D.int))) a12 a13 B N X Rw), M.set Rw (.lst (row ++ [.int c]))) := by
  obtain ⟨c, hc, h⟩ := pick_ok (e := envH s0 s1 s2 s3 s5 s6 a10 (some (.lst (S.map D.int))) a12 a13 B N X Rw) (S := S) (N := N) (X := X) hS hS2 rfl rfl rfl hX
  exact ⟨c, hc, app_ok rfl (h M) hM (by omega)⟩
theorem turn_nil (hX : 0 ≤ X) (hM : M[Rw]? = some (.lst row)) (hr : row.length < 100) : ∃ e', seqS A2 (seqS A3 A4) (envH s0 s1 s2 s3 s5 s6 (some (.lst [])) a11 a12 a13 B N X Rw) M = some (.nx (envH s0 s1 s2 s3 s5 s6 (some (.lst [])) e' a12 a13 B N X Rw), M.set Rw (.lst (row ++ [.int B]))) := by
  obtain ⟨c, hc, h⟩ := append_ok (M := M) (s0 := s0) (s1 := s1) (s2 := s2) (s3 := s3) (s5 := s5) (s6 := s6) (a10 := some (.lst [])) (a12 := a12) (a13 := a13) (B := B) (N := N) (X := X) (Rw := Rw) (row := row) (S := [B, B]) (by simp) (by simp) hX hM hr
  have cB : c = B := by simpa using hc
  subst cB
  refine ⟨some (.lst [.int c, .int c]), ?_⟩
  rw [seq_nx (e' := envH s0 s1 s2 s3 s5 s6 (some (.lst [])) (some (.lst [.int c, .int c])) a12 a13 c N X Rw) (M' := M) (by simp [seqS, ifS, retS, raiseF, raiseS, consA, nilA, binD, callD, nameD, cD, bindE_v, thenS_v, bindE_x, thenS_x, unD, parS, asgS, tupD, int2F, eq_int, ne_int, intF0, negF, notF, nilS, brD, fnD, addE, subE, ix0, ix1, dropS, asgG, tupG, consG, nameG, nilG, lstD, andD, orD, tstD, ownS, appS, len_tup, len_lst, tup_tup, wipeE, set1, set2, typ_int, typ_tup, typ_non, typ_lst, isF, chainD, asT, truD, len_row, typ_row])]
  have q : neF (.lst []) (.lst []) M = ok (.bl false) M := rfl
  rw [seq_nx (e' := envH s0 s1 s2 s3 s5 s6 (some (.lst [])) (some (.lst [.int c, .int c])) a12 a13 c N X Rw) (M' := M) (by simp [seqS, ifS, retS, raiseF, raiseS, consA, nilA, binD, callD, nameD, cD, bindE_v, thenS_v, bindE_x, thenS_x, unD, parS, asgS, tupD, int2F, eq_int, ne_int, intF0, negF, notF, nilS, brD, fnD, addE, subE, ix0, ix1, dropS, asgG, tupG, consG, nameG, nilG, lstD, andD, orD, tstD, ownS, appS, len_tup, len_lst, tup_tup, wipeE, set1, set2, typ_int, typ_tup, typ_non, typ_lst, isF, chainD, asT, truD, len_row, typ_row, q])]
  exact h
theorem turn_ne {zs : List Int} {v u : Int} (hv : atI (zs.map D.int) 0 = some (.int v)) (hu : atI (zs.map D.int) (-1) = some (.int u)) (hne : ∀ M, neF (.lst (zs.map D.int)) (.lst []) M = ok (.bl true) M) (hvu : (v - u).natAbs = 0 ∨ (v - u).natAbs = 2) (hX : 0 ≤ X) (hM : M[Rw]? = some (.lst row)) (hr : row.length < 100) :
    ∃ c e', (c - v).natAbs = 1 ∧ (c - u).natAbs = 1 ∧ seqS A2 (seqS A3 A4) (envH s0 s1 s2 s3 s5 s6 (some (.lst (zs.map D.int))) a11 a12 a13 B N X Rw) M = some (.nx (envH s0 s1 s2 s3 s5 s6 (some (.lst (zs.map D.int))) e' a12 a13 B N X Rw), M.set Rw (.lst (row ++ [.int c]))) := by
  obtain ⟨Z, hZ⟩ : ∃ Z, Z = D.lst (zs.map D.int) := ⟨_, rfl⟩
  have i0 : ∀ M, ixF Z (.int 0) M = ok (.int v) M := fun M => by rw [hZ]; exact ix_lst hv
  have i1 : ∀ M, ixF Z (.int (-1)) M = ok (.int u) M := fun M => by rw [hZ]; exact ix_lst hu
  rw [← hZ] at hne
  let S : List Int := [v - 1, v + 1].filter fun x => decide ((x - u).natAbs = 1)
  have hS : S ≠ [] := by
    show [v - 1, v + 1].filter (fun x => decide ((x - u).natAbs = 1)) ≠ []
    intro z
    have := List.filter_eq_nil_iff.mp z
    have h1 := this (v - 1) (by simp)
    have h2 := this (v + 1) (by simp)
    simp only [decide_eq_true_eq] at h1 h2
    omega
  have hS2 : S.length ≤ 100 := Nat.le_trans (List.length_filter_le _ _) (by simp)
  obtain ⟨c, hc, h⟩ := append_ok (M := M) (s0 := s0) (s1 := s1) (s2 := s2) (s3 := s3) (s5 := s5) (s6 := s6) (a10 := some Z) (a12 := a12) (a13 := a13) (B := B) (N := N) (X := X) (Rw := Rw) (row := row) (S := S) hS hS2 hX hM hr
  obtain ⟨c1, c2⟩ := List.mem_filter.mp hc
  have c2 : (c - u).natAbs = 1 := of_decide_eq_true c2
  have c1 : c = v - 1 ∨ c = v + 1 := by simpa using c1
  refine ⟨c, some (.lst (S.map D.int)), by omega, c2, ?_⟩
  rw [← hZ]
  rw [seq_nx (e' := envH s0 s1 s2 s3 s5 s6 (some Z) (some (.lst [.int B, .int B])) a12 a13 B N X Rw) (M' := M) (by simp [seqS, ifS, retS, raiseF, raiseS, consA, nilA, binD, callD, nameD, cD, bindE_v, thenS_v, bindE_x, thenS_x, unD, parS, asgS, tupD, int2F, eq_int, ne_int, intF0, negF, notF, nilS, brD, fnD, addE, subE, ix0, ix1, dropS, asgG, tupG, consG, nameG, nilG, lstD, andD, orD, tstD, ownS, appS, len_tup, len_lst, tup_tup, wipeE, set1, set2, typ_int, typ_tup, typ_non, typ_lst, isF, chainD, asT, truD, len_row, typ_row])]
  obtain ⟨v1, hv1⟩ : ∃ x, x = v - 1 := ⟨_, rfl⟩
  obtain ⟨v2, hv2⟩ : ∃ x, x = v + 1 := ⟨_, rfl⟩
  have cm : ∀ M, cutE (compD (set1 13) (binD (eqF) (callD (absF) (consA (binD subF (nameD 13) (binD ixF (nameD 10) (unD negF (cD (.int 1))))) (nilA))) (cD (.int 1))) (nameD 13) [13] (itD (nameD 11))) (envH s0 s1 s2 s3 s5 s6 (some Z) (some (.lst [.int v1, .int v2])) a12 a13 B N X Rw) M = ok (.lst (S.map D.int)) M := fun M => by
    rw [show S = [v1, v2].filter fun x => decide ((x - u).natAbs = 1) by rw [hv1, hv2]]
    refine comp_p (g := D.int) (f := D.int) [v1, v2] (it_lst rfl) (by simp) (fun x hx => ⟨envH s0 s1 s2 s3 s5 s6 (some Z) (some (.lst [.int v1, .int v2])) a12 (some (.int x)) B N X Rw, rfl, fun M => ?_, fun _ M => rfl⟩) (fun _ _ => rfl)
    obtain ⟨A, hA⟩ : ∃ A : Int, A = ((x - u).natAbs : Int) := ⟨_, rfl⟩
    have q : ∀ M, absF [.int (x - u)] M = ok (.int A) M := fun M => abs_is hA
    have e1 : decide (A = 1) = decide ((x - u).natAbs = 1) := decide_eq_decide.mpr (by omega)
    rw [← e1]
    simp [seqS, ifS, retS, raiseF, raiseS, consA, nilA, binD, callD, nameD, cD, bindE_v, thenS_v, bindE_x, thenS_x, unD, parS, asgS, tupD, int2F, eq_int, ne_int, intF0, negF, notF, nilS, brD, fnD, addE, subE, ix0, ix1, dropS, asgG, tupG, consG, nameG, nilG, lstD, andD, orD, tstD, ownS, appS, len_tup, len_lst, tup_tup, wipeE, set1, set2, typ_int, typ_tup, typ_non, typ_lst, isF, chainD, asT, truD, len_row, typ_row, i1, q]
  rw [seq_nx (e' := envH s0 s1 s2 s3 s5 s6 (some Z) (some (.lst (S.map D.int))) a12 a13 B N X Rw) (M' := M) (by
    have t : binD neF (nameD 10) (lstD nilA) (envH s0 s1 s2 s3 s5 s6 (some Z) (some (.lst [.int B, .int B])) a12 a13 B N X Rw) M = ok (.bl true) M := by simp [seqS, ifS, retS, raiseF, raiseS, consA, nilA, binD, callD, nameD, cD, bindE_v, thenS_v, bindE_x, thenS_x, unD, parS, asgS, tupD, int2F, eq_int, ne_int, intF0, negF, notF, nilS, brD, fnD, addE, subE, ix0, ix1, dropS, asgG, tupG, consG, nameG, nilG, lstD, andD, orD, tstD, ownS, appS, len_tup, len_lst, tup_tup, wipeE, set1, set2, typ_int, typ_tup, typ_non, typ_lst, isF, chainD, asT, truD, len_row, typ_row, hne]
    show ifS _ _ _ _ _ = _
    unfold ifS
    rw [t, thenS_v]
    show seqS _ _ _ _ = _
    rw [seq_nx (e' := envH s0 s1 s2 s3 s5 s6 (some Z) (some (.lst [.int v1, .int v2])) a12 a13 B N X Rw) (M' := M) (by simp [seqS, ifS, retS, raiseF, raiseS, consA, nilA, binD, callD, nameD, cD, bindE_v, thenS_v, bindE_x, thenS_x, unD, parS, asgS, tupD, int2F, eq_int, ne_int, intF0, negF, notF, nilS, brD, fnD, addE, subE, ix0, ix1, dropS, asgG, tupG, consG, nameG, nilG, lstD, andD, orD, tstD, ownS, appS, len_tup, len_lst, tup_tup, wipeE, set1, set2, typ_int, typ_tup, typ_non, typ_lst, isF, chainD, asT, truD, len_row, typ_row, i0, hv1, hv2])]
    unfold asgS
    rw [cm]
    rfl)]
  exact h
end
end K02
namespace K02
open PySem L2 DL
/-- good heights in the first y rows -/
structure HS (w y : Nat) (base : Int) (H : Nat → Nat → Int) : Prop where
  sx : ∀ x j, x + 1 < w → j < y → (H (x + 1) j - H x j).natAbs = 1
  sy : ∀ x j, x < w → j + 1 < y → (H x (j + 1) - H x j).natAbs = 1
  o : 0 < y → H 0 0 = base
/-- a good row behind y rows, x of it -/
structure RS (y x : Nat) (base : Int) (H : Nat → Nat → Int) (R : Nat → Int) : Prop where
  st : ∀ i, i + 1 < x → (R (i + 1) - R i).natAbs = 1
  up : ∀ j, y = j + 1 → ∀ i, i < x → (R i - H i j).natAbs = 1
  o : y = 0 → 0 < x → R 0 = base
noncomputable abbrev A1 : DenS := asgS 10 (binD addF (slpD (nameD 8) (someO (unD negF (cD (.int 1)))) (noneO) (noneO)) (cutE (compD (set1 12) (cD (.bl true)) (binD ixF (nameD 12) (nameD 9)) [12] (itD (slpD (nameD 5) (someO (unD negF (cD (.int 1)))) (noneO) (noneO))))))
theorem add_lst {a b : List D} {M : Store} (h : a.length + b.length ≤ 100000) : addF (.lst a) (.lst b) M = ok (.lst (a ++ b)) M := by
  show (if a.length + b.length ≤ sizeLine then ok (D.lst (a ++ b)) M else none) = _
  exact if_pos (sz_ok h)
section
variable {M : Store} {s0 s1 s2 s3 s6 a10 a11 a12 a13 : Option D} {B N X : Int} {Rw F x y w h : Nat} {H : Nat → Nat → Int} {R : Nat → Int}
theorem inner_ok (hx : x < w) (hw : w ≤ 12) (hy : y < 12) (hX : X = (x : Int)) (hs : HS w y B H) (hr : RS y x B H R) (hR : M[Rw]? = some (.lst ((List.range x).map fun i => D.int (R i)))) (hF : M[F]? = some (.lst ((List.range y).map fun j => rowD w fun x => hD H x j))) :
    ∃ v a b, (∀ i, x = i + 1 → (v - R i).natAbs = 1) ∧ (∀ j, y = j + 1 → (v - H x j).natAbs = 1) ∧ (x = 0 → y = 0 → v = B) ∧
      seqS A1 (seqS A2 (seqS A3 A4)) (envH s0 s1 s2 s3 (some (.loc F)) s6 a10 a11 a12 a13 B N X Rw) M = some (.nx (envH s0 s1 s2 s3 (some (.loc F)) s6 a b a12 a13 B N X Rw), M.set Rw (.lst (((List.range x).map fun i => D.int (R i)) ++ [.int v]))) := by
  let e := envH s0 s1 s2 s3 (some (.loc F)) s6 a10 a11 a12 a13 B N X Rw
  have hlen : ((List.range x).map fun i => D.int (R i)).length < 100 := by simp; omega
  have hX0 : 0 ≤ X := by omega
  have l0 : x = 0 → slpD (nameD 8) (someO (unD negF (cD (.int 1)))) noneO noneO e M = ok (.lst []) M := fun z => slp_last0 (n := Rw) rfl (by rw [hR, z]; rfl)
  have l1 : ∀ i, x = i + 1 → slpD (nameD 8) (someO (unD negF (cD (.int 1)))) noneO noneO e M = ok (.lst [.int (R i)]) M := fun i z => slp_last1 (n := Rw) (k := i) rfl hR (by simp [z]) (by omega) (by simp [z])
  have f0 : y = 0 → slpD (nameD 5) (someO (unD negF (cD (.int 1)))) noneO noneO e M = ok (.lst []) M := fun z => slp_last0 (n := F) rfl (by rw [hF, z]; rfl)
  have f1 : ∀ j, y = j + 1 → slpD (nameD 5) (someO (unD negF (cD (.int 1)))) noneO noneO e M = ok (.lst [rowD w fun x => hD H x j]) M := fun j z => slp_last1 (n := F) (k := j) rfl hF (by simp [z]) (by omega) (by simp [z])
  have u0 : y = 0 → cutE (compD (set1 12) (cD (.bl true)) (binD ixF (nameD 12) (nameD 9)) [12] (itD (slpD (nameD 5) (someO (unD negF (cD (.int 1)))) (noneO) (noneO)))) e M = ok (.lst []) M := fun z =>
    comp_v (g := fun d : D => d) (f := fun d : D => d) ([] : List D) (it_lst (f0 z)) (by simp) (fun x hx => absurd hx (by simp)) (fun x hx => absurd hx (by simp))
  have u1 : ∀ j, y = j + 1 → cutE (compD (set1 12) (cD (.bl true)) (binD ixF (nameD 12) (nameD 9)) [12] (itD (slpD (nameD 5) (someO (unD negF (cD (.int 1)))) (noneO) (noneO)))) e M = ok (.lst [.int (H x j)]) M := fun j z =>
    comp_v (g := fun _ : Unit => rowD w fun x => hD H x j) (f := fun _ : Unit => D.int (H x j)) [()] (it_lst (f1 j z)) (by simp) (fun _ _ => ⟨envH s0 s1 s2 s3 (some (.loc F)) s6 a10 a11 (some (rowD w fun x => hD H x j)) a13 B N X Rw, rfl, fun M => by
      have q : ∀ M, ixF (rowD w fun x => hD H x j) (.int X) M = ok (.int (H x j)) M := fun M => by rw [hX]; exact ix_row hx
      obtain ⟨Q, hQ⟩ : ∃ Q, Q = rowD w fun x => hD H x j := ⟨_, rfl⟩
      rw [← hQ] at q ⊢
      simp [seqS, ifS, retS, raiseF, raiseS, consA, nilA, binD, callD, nameD, cD, bindE_v, thenS_v, bindE_x, thenS_x, unD, parS, asgS, tupD, int2F, eq_int, ne_int, intF0, negF, notF, nilS, brD, fnD, addE, subE, ix0, ix1, dropS, asgG, tupG, consG, nameG, nilG, lstD, andD, orD, tstD, ownS, appS, len_tup, len_lst, tup_tup, wipeE, set1, set2, typ_int, typ_tup, typ_non, typ_lst, isF, chainD, asT, truD, len_row, typ_row, q]⟩) (fun _ _ => rfl)
  have st : ∀ a b : List D, slpD (nameD 8) (someO (unD negF (cD (.int 1)))) noneO noneO e M = ok (.lst a) M → cutE (compD (set1 12) (cD (.bl true)) (binD ixF (nameD 12) (nameD 9)) [12] (itD (slpD (nameD 5) (someO (unD negF (cD (.int 1)))) (noneO) (noneO)))) e M = ok (.lst b) M → a.length + b.length ≤ 100000 →
      A1 e M = some (.nx (envH s0 s1 s2 s3 (some (.loc F)) s6 (some (.lst (a ++ b))) a11 a12 a13 B N X Rw), M) := fun a b q1 q2 q3 => by
    exact asg_v ((bin_v q1 q2).trans (add_lst q3))
  by_cases x0 : x = 0
  · by_cases y0 : y = 0
    · obtain ⟨b, h⟩ := turn_nil (M := M) (s0 := s0) (s1 := s1) (s2 := s2) (s3 := s3) (s5 := some (.loc F)) (s6 := s6) (a11 := a11) (a12 := a12) (a13 := a13) (B := B) (N := N) (X := X) (Rw := Rw) hX0 hR hlen
      exact ⟨B, _, b, fun i z => by omega, fun j z => by omega, fun _ _ => rfl, (seq_nx (st [] [] (l0 x0) (u0 y0) (by simp))).trans h⟩
    · obtain ⟨j, hj⟩ : ∃ j, y = j + 1 := ⟨y - 1, by omega⟩
      obtain ⟨c, b, c1, c2, h⟩ := turn_ne (M := M) (s0 := s0) (s1 := s1) (s2 := s2) (s3 := s3) (s5 := some (.loc F)) (s6 := s6) (a11 := a11) (a12 := a12) (a13 := a13) (B := B) (N := N) (X := X) (Rw := Rw) (zs := [H x j]) (v := H x j) (u := H x j) rfl rfl (fun _ => rfl) (by omega) hX0 hR hlen
      exact ⟨c, _, b, fun i z => by omega, fun j' z => by
        obtain rfl : j' = j := by omega
        exact c2, fun _ z => by omega, (seq_nx (st [] [.int (H x j)] (l0 x0) (u1 j hj) (by simp))).trans h⟩
  · obtain ⟨i, hi⟩ : ∃ i, x = i + 1 := ⟨x - 1, by omega⟩
    by_cases y0 : y = 0
    · obtain ⟨c, b, c1, c2, h⟩ := turn_ne (M := M) (s0 := s0) (s1 := s1) (s2 := s2) (s3 := s3) (s5 := some (.loc F)) (s6 := s6) (a11 := a11) (a12 := a12) (a13 := a13) (B := B) (N := N) (X := X) (Rw := Rw) (zs := [R i]) (v := R i) (u := R i) rfl rfl (fun _ => rfl) (by omega) hX0 hR hlen
      exact ⟨c, _, b, fun i' z => by
        obtain rfl : i' = i := by omega
        exact c1, fun j z => by omega, fun z => by omega, (seq_nx (st [.int (R i)] [] (l1 i hi) (u0 y0) (by simp))).trans h⟩
    · obtain ⟨j, hj⟩ : ∃ j, y = j + 1 := ⟨y - 1, by omega⟩
      have d1 := hr.up j hj i (by omega)
      have d2 := hs.sx i j (by omega) (by omega)
      rw [← hi] at d2
      obtain ⟨c, b, c1, c2, h⟩ := turn_ne (M := M) (s0 := s0) (s1 := s1) (s2 := s2) (s3 := s3) (s5 := some (.loc F)) (s6 := s6) (a11 := a11) (a12 := a12) (a13 := a13) (B := B) (N := N) (X := X) (Rw := Rw) (zs := [R i, H x j]) (v := R i) (u := H x j) rfl rfl (fun _ => rfl) (by omega) hX0 hR hlen
      exact ⟨c, _, b, fun i' z => by
        obtain rfl : i' = i := by omega
        exact c1, fun j' z => by
        obtain rfl : j' = j := by omega
        exact c2, fun z => by omega, (seq_nx (st [.int (R i)] [.int (H x j)] (l1 i hi) (u1 j hj) (by simp))).trans h⟩
end
theorem set_self {α : Type} {M : List α} {i : Nat} {o : α} (h : M[i]? = some o) : M.set i o = M := by
  apply List.ext_getElem?
  intro j
  by_cases hj : i = j
  · subst hj
    rw [List.getElem?_set_self (get_lt h), h]
  · rw [List.getElem?_set_ne hj]
theorem heights_ok {ns : List Int} {k0 w h : Nat} {base : Int} {M : Store} (hM : M[0]? = some (.lst [.int (k0 : Int)])) (hk : k0 + h ≤ 5000) (hn : ns.length ≤ 63) (hw1 : 1 ≤ w) (hw : w ≤ 12) (hh : h ≤ 12) :
    ∃ H, HS w h base H ∧ m__law_heights [.scr ns, .loc 0, .int (w : Int), .int (h : Int), .int base] M = ok (tabD w h (hD H)) (M.set 0 (.lst [.int ((k0 + h : Nat) : Int)])) := by
  obtain ⟨Wd, hWd⟩ : ∃ x : Int, x = (w : Int) := ⟨_, rfl⟩
  obtain ⟨Hd, hHd⟩ : ∃ x : Int, x = (h : Int) := ⟨_, rfl⟩
  have lt0 : 0 < M.length := get_lt hM
  let B : Nat → Store := fun y => M.set 0 (.lst [.int ((k0 + y : Nat) : Int)])
  have lB : ∀ y, (B y).length = M.length := fun y => List.length_set
  have B0 : B 0 = M := set_self hM
  have gB : ∀ y, (B y)[0]? = some (.lst [.int ((k0 + y : Nat) : Int)]) := fun y => List.getElem?_set_self lt0
  have sB : ∀ y z (X : Store), (B y ++ X).set 0 (.lst [.int ((k0 + z : Nat) : Int)]) = B z ++ X := fun y z X => by
    rw [List.set_append_left _ _ (by rw [lB]; exact lt0)]
    show (M.set 0 _).set 0 _ ++ X = _
    rw [List.set_set]
  rw [← hWd, ← hHd]
  have key : Wp (den__law_heights [some (.scr ns), some (.loc 0), some (.int Wd), some (.int Hd), some (.int base), none, none, none, none, none, none, none, none, none] M) (fun f M1 => ∃ H, HS w h base H ∧ f = .rt (tabD w h (hD H)) ∧ ∃ X, M1 = B h ++ X) := by
    unfold den__law_heights
    refine wp_nx (e' := [some (.scr ns), some (.loc 0), some (.int Wd), some (.int Hd), some (.int base), some (.loc M.length), none, none, none, none, none, none, none, none]) (M' := M ++ [.lst []]) (by simp [seqS, ifS, retS, raiseF, raiseS, consA, nilA, binD, callD, nameD, cD, bindE_v, thenS_v, bindE_x, thenS_x, unD, parS, asgS, tupD, int2F, eq_int, ne_int, intF0, negF, notF, nilS, brD, fnD, addE, subE, ix0, ix1, dropS, asgG, tupG, consG, nameG, nilG, lstD, andD, orD, tstD, ownS, appS, len_tup, len_lst, tup_tup, wipeE, set1, set2, typ_int, typ_tup, typ_non, typ_lst, isF, chainD, asT, truD, len_row, typ_row]) ?_
    refine wp_for_nx ((List.range h).map fun (y : Nat) => D.int (y : Int)) (fun y e M' => ∃ (H : Nat → Nat → Int) (X : Store) (a6 a7 a8 a9 a10 a11 a12 a13 : Option D), HS w y base H ∧ M' = B y ++ .lst ((List.range y).map fun j => rowD w fun x => hD H x j) :: X ∧ e = [some (.scr ns), some (.loc 0), some (.int Wd), some (.int Hd), some (.int base), some (.loc M.length), a6, a7, a8, a9, a10, a11, a12, a13])
      (it_rng (by rw [← hHd]; rfl) (by omega)) (fun y d e M' hd hi => ?_) (fun _ _ _ => trivial) ⟨fun _ _ => 0, [], _, _, _, _, _, _, _, _, ⟨fun _ _ _ z => absurd z (Nat.not_lt_zero _), fun _ _ _ z => absurd z (Nat.not_lt_zero _), fun z => absurd z (Nat.lt_irrefl _)⟩, by rw [B0]; rfl, rfl⟩ (fun e' M' hi => ?_)
    · obtain ⟨H, X, a6, a7, a8, a9, a10, a11, a12, a13, hs, rfl, rfl⟩ := hi
      obtain ⟨hy, rfl⟩ := rng_get hd
      obtain ⟨Y, hY⟩ : ∃ x : Int, x = (y : Int) := ⟨_, rfl⟩
      rw [← hY]
      obtain ⟨rows, hrows⟩ : ∃ r, r = (List.range y).map fun j => rowD w fun x => hD H x j := ⟨_, rfl⟩
      rw [← hrows]
      obtain ⟨c, c0, c1, hc⟩ := cell_ok (ns := ns) (M := B y ++ .lst rows :: X) (k0 := k0 + y) (by
        rw [List.getElem?_append_left (by rw [lB]; exact lt0)]
        exact gB y) (by omega) hn
      rw [show k0 + y + 1 = k0 + (y + 1) by omega, sB y (y + 1)] at hc
      obtain ⟨M1, hM1⟩ : ∃ M1, M1 = B (y + 1) ++ Ob.lst rows :: X := ⟨_, rfl⟩
      rw [← hM1] at hc
      refine ⟨trivial, [some (.scr ns), some (.loc 0), some (.int Wd), some (.int Hd), some (.int base), some (.loc M.length), some (.int Y), a7, a8, a9, a10, a11, a12, a13], _, rfl, ?_⟩
      refine wp_nx (e' := [some (.scr ns), some (.loc 0), some (.int Wd), some (.int Hd), some (.int base), some (.loc M.length), some (.int Y), some (.int c), some (.loc M1.length), a9, a10, a11, a12, a13]) (M' := M1 ++ [.lst []]) (by simp [seqS, ifS, retS, raiseF, raiseS, consA, nilA, binD, callD, nameD, cD, bindE_v, thenS_v, bindE_x, thenS_x, unD, parS, asgS, tupD, int2F, eq_int, ne_int, intF0, negF, notF, nilS, brD, fnD, addE, subE, ix0, ix1, dropS, asgG, tupG, consG, nameG, nilG, lstD, andD, orD, tstD, ownS, appS, len_tup, len_lst, tup_tup, wipeE, set1, set2, typ_int, typ_tup, typ_non, typ_lst, isF, chainD, asT, truD, len_row, typ_row, parOwnS, hc]) ?_
      have hF : ∀ Z, (M1 ++ Z)[M.length]? = some (.lst rows) := fun Z => by
        rw [hM1, List.append_assoc, ← lB (y + 1)]
        exact get_mid
      refine wp_for_nx ((List.range w).map fun (x : Nat) => D.int (x : Int)) (fun x e M' => ∃ (R : Nat → Int) (a9 a10 a11 : Option D), RS y x base H R ∧ M' = M1 ++ [.lst ((List.range x).map fun i => D.int (R i))] ∧ e = [some (.scr ns), some (.loc 0), some (.int Wd), some (.int Hd), some (.int base), some (.loc M.length), some (.int Y), some (.int c), some (.loc M1.length), a9, a10, a11, a12, a13])
        (it_rng (by rw [← hWd]; rfl) (by omega)) (fun x d e M' hd hi => ?_) (fun _ _ _ => trivial) ⟨fun _ => 0, _, _, _, ⟨fun _ z => absurd z (Nat.not_lt_zero _), fun _ _ _ z => absurd z (Nat.not_lt_zero _), fun _ z => absurd z (Nat.lt_irrefl _)⟩, rfl, rfl⟩ (fun e' M' hi => ?_)
      · obtain ⟨R, a9, a10, a11, hr, rfl, rfl⟩ := hi
        obtain ⟨hx, rfl⟩ := rng_get hd
        obtain ⟨X', hX⟩ : ∃ x' : Int, x' = (x : Int) := ⟨_, rfl⟩
        rw [← hX]
        obtain ⟨v, a, b, v1, v2, v3, hst⟩ := inner_ok (M := M1 ++ [.lst ((List.range x).map fun i => D.int (R i))]) (s0 := some (.scr ns)) (s1 := some (.loc 0)) (s2 := some (.int Wd)) (s3 := some (.int Hd)) (s6 := some (.int Y)) (a10 := a10) (a11 := a11) (a12 := a12) (a13 := a13) (N := c) (F := M.length) (Rw := M1.length) hx hw (by omega) hX hs hr get_mid (by rw [hF, hrows])
        rw [set_mid] at hst
        refine ⟨trivial, envH (some (.scr ns)) (some (.loc 0)) (some (.int Wd)) (some (.int Hd)) (some (.loc M.length)) (some (.int Y)) a10 a11 a12 a13 base c X' M1.length, _, rfl, wp_of _ hst ⟨_, .inl rfl, fun i => if i = x then v else R i, _, _, _, ?_, ?_, rfl⟩⟩
        · refine ⟨fun i hi => ?_, fun j hj i hi => ?_, fun z _ => ?_⟩
          · by_cases e1 : i + 1 = x
            · rw [if_pos e1, if_neg (by omega)]
              exact v1 i e1.symm
            · rw [if_neg e1, if_neg (by omega)]
              exact hr.st i (by omega)
          · by_cases e1 : i = x
            · rw [if_pos e1, e1]
              exact v2 j hj
            · rw [if_neg e1]
              exact hr.up j hj i (by omega)
          · by_cases e1 : 0 = x
            · rw [if_pos e1]
              exact v3 e1.symm z
            · rw [if_neg e1]
              exact hr.o z (by omega)
        · have e1 : ((List.range x).map fun i => D.int (R i)) = (List.range x).map fun i => D.int (if i = x then v else R i) := List.map_congr_left fun i hi => by
            have := List.mem_range.mp hi
            rw [if_neg (by omega)]
          have e2 := range_snoc (f := fun i => D.int (if i = x then v else R i)) x
          rw [if_pos rfl] at e2
          rw [e1, e2]
      · obtain ⟨R, a9, a10, a11, hr, rfl, rfl⟩ := hi
        rw [List.length_map (as := List.range _), List.length_range]
        obtain ⟨H', hH'⟩ : ∃ H' : Nat → Nat → Int, H' = fun x j => if j = y then R x else H x j := ⟨_, rfl⟩
        rw [List.length_map, List.length_range] at hr
        have Hy : ∀ x, H' x y = R x := fun x => by rw [hH']; exact if_pos rfl
        have Hn : ∀ x j, j ≠ y → H' x j = H x j := fun x j q => by rw [hH']; exact if_neg q
        have t := tup_loc (M := M1 ++ [.lst ((List.range w).map fun i => D.int (R i))]) (n := M1.length) get_mid (by simp; omega)
        refine wp_of (.nx _) (app_ok (n := M.length) rfl (show callD tupcF (consA (nameD 8) nilA) _ _ = ok (rowD w fun x => hD H' x y) _ by
          have e1 : rowD w (fun x => hD H' x y) = rowD w fun x => D.int (R x) := row_ext fun x _ => by
            show D.int (H' x y) = _
            rw [Hy]
          rw [e1]
          simp [seqS, ifS, retS, raiseF, raiseS, consA, nilA, binD, callD, nameD, cD, bindE_v, thenS_v, bindE_x, thenS_x, unD, parS, asgS, tupD, int2F, eq_int, ne_int, intF0, negF, notF, nilS, brD, fnD, addE, subE, ix0, ix1, dropS, asgG, tupG, consG, nameG, nilG, lstD, andD, orD, tstD, ownS, appS, len_tup, len_lst, tup_tup, wipeE, set1, set2, typ_int, typ_tup, typ_non, typ_lst, isF, chainD, asT, truD, len_row, typ_row, t]
          rfl) (hF _) (by rw [hrows]; simp; omega)) ⟨_, .inl rfl, H', X ++ [.lst ((List.range w).map fun i => D.int (R i))], _, _, _, _, _, _, _, _, ?_, ?_, rfl⟩
        · refine ⟨fun x j hx hj => ?_, fun x j hx hj => ?_, fun _ => ?_⟩
          · by_cases e1 : j = y
            · rw [e1, Hy, Hy]
              exact hr.st x hx
            · rw [Hn _ _ e1, Hn _ _ e1]
              exact hs.sx x j hx (by omega)
          · by_cases e1 : j + 1 = y
            · rw [e1, Hy, Hn _ _ (by omega)]
              exact hr.up j e1.symm x hx
            · rw [Hn _ _ e1, Hn _ _ (by omega)]
              exact hs.sy x j hx (by omega)
          · by_cases e1 : 0 = y
            · rw [← e1] at Hy hr
              rw [Hy]
              exact hr.o rfl (by omega)
            · rw [Hn _ _ e1]
              exact hs.o (by omega)
        · have e1 : rows = (List.range y).map fun j => rowD w fun x => hD H' x j := by
            rw [hrows]
            exact List.map_congr_left fun j hj => by
              have := List.mem_range.mp hj
              exact row_ext fun x _ => by
                show D.int (H x j) = D.int (H' x j)
                rw [Hn _ _ (by omega)]
          rw [hM1, List.append_assoc, List.cons_append, ← lB (y + 1), set_mid, e1, range_snoc (f := fun j => rowD w fun x => hD H' x j)]
    · obtain ⟨H, X, a6, a7, a8, a9, a10, a11, a12, a13, hs, rfl, rfl⟩ := hi
      rw [List.length_map, List.length_range] at hs ⊢
      have t := tup_loc (M := B h ++ .lst ((List.range h).map fun j => rowD w fun x => hD H x j) :: X) (n := M.length) (by rw [← lB h]; exact get_mid) (by simp; omega)
      refine wp_of (.rt (tabD w h (hD H))) (M' := B h ++ .lst ((List.range h).map fun j => rowD w fun x => hD H x j) :: X) ?_ ⟨H, hs, rfl, _, rfl⟩
      simp [seqS, ifS, retS, raiseF, raiseS, consA, nilA, binD, callD, nameD, cD, bindE_v, thenS_v, bindE_x, thenS_x, unD, parS, asgS, tupD, int2F, eq_int, ne_int, intF0, negF, notF, nilS, brD, fnD, addE, subE, ix0, ix1, dropS, asgG, tupG, consG, nameG, nilG, lstD, andD, orD, tstD, ownS, appS, len_tup, len_lst, tup_tup, wipeE, set1, set2, typ_int, typ_tup, typ_non, typ_lst, isF, chainD, asT, truD, len_row, typ_row, t]
      rfl
  obtain ⟨f, M1, h1, H, hs, rfl, X, rfl⟩ := key
  refine ⟨H, hs, fv_rt2 (e0 := [some (.scr ns), some (.loc 0), some (.int Wd), some (.int Hd), some (.int base), none, none, none, none, none, none, none, none, none]) X rfl h1 (lB h) (set_ok rfl) (nl_tab fun _ _ => rfl)⟩
end K02
namespace K02
open PySem L2 DL
/-- a small worth -/
structure WS (p : Int × Int) : Prop where
  b1 : 1 ≤ p.2
  b2 : p.2 ≤ 4
  a0 : p.1 ≠ 0
  a9 : p.1.natAbs ≤ 9
  g : Nat.gcd p.1.natAbs p.2.natAbs = 1
abbrev pD (p : Int × Int) : D := .tup [.int p.1, .int p.2]
section
variable {M M1 : Store} {s0 s1 s2 s3 s5 s6 s8 a9 a10 a11 a12 a13 : Option D} {S : Int} {Rw : Nat} {row : List D} {n : Int}
abbrev envW (s0 s1 s2 s3 s5 s6 s8 a9 a10 a11 a12 a13 : Option D) (S : Int) (Rw : Nat) : DL.Env := [s0, s1, s2, s3, some (.int S), s5, s6, some (.loc Rw), s8, a9, a10, a11, a12, a13]
noncomputable abbrev B1 : DenS := seqS (parS 10 11 (binD addF (cD (.int 1)) (binD fmodF (nameD 9) (cD (.int 9)))) (binD addF (cD (.int 1)) (binD fmodF (binD fdivF (nameD 9) (cD (.int 9))) (cD (.int 4))))) (seqS (asgS 12 (binD mulF (nameD 10) (binD subF (cD (.int 1)) (binD mulF (binD fmodF (binD fdivF (nameD 9) (cD (.int 36))) (cD (.int 2))) (cD (.int 2)))))) (seqS (asgS 13 (lstD (consA (tupD (consA (cD (.int 1)) (consA (cD (.int 1)) (nilA)))) (consA (tupD (consA (nameD 10) (consA (cD (.int 1)) (nilA)))) (consA (fnD m__law_low 2 [] (consA (nameD 10) (consA (nameD 11) (nilA)))) (nilA)))))) (appS (nameD 7) (binD ixF (binD addF (nameD 13) (lstD (consA (fnD m__law_low 2 [] (consA (nameD 12) (consA (nameD 11) (nilA)))) (nilA)))) (nameD 4)))))
theorem worth_turn (hS0 : 0 ≤ S) (hS : S < 4) (n0 : 0 ≤ n) (hR : M[Rw]? = some (.lst row)) (hr : row.length < 100) :
    ∃ p a b c d, WS p ∧ B1 (envW s0 s1 s2 s3 s5 s6 s8 (some (.int n)) a10 a11 a12 a13 S Rw) M = some (.nx (envW s0 s1 s2 s3 s5 s6 s8 (some (.int n)) a b c d S Rw), M.set Rw (.lst (row ++ [pD p]))) := by
  obtain ⟨a, ha⟩ : ∃ a, a = 1 + n % 9 := ⟨_, rfl⟩
  obtain ⟨b, hb⟩ : ∃ b, b = 1 + n / 9 % 4 := ⟨_, rfl⟩
  obtain ⟨s, hs⟩ : ∃ s, s = n / 36 % 2 * 2 := ⟨_, rfl⟩
  obtain ⟨f, hf⟩ : ∃ f, f = a * (1 - s) := ⟨_, rfl⟩
  have s02 : s = 0 ∨ s = 2 := by omega
  have ff : f = a ∨ f = -a := by
    rcases s02 with z | z
    · exact .inl (by rw [hf, z, Int.sub_zero, Int.mul_one])
    · exact .inr (by rw [hf, z, show (1 : Int) - 2 = -1 from rfl, Int.mul_neg, Int.mul_one])
  have e1 : ∀ M, fmodF (.int n) (.int 9) M = ok (.int (n % 9)) M := fun M => fmd (by decide)
  have e2 : ∀ M, fdivF (.int n) (.int 9) M = ok (.int (n / 9)) M := fun M => fdv (by decide) (by unfold Bd; decide)
  have e3 : ∀ M, fmodF (.int (n / 9)) (.int 4) M = ok (.int (n / 9 % 4)) M := fun M => fmd (by decide)
  have e4 : ∀ M, fdivF (.int n) (.int 36) M = ok (.int (n / 36)) M := fun M => fdv (by decide) (by unfold Bd; decide)
  have e5 : ∀ M, fmodF (.int (n / 36)) (.int 2) M = ok (.int (n / 36 % 2)) M := fun M => fmd (by decide)
  have e6 : ∀ M, mulF (.int (n / 36 % 2)) (.int 2) M = ok (.int s) M := fun M => by
    rw [hs]
    exact mulB (k := 2) (l := 2) (by unfold Bd; omega) (by unfold Bd; decide) (by decide)
  have e7 : ∀ M, mulF (.int a) (.int (1 - s)) M = ok (.int f) M := fun M => by
    rw [hf]
    exact mulB (k := 5) (l := 5) (by unfold Bd; omega) (by unfold Bd; omega) (by decide)
  obtain ⟨p, p1, p2, p3, p4, p5, p6⟩ := low_ok (a := a) (b := b) (by omega) (by omega) (by omega)
  obtain ⟨q, q1, q2, q3, q4, q5, q6⟩ := low_ok (a := f) (b := b) (by omega) (by omega) (by omega)
  obtain ⟨P, hP⟩ : ∃ P, P = pD p := ⟨_, rfl⟩
  obtain ⟨Q, hQ⟩ : ∃ P, P = pD q := ⟨_, rfl⟩
  have p6 : ∀ M, m__law_low [.int a, .int b] M = ok P M := fun M => by rw [hP]; exact p6 M
  have q6 : ∀ M, m__law_low [.int f, .int b] M = ok Q M := fun M => by rw [hQ]; exact q6 M
  have ad : ∀ (x y z u : D) M, addF (.lst [x, y, z]) (.lst [u]) M = ok (.lst [x, y, z, u]) M := fun x y z u M => add_lst (by simp)
  have key : ∃ r, WS r ∧ ∀ M, ixF (.lst [.tup [.int 1, .int 1], .tup [.int a, .int 1], P, Q]) (.int S) M = ok (pD r) M := by
    have c : S = 0 ∨ S = 1 ∨ S = 2 ∨ S = 3 := by omega
    rcases c with z | z | z | z
    · exact ⟨(1, 1), ⟨by decide, by decide, by decide, by decide, by decide⟩, fun M => by rw [z]; exact ix_lst rfl⟩
    · exact ⟨(a, 1), ⟨Int.le_refl 1, (by show (1 : Int) ≤ 4; decide), by show a ≠ 0; omega, by show a.natAbs ≤ 9; omega, Nat.gcd_one_right _⟩, fun M => by rw [z]; exact ix_lst rfl⟩
    · exact ⟨p, ⟨p1, by omega, p3, by omega, p5⟩, fun M => by rw [z, hP]; exact ix_lst rfl⟩
    · exact ⟨q, ⟨q1, by omega, q3, by omega, q5⟩, fun M => by rw [z, hQ]; exact ix_lst rfl⟩
  obtain ⟨r, hr1, hr2⟩ := key
  obtain ⟨V, hV⟩ : ∃ V, V = pD r := ⟨_, rfl⟩
  rw [← hV] at hr2
  refine ⟨r, some (.int a), some (.int b), some (.int f), some (.lst [.tup [.int 1, .int 1], .tup [.int a, .int 1], P]), hr1, ?_⟩
  rw [← hV]
  show seqS _ _ _ _ = _
  rw [seq_nx (e' := envW s0 s1 s2 s3 s5 s6 s8 (some (.int n)) (some (.int a)) (some (.int b)) a12 a13 S Rw) (M' := M) (by simp [seqS, ifS, retS, raiseF, raiseS, consA, nilA, binD, callD, nameD, cD, bindE_v, thenS_v, bindE_x, thenS_x, unD, parS, asgS, tupD, int2F, eq_int, ne_int, intF0, negF, notF, nilS, brD, fnD, addE, subE, ix0, ix1, dropS, asgG, tupG, consG, nameG, nilG, lstD, andD, orD, tstD, ownS, appS, len_tup, len_lst, tup_tup, wipeE, set1, set2, typ_int, typ_tup, typ_non, typ_lst, isF, chainD, asT, truD, len_row, typ_row, e1, e2, e3, ← ha, ← hb])]
  rw [seq_nx (e' := envW s0 s1 s2 s3 s5 s6 s8 (some (.int n)) (some (.int a)) (some (.int b)) (some (.int f)) a13 S Rw) (M' := M) (by simp [seqS, ifS, retS, raiseF, raiseS, consA, nilA, binD, callD, nameD, cD, bindE_v, thenS_v, bindE_x, thenS_x, unD, parS, asgS, tupD, int2F, eq_int, ne_int, intF0, negF, notF, nilS, brD, fnD, addE, subE, ix0, ix1, dropS, asgG, tupG, consG, nameG, nilG, lstD, andD, orD, tstD, ownS, appS, len_tup, len_lst, tup_tup, wipeE, set1, set2, typ_int, typ_tup, typ_non, typ_lst, isF, chainD, asT, truD, len_row, typ_row, e4, e5, e6, e7])]
  rw [seq_nx (e' := envW s0 s1 s2 s3 s5 s6 s8 (some (.int n)) (some (.int a)) (some (.int b)) (some (.int f)) (some (.lst [.tup [.int 1, .int 1], .tup [.int a, .int 1], P])) S Rw) (M' := M) (by simp [seqS, ifS, retS, raiseF, raiseS, consA, nilA, binD, callD, nameD, cD, bindE_v, thenS_v, bindE_x, thenS_x, unD, parS, asgS, tupD, int2F, eq_int, ne_int, intF0, negF, notF, nilS, brD, fnD, addE, subE, ix0, ix1, dropS, asgG, tupG, consG, nameG, nilG, lstD, andD, orD, tstD, ownS, appS, len_tup, len_lst, tup_tup, wipeE, set1, set2, typ_int, typ_tup, typ_non, typ_lst, isF, chainD, asT, truD, len_row, typ_row, p6])]
  exact app_ok (n := Rw) rfl (by simp [seqS, ifS, retS, raiseF, raiseS, consA, nilA, binD, callD, nameD, cD, bindE_v, thenS_v, bindE_x, thenS_x, unD, parS, asgS, tupD, int2F, eq_int, ne_int, intF0, negF, notF, nilS, brD, fnD, addE, subE, ix0, ix1, dropS, asgG, tupG, consG, nameG, nilG, lstD, andD, orD, tstD, ownS, appS, len_tup, len_lst, tup_tup, wipeE, set1, set2, typ_int, typ_tup, typ_non, typ_lst, isF, chainD, asT, truD, len_row, typ_row, q6, ad, hr2]) hR (by omega)
end
theorem worths_ok {ns : List Int} {k0 w h : Nat} {S : Int} {M : Store} (hM : M[0]? = some (.lst [.int (k0 : Int)])) (hk : k0 + h * w ≤ 5000) (hn : ns.length ≤ 63) (hw1 : 1 ≤ w) (hw : w ≤ 12) (hh : h ≤ 12) (hS0 : 0 ≤ S) (hS : S < 4) :
    ∃ W : Nat → Nat → Int × Int, (∀ x y, x < w → y < h → WS (W x y)) ∧ m__law_worths [.scr ns, .loc 0, .int (w : Int), .int (h : Int), .int S] M = ok (tabD w h (wD W)) (M.set 0 (.lst [.int ((k0 + h * w : Nat) : Int)])) := by
  obtain ⟨Wd, hWd⟩ : ∃ x : Int, x = (w : Int) := ⟨_, rfl⟩
  obtain ⟨Hd, hHd⟩ : ∃ x : Int, x = (h : Int) := ⟨_, rfl⟩
  have lt0 : 0 < M.length := get_lt hM
  let B : Nat → Store := fun y => M.set 0 (.lst [.int ((k0 + y : Nat) : Int)])
  have lB : ∀ y, (B y).length = M.length := fun y => List.length_set
  have B0 : B 0 = M := set_self hM
  have gB : ∀ y, (B y)[0]? = some (.lst [.int ((k0 + y : Nat) : Int)]) := fun y => List.getElem?_set_self lt0
  have sB : ∀ y z (X : Store), (B y ++ X).set 0 (.lst [.int ((k0 + z : Nat) : Int)]) = B z ++ X := fun y z X => by
    rw [List.set_append_left _ _ (by rw [lB]; exact lt0)]
    show (M.set 0 _).set 0 _ ++ X = _
    rw [List.set_set]
  rw [← hWd, ← hHd]
  have key : Wp (den__law_worths [some (.scr ns), some (.loc 0), some (.int Wd), some (.int Hd), some (.int S), none, none, none, none, none, none, none, none, none] M) (fun f M1 => ∃ W : Nat → Nat → Int × Int, (∀ x y, x < w → y < h → WS (W x y)) ∧ f = .rt (tabD w h (wD W)) ∧ ∃ X, M1 = B (h * w) ++ X) := by
    unfold den__law_worths
    refine wp_nx (e' := [some (.scr ns), some (.loc 0), some (.int Wd), some (.int Hd), some (.int S), some (.loc M.length), none, none, none, none, none, none, none, none]) (M' := M ++ [.lst []]) (by simp [seqS, ifS, retS, raiseF, raiseS, consA, nilA, binD, callD, nameD, cD, bindE_v, thenS_v, bindE_x, thenS_x, unD, parS, asgS, tupD, int2F, eq_int, ne_int, intF0, negF, notF, nilS, brD, fnD, addE, subE, ix0, ix1, dropS, asgG, tupG, consG, nameG, nilG, lstD, andD, orD, tstD, ownS, appS, len_tup, len_lst, tup_tup, wipeE, set1, set2, typ_int, typ_tup, typ_non, typ_lst, isF, chainD, asT, truD, len_row, typ_row]) ?_
    refine wp_for_nx ((List.range h).map fun (y : Nat) => D.int (y : Int)) (fun y e M' => ∃ (W : Nat → Nat → Int × Int) (X : Store) (a6 a7 a8 a9 a10 a11 a12 a13 : Option D), (∀ x j, x < w → j < y → WS (W x j)) ∧ M' = B (y * w) ++ .lst ((List.range y).map fun j => rowD w fun x => wD W x j) :: X ∧ e = [some (.scr ns), some (.loc 0), some (.int Wd), some (.int Hd), some (.int S), some (.loc M.length), a6, a7, a8, a9, a10, a11, a12, a13])
      (it_rng (by rw [← hHd]; rfl) (by omega)) (fun y d e M' hd hi => ?_) (fun _ _ _ => trivial) ⟨fun _ _ => (1, 1), [], _, _, _, _, _, _, _, _, (fun _ _ _ z => absurd z (Nat.not_lt_zero _)), by rw [Nat.zero_mul, B0]; rfl, rfl⟩ (fun e' M' hi => ?_)
    · obtain ⟨W, X, a6, a7, a8, a9, a10, a11, a12, a13, hs, rfl, rfl⟩ := hi
      obtain ⟨hy, rfl⟩ := rng_get hd
      obtain ⟨Y, hY⟩ : ∃ x : Int, x = (y : Int) := ⟨_, rfl⟩
      rw [← hY]
      obtain ⟨rows, hrows⟩ : ∃ r, r = (List.range y).map fun j => rowD w fun x => wD W x j := ⟨_, rfl⟩
      rw [← hrows]
      obtain ⟨L1, hL1⟩ : ∃ L1, L1 = M.length + (X.length + 1) := ⟨_, rfl⟩
      have lM : ∀ z, (B z ++ Ob.lst rows :: X).length = L1 := fun z => by rw [List.length_append, lB, List.length_cons, hL1]
      have yw : y * w + w ≤ h * w := by
        rw [← Nat.succ_mul]
        exact Nat.mul_le_mul_right _ hy
      refine ⟨trivial, [some (.scr ns), some (.loc 0), some (.int Wd), some (.int Hd), some (.int S), some (.loc M.length), some (.int Y), a7, a8, a9, a10, a11, a12, a13], _, rfl, ?_⟩
      refine wp_nx (e' := [some (.scr ns), some (.loc 0), some (.int Wd), some (.int Hd), some (.int S), some (.loc M.length), some (.int Y), some (.loc L1), a8, a9, a10, a11, a12, a13]) (M' := (B (y * w) ++ Ob.lst rows :: X) ++ [.lst []]) (by
        obtain ⟨M2, hM2⟩ : ∃ M2, M2 = B (y * w) ++ Ob.lst rows :: X := ⟨_, rfl⟩
        rw [← hM2, ← lM (y * w), ← hM2]
        simp [seqS, ifS, retS, raiseF, raiseS, consA, nilA, binD, callD, nameD, cD, bindE_v, thenS_v, bindE_x, thenS_x, unD, parS, asgS, tupD, int2F, eq_int, ne_int, intF0, negF, notF, nilS, brD, fnD, addE, subE, ix0, ix1, dropS, asgG, tupG, consG, nameG, nilG, lstD, andD, orD, tstD, ownS, appS, len_tup, len_lst, tup_tup, wipeE, set1, set2, typ_int, typ_tup, typ_non, typ_lst, isF, chainD, asT, truD, len_row, typ_row]) ?_
      refine wp_for_nx ((List.range w).map fun (x : Nat) => D.int (x : Int)) (fun x e M' => ∃ (R : Nat → Int × Int) (a8 a9 a10 a11 a12 a13 : Option D), (∀ i, i < x → WS (R i)) ∧ M' = (B (y * w + x) ++ Ob.lst rows :: X) ++ [.lst ((List.range x).map fun i => pD (R i))] ∧ e = [some (.scr ns), some (.loc 0), some (.int Wd), some (.int Hd), some (.int S), some (.loc M.length), some (.int Y), some (.loc L1), a8, a9, a10, a11, a12, a13])
        (it_rng (by rw [← hWd]; rfl) (by omega)) (fun x d e M' hd hi => ?_) (fun _ _ _ => trivial) ⟨fun _ => (1, 1), _, _, _, _, _, _, (fun _ z => absurd z (Nat.not_lt_zero _)), rfl, rfl⟩ (fun e' M' hi => ?_)
      · obtain ⟨R, a8, a9, a10, a11, a12, a13, hr, rfl, rfl⟩ := hi
        obtain ⟨hx, rfl⟩ := rng_get hd
        obtain ⟨X', hX⟩ : ∃ x' : Int, x' = (x : Int) := ⟨_, rfl⟩
        rw [← hX]
        obtain ⟨c, c0, c1, hc⟩ := cell_ok (ns := ns) (M := (B (y * w + x) ++ Ob.lst rows :: X) ++ [.lst ((List.range x).map fun i => pD (R i))]) (k0 := k0 + (y * w + x)) (by
          rw [List.append_assoc, List.getElem?_append_left (by rw [lB]; exact lt0)]
          exact gB _) (by omega) hn
        rw [show k0 + (y * w + x) + 1 = k0 + (y * w + (x + 1)) by omega, List.append_assoc, sB _ (y * w + (x + 1)), ← List.append_assoc, ← List.append_assoc] at hc
        obtain ⟨Ma, hMa⟩ : ∃ M1, M1 = (B (y * w + x) ++ Ob.lst rows :: X) ++ [.lst ((List.range x).map fun i => pD (R i))] := ⟨_, rfl⟩
        obtain ⟨Mb, hMb⟩ : ∃ M1, M1 = (B (y * w + (x + 1)) ++ Ob.lst rows :: X) ++ [.lst ((List.range x).map fun i => pD (R i))] := ⟨_, rfl⟩
        rw [← hMa, ← hMb] at hc
        rw [← hMa]
        have gb : Mb[L1]? = some (.lst ((List.range x).map fun i => pD (R i))) := by
          rw [hMb, ← lM (y * w + (x + 1))]
          exact get_mid
        obtain ⟨p, a, b, c', d, hp, hst⟩ := worth_turn (M := Mb) (Rw := L1) (s0 := some (.scr ns)) (s1 := some (.loc 0)) (s2 := some (.int Wd)) (s3 := some (.int Hd)) (s5 := some (.loc M.length)) (s6 := some (.int Y)) (s8 := some (.int X')) (a10 := a10) (a11 := a11) (a12 := a12) (a13 := a13) (S := S) (n := c) hS0 hS c0 gb (by simp; omega)
        refine ⟨trivial, envW (some (.scr ns)) (some (.loc 0)) (some (.int Wd)) (some (.int Hd)) (some (.loc M.length)) (some (.int Y)) (some (.int X')) a9 a10 a11 a12 a13 S L1, Ma, rfl, ?_⟩
        refine wp_nx (e' := envW (some (.scr ns)) (some (.loc 0)) (some (.int Wd)) (some (.int Hd)) (some (.loc M.length)) (some (.int Y)) (some (.int X')) (some (.int c)) a10 a11 a12 a13 S L1) (M' := Mb) (by simp [seqS, ifS, retS, raiseF, raiseS, consA, nilA, binD, callD, nameD, cD, bindE_v, thenS_v, bindE_x, thenS_x, unD, parS, asgS, tupD, int2F, eq_int, ne_int, intF0, negF, notF, nilS, brD, fnD, addE, subE, ix0, ix1, dropS, asgG, tupG, consG, nameG, nilG, lstD, andD, orD, tstD, ownS, appS, len_tup, len_lst, tup_tup, wipeE, set1, set2, typ_int, typ_tup, typ_non, typ_lst, isF, chainD, asT, truD, len_row, typ_row, hc]) ?_
        refine wp_of _ hst ⟨_, .inl rfl, fun i => if i = x then p else R i, _, _, _, _, _, _, ?_, ?_, rfl⟩
        · intro i hi
          show WS (if i = x then p else R i)
          by_cases e1 : i = x
          · rw [if_pos e1]; exact hp
          · rw [if_neg e1]; exact hr i (by omega)
        · have e1 : ((List.range x).map fun i => pD (R i)) = (List.range x).map fun i => pD (if i = x then p else R i) := List.map_congr_left fun i hi => by
            have := List.mem_range.mp hi
            rw [if_neg (by omega)]
          have e2 := range_snoc (f := fun i => pD (if i = x then p else R i)) x
          rw [if_pos rfl] at e2
          rw [hMb, ← lM (y * w + (x + 1)), set_mid, e1, e2]
      · obtain ⟨R, a8, a9, a10, a11, a12, a13, hr, rfl, rfl⟩ := hi
        rw [List.length_map, List.length_range] at hr ⊢
        obtain ⟨W', hW'⟩ : ∃ H' : Nat → Nat → Int × Int, H' = fun x j => if j = y then R x else W x j := ⟨_, rfl⟩
        have Wy : ∀ x, W' x y = R x := fun x => by rw [hW']; exact if_pos rfl
        have Wn : ∀ x j, j ≠ y → W' x j = W x j := fun x j q => by rw [hW']; exact if_neg q
        obtain ⟨Ma, hMa⟩ : ∃ M1, M1 = (B (y * w + w) ++ Ob.lst rows :: X) ++ [.lst ((List.range w).map fun i => pD (R i))] := ⟨_, rfl⟩
        rw [← hMa]
        have g1 : Ma[L1]? = some (.lst ((List.range w).map fun i => pD (R i))) := by
          rw [hMa, ← lM (y * w + w)]
          exact get_mid
        have g2 : Ma[M.length]? = some (.lst rows) := by
          rw [hMa, List.append_assoc, ← lB (y * w + w)]
          exact get_mid
        have t := tup_loc (M := Ma) (n := L1) g1 (by simp; omega)
        refine wp_of (.nx _) (app_ok (n := M.length) rfl (show callD tupcF (consA (nameD 7) nilA) _ _ = ok (rowD w fun x => wD W' x y) _ by
          have e1 : rowD w (fun x => wD W' x y) = rowD w fun x => pD (R x) := row_ext fun x _ => by
            show pD (W' x y) = _
            rw [Wy]
          rw [e1]
          simp [seqS, ifS, retS, raiseF, raiseS, consA, nilA, binD, callD, nameD, cD, bindE_v, thenS_v, bindE_x, thenS_x, unD, parS, asgS, tupD, int2F, eq_int, ne_int, intF0, negF, notF, nilS, brD, fnD, addE, subE, ix0, ix1, dropS, asgG, tupG, consG, nameG, nilG, lstD, andD, orD, tstD, ownS, appS, len_tup, len_lst, tup_tup, wipeE, set1, set2, typ_int, typ_tup, typ_non, typ_lst, isF, chainD, asT, truD, len_row, typ_row, t]
          rfl) g2 (by rw [hrows]; simp; omega)) ⟨_, .inl rfl, W', X ++ [.lst ((List.range w).map fun i => pD (R i))], _, _, _, _, _, _, _, _, ?_, ?_, rfl⟩
        · intro x j hx hj
          by_cases e1 : j = y
          · rw [e1, Wy]
            exact hr x hx
          · rw [Wn _ _ e1]
            exact hs x j hx (by omega)
        · have e1 : rows = (List.range y).map fun j => rowD w fun x => wD W' x j := by
            rw [hrows]
            exact List.map_congr_left fun j hj => by
              have := List.mem_range.mp hj
              exact row_ext fun x _ => by
                show pD (W x j) = pD (W' x j)
                rw [Wn _ _ (by omega)]
          rw [hMa, List.append_assoc, List.cons_append, ← lB (y * w + w), set_mid, e1, range_snoc (f := fun j => rowD w fun x => wD W' x j), Nat.succ_mul]
    · obtain ⟨W, X, a6, a7, a8, a9, a10, a11, a12, a13, hs, rfl, rfl⟩ := hi
      rw [List.length_map, List.length_range] at hs ⊢
      have t := tup_loc (M := B (h * w) ++ .lst ((List.range h).map fun j => rowD w fun x => wD W x j) :: X) (n := M.length) (by rw [← lB (h * w)]; exact get_mid) (by simp; omega)
      refine wp_of (.rt (tabD w h (wD W))) (M' := B (h * w) ++ .lst ((List.range h).map fun j => rowD w fun x => wD W x j) :: X) ?_ ⟨W, hs, rfl, _, rfl⟩
      simp [seqS, ifS, retS, raiseF, raiseS, consA, nilA, binD, callD, nameD, cD, bindE_v, thenS_v, bindE_x, thenS_x, unD, parS, asgS, tupD, int2F, eq_int, ne_int, intF0, negF, notF, nilS, brD, fnD, addE, subE, ix0, ix1, dropS, asgG, tupG, consG, nameG, nilG, lstD, andD, orD, tstD, ownS, appS, len_tup, len_lst, tup_tup, wipeE, set1, set2, typ_int, typ_tup, typ_non, typ_lst, isF, chainD, asT, truD, len_row, typ_row, t]
      rfl
  obtain ⟨f, M1, h1, W, hs, rfl, X, rfl⟩ := key
  refine ⟨W, hs, fv_rt2 (e0 := [some (.scr ns), some (.loc 0), some (.int Wd), some (.int Hd), some (.int S), none, none, none, none, none, none, none, none, none]) X rfl h1 (lB (h * w)) (set_ok rfl) (nl_tab fun _ _ => rfl)⟩
end K02
namespace K02
open PySem L2 DL
/-- the law's own field -/
structure LF (w h : Nat) (base : Int) (H : Nat → Nat → Int) (W : Nat → Nat → Int × Int) : Prop where
  w1 : 1 ≤ w
  w2 : w ≤ 8
  w7 : w ≤ 7
  h1 : 1 ≤ h
  h2 : h ≤ 8
  h7 : h ≤ 7
  ev : base % 2 = 0
  b : base.natAbs ≤ 12
  hs : HS w h base H
  ws : ∀ x y, x < w → y < h → WS (W x y)
section
variable {w h : Nat} {base : Int} {H : Nat → Nat → Int} {W : Nat → Nat → Int × Int}
theorem LF.col (l : LF w h base H W) : ∀ y, y < h → (H 0 y - base).natAbs ≤ y ∧ (H 0 y + (y : Int)) % 2 = 0
  | 0, hy => by
    have := l.hs.o hy
    have := l.ev
    constructor <;> omega
  | y + 1, hy => by
    obtain ⟨h1, h2⟩ := LF.col l y (by omega)
    have w1 := l.w1
    have := l.hs.sy 0 y (by omega) hy
    constructor <;> omega
theorem LF.all (l : LF w h base H W) (y : Nat) (hy : y < h) : ∀ x, x < w → (H x y - base).natAbs ≤ x + y ∧ ((x : Int) + (y : Int) + H x y) % 2 = 0
  | 0, hx => by
    obtain ⟨h1, h2⟩ := l.col y hy
    constructor <;> omega
  | x + 1, hx => by
    obtain ⟨h1, h2⟩ := LF.all l y hy x (by omega)
    have := l.hs.sx x y hx hy
    constructor <;> omega
theorem LF.small (l : LF w h base H W) {x y : Nat} (hx : x < w) (hy : y < h) : (H x y).natAbs ≤ 26 := by
  obtain ⟨h1, _⟩ := l.all y hy x hx
  have := l.b
  have := l.w2
  have := l.h2
  omega
theorem LF.vf (l : LF w h base H W) : VF w h H W := ⟨l.w1, Nat.le_trans l.w2 (by decide), l.h1, Nat.le_trans l.h2 (by decide), fun x y hx hy => (l.all y hy x hx).2, fun x y hx hy => l.hs.sx x y hx hy, fun x y hx hy => l.hs.sy x y hx hy, fun x y hx hy _ => Nat.le_trans (l.small hx hy) (by decide), fun x y hx hy => ⟨(l.ws x y hx hy).b1, (l.ws x y hx hy).g, (l.ws x y hx hy).a0⟩⟩
theorem field_ok {ns : List Int} {k0 : Nat} {M : Store} (hM : M[0]? = some (.lst [.int (k0 : Int)])) (hk : k0 ≤ 4000) (hn : ns.length ≤ 63) :
    ∃ w h base H W k1, LF w h base H W ∧ k1 ≤ k0 + 73 ∧ m__law_field [.scr ns, .loc 0, .int 1, .int 7] M = ok (fieldD w h H W) (M.set 0 (.lst [.int ((k1 : Nat) : Int)])) := by
  have lt0 : 0 < M.length := get_lt hM
  obtain ⟨n, n0, n1, hc⟩ := cell_ok (ns := ns) hM (by omega) hn
  obtain ⟨w, hw⟩ : ∃ w : Nat, (w : Int) = 1 + n % 7 := ⟨(1 + n % 7).toNat, Int.toNat_of_nonneg (by omega)⟩
  obtain ⟨h, hh⟩ : ∃ h : Nat, (h : Int) = 1 + n / 11 % 7 := ⟨(1 + n / 11 % 7).toNat, Int.toNat_of_nonneg (by omega)⟩
  obtain ⟨b2, hb2⟩ : ∃ b2, b2 = 2 * (n / 121 % 13) := ⟨_, rfl⟩
  obtain ⟨base, hb⟩ : ∃ b, b = b2 - 12 := ⟨_, rfl⟩
  obtain ⟨S, hS⟩ : ∃ S, S = n / 1573 % 4 := ⟨_, rfl⟩
  obtain ⟨M1, hM1⟩ : ∃ M1, M1 = M.set 0 (.lst [.int ((k0 + 1 : Nat) : Int)]) := ⟨_, rfl⟩
  have g1 : M1[0]? = some (.lst [.int ((k0 + 1 : Nat) : Int)]) := by rw [hM1]; exact List.getElem?_set_self lt0
  have hl : h ≤ 8 := by omega
  have wl : w ≤ 8 := by omega
  obtain ⟨H, hs, hH⟩ := heights_ok (ns := ns) (w := w) (h := h) (base := base) g1 (by omega) hn (by omega) (by omega) (by omega)
  obtain ⟨M2, hM2⟩ : ∃ M2, M2 = M1.set 0 (.lst [.int ((k0 + 1 + h : Nat) : Int)]) := ⟨_, rfl⟩
  have g2 : M2[0]? = some (.lst [.int ((k0 + 1 + h : Nat) : Int)]) := by
    rw [hM2]
    exact List.getElem?_set_self (by rw [hM1, List.length_set]; exact lt0)
  have hwl : h * w ≤ 64 := Nat.mul_le_mul hl wl
  obtain ⟨W, ws, hW⟩ := worths_ok (ns := ns) (w := w) (h := h) (S := S) g2 (by omega) hn (by omega) (by omega) (by omega) (by omega) (by omega)
  obtain ⟨M3, hM3⟩ : ∃ M3, M3 = M2.set 0 (.lst [.int ((k0 + 1 + h + h * w : Nat) : Int)]) := ⟨_, rfl⟩
  have e3 : M3 = M.set 0 (.lst [.int ((k0 + 1 + h + h * w : Nat) : Int)]) := by rw [hM3, hM2, hM1, List.set_set, List.set_set]
  refine ⟨w, h, base, H, W, k0 + 1 + h + h * w, ⟨by omega, wl, by omega, by omega, hl, by omega, by omega, by omega, hs, ws⟩, by omega, ?_⟩
  rw [← hM1] at hc
  rw [← hM2] at hH
  rw [← hM3] at hW
  rw [← e3]
  obtain ⟨R, hR⟩ : ∃ R, R = tabD w h (hD H) := ⟨_, rfl⟩
  obtain ⟨U, hU⟩ : ∃ R, R = tabD w h (wD W) := ⟨_, rfl⟩
  rw [← hR] at hH
  rw [← hU] at hW
  obtain ⟨Wd, hWd⟩ : ∃ x : Int, x = (w : Int) := ⟨_, rfl⟩
  obtain ⟨Hd, hHd⟩ : ∃ x : Int, x = (h : Int) := ⟨_, rfl⟩
  rw [← hWd, ← hHd] at hH hW
  rw [← hWd] at hw
  rw [← hHd] at hh
  show m__law_field _ _ = ok (.tup [tabD w h (hD H), tabD w h (wD W)]) M3
  rw [← hR, ← hU]
  have f1 : ∀ M, fmodF (.int n) (.int 7) M = ok (.int (n % 7)) M := fun M => fmd (by decide)
  have f2 : ∀ M, fdivF (.int n) (.int 11) M = ok (.int (n / 11)) M := fun M => fdv (by decide) (by unfold Bd; decide)
  have f3 : ∀ M, fmodF (.int (n / 11)) (.int 7) M = ok (.int (n / 11 % 7)) M := fun M => fmd (by decide)
  have f4 : ∀ M, fdivF (.int n) (.int 121) M = ok (.int (n / 121)) M := fun M => fdv (by decide) (by unfold Bd; decide)
  have f5 : ∀ M, fmodF (.int (n / 121)) (.int 13) M = ok (.int (n / 121 % 13)) M := fun M => fmd (by decide)
  have f6 : ∀ M, mulF (.int 2) (.int (n / 121 % 13)) M = ok (.int b2) M := fun M => by
    rw [hb2]
    exact mulB (k := 2) (l := 5) (by unfold Bd; decide) (by unfold Bd; omega) (by decide)
  have f7 : ∀ M, fdivF (.int n) (.int 1573) M = ok (.int (n / 1573)) M := fun M => fdv (by decide) (by unfold Bd; decide)
  have f8 : ∀ M, fmodF (.int (n / 1573)) (.int 4) M = ok (.int S) M := fun M => by rw [fmd (by decide), hS]
  refine fv_rt2 (e0 := [some (.scr ns), some (.loc 0), some (.int 1), some (.int 7), none, none, none, none, none]) [] rfl ?_ (by rw [e3, List.length_set]) (by
    rw [e3]
    exact set_ok rfl) (by
    show (nlD 0 R && (nlD 0 U && true)) = true
    rw [hR, hU, nl_tab fun _ _ => rfl, nl_tab fun _ _ => rfl]
    rfl)
  unfold den__law_field
  rw [List.append_nil]
  rw [seq_nx (e' := [some (.scr ns), some (.loc 0), some (.int 1), some (.int 7), some (.int n), some (.int 7), none, none, none]) (M' := M1) (by simp [seqS, ifS, retS, raiseF, raiseS, consA, nilA, binD, callD, nameD, cD, bindE_v, thenS_v, bindE_x, thenS_x, unD, parS, asgS, tupD, int2F, eq_int, ne_int, intF0, negF, notF, nilS, brD, fnD, addE, subE, ix0, ix1, dropS, asgG, tupG, consG, nameG, nilG, lstD, andD, orD, tstD, ownS, appS, len_tup, len_lst, tup_tup, wipeE, set1, set2, typ_int, typ_tup, typ_non, typ_lst, isF, chainD, asT, truD, len_row, typ_row, hc])]
  rw [seq_nx (e' := [some (.scr ns), some (.loc 0), some (.int 1), some (.int 7), some (.int n), some (.int 7), some (.int Wd), some (.int Hd), none]) (M' := M1) (by simp [seqS, ifS, retS, raiseF, raiseS, consA, nilA, binD, callD, nameD, cD, bindE_v, thenS_v, bindE_x, thenS_x, unD, parS, asgS, tupD, int2F, eq_int, ne_int, intF0, negF, notF, nilS, brD, fnD, addE, subE, ix0, ix1, dropS, asgG, tupG, consG, nameG, nilG, lstD, andD, orD, tstD, ownS, appS, len_tup, len_lst, tup_tup, wipeE, set1, set2, typ_int, typ_tup, typ_non, typ_lst, isF, chainD, asT, truD, len_row, typ_row, f1, f2, f3, ← hw, ← hh])]
  rw [seq_nx (e' := [some (.scr ns), some (.loc 0), some (.int 1), some (.int 7), some (.int n), some (.int 7), some (.int Wd), some (.int Hd), some R]) (M' := M2) (by simp [seqS, ifS, retS, raiseF, raiseS, consA, nilA, binD, callD, nameD, cD, bindE_v, thenS_v, bindE_x, thenS_x, unD, parS, asgS, tupD, int2F, eq_int, ne_int, intF0, negF, notF, nilS, brD, fnD, addE, subE, ix0, ix1, dropS, asgG, tupG, consG, nameG, nilG, lstD, andD, orD, tstD, ownS, appS, len_tup, len_lst, tup_tup, wipeE, set1, set2, typ_int, typ_tup, typ_non, typ_lst, isF, chainD, asT, truD, len_row, typ_row, f4, f5, f6, ← hb, hH])]
  simp [seqS, ifS, retS, raiseF, raiseS, consA, nilA, binD, callD, nameD, cD, bindE_v, thenS_v, bindE_x, thenS_x, unD, parS, asgS, tupD, int2F, eq_int, ne_int, intF0, negF, notF, nilS, brD, fnD, addE, subE, ix0, ix1, dropS, asgG, tupG, consG, nameG, nilG, lstD, andD, orD, tstD, ownS, appS, len_tup, len_lst, tup_tup, wipeE, set1, set2, typ_int, typ_tup, typ_non, typ_lst, isF, chainD, asT, truD, len_row, typ_row, f7, f8, hW]
end
end K02
namespace K02
open PySem L2 DL
mutual
def okB (B : Nat) : D → Bool
  | .non => true
  | .bl _ => true
  | .emp => true
  | .int i => decide (i.natAbs ≤ B)
  | .str x => (PyData.str x).showable && (PyData.str x).leavesShort 200 && decide (x.cps.size ≤ 100)
  | .tup ds => okBs B ds
  | .lst ds => okBs B ds
  | _ => false
def okBs (B : Nat) : List D → Bool
  | [] => true
  | d :: ds => okB B d && okBs B ds
end
mutual
def szE : D → Nat
  | .tup ds => szEs ds
  | .lst ds => szEs ds
  | .str x => x.cps.size
  | _ => 0
def szEs : List D → Nat
  | [] => 0
  | d :: ds => szE d + 1 + szEs ds
end
mutual
def dpE : D → Nat
  | .tup ds => dpEs ds + 1
  | .lst ds => dpEs ds + 1
  | .emp => 1
  | _ => 0
def dpEs : List D → Nat
  | [] => 0
  | d :: ds => max (dpE d) (dpEs ds)
end
theorem okBs_all {B : Nat} : ∀ {ds : List D}, okBs B ds = true ↔ ∀ d ∈ ds, okB B d = true
  | [] => ⟨fun _ d h => absurd h (by simp), fun _ => rfl⟩
  | d :: ds => by
    show (okB B d && okBs B ds) = true ↔ _
    rw [Bool.and_eq_true, okBs_all]
    exact ⟨fun ⟨h1, h2⟩ x hx => by
      rcases (List.mem_cons.mp hx) with rfl | hx
      · exact h1
      · exact h2 x hx, fun h => ⟨h d List.mem_cons_self, fun x hx => h x (List.mem_cons_of_mem _ hx)⟩⟩
mutual
theorem okB_mono {B C : Nat} (hBC : B ≤ C) : ∀ d : D, okB B d = true → okB C d = true
  | .non, _ => rfl
  | .bl _, _ => rfl
  | .emp, _ => rfl
  | .int i, h => decide_eq_true (Nat.le_trans (of_decide_eq_true h) hBC)
  | .str _, h => h
  | .tup ds, h => okBs_mono hBC ds h
  | .lst ds, h => okBs_mono hBC ds h
  | .scr _, h => nomatch (show false = true from h)
  | .loc _, h => nomatch (show false = true from h)
  | .exc _ _, h => nomatch (show false = true from h)
  | .ty _, h => nomatch (show false = true from h)
  | .cls _, h => nomatch (show false = true from h)
  | .clo _ _ _ _ _ _, h => nomatch (show false = true from h)
  | .ktp _, h => nomatch (show false = true from h)
theorem okBs_mono {B C : Nat} (hBC : B ≤ C) : ∀ ds : List D, okBs B ds = true → okBs C ds = true
  | [], _ => rfl
  | d :: ds, h => by
    have h' : (okB B d && okBs B ds) = true := h
    rw [Bool.and_eq_true] at h'
    show (okB C d && okBs C ds) = true
    rw [okB_mono hBC d h'.1, okBs_mono hBC ds h'.2]
    rfl
end
mutual
theorem okB_nl {B : Nat} : ∀ d : D, okB B d = true → nlD 0 d = true
  | .non, _ => rfl
  | .bl _, _ => rfl
  | .emp, _ => rfl
  | .int _, _ => rfl
  | .str _, _ => rfl
  | .tup ds, h => okBs_nl ds h
  | .lst ds, h => okBs_nl ds h
  | .scr _, h => nomatch (show false = true from h)
  | .loc _, h => nomatch (show false = true from h)
  | .exc _ _, h => nomatch (show false = true from h)
  | .ty _, h => nomatch (show false = true from h)
  | .cls _, h => nomatch (show false = true from h)
  | .clo _ _ _ _ _ _, h => nomatch (show false = true from h)
  | .ktp _, h => nomatch (show false = true from h)
theorem okBs_nl {B : Nat} : ∀ ds : List D, okBs B ds = true → nlDs 0 ds = true
  | [], _ => rfl
  | d :: ds, h => by
    have h' : (okB B d && okBs B ds) = true := h
    rw [Bool.and_eq_true] at h'
    show (nlD 0 d && nlDs 0 ds) = true
    rw [okB_nl d h'.1, okBs_nl ds h'.2]
    rfl
end
mutual
theorem pye_ok {B : Nat} (hB : B < 2 ^ 99) : ∀ d : D, okB B d = true → ∃ p, D.pye d = some p ∧ p.showable = true ∧ p.depth ≤ dpE d ∧ p.leavesShort 200 = true ∧ p.bulk = szE d
  | .non, _ => ⟨.none, rfl, rfl, Nat.zero_le _, rfl, rfl⟩
  | .bl b, _ => ⟨.bool b, rfl, rfl, Nat.zero_le _, rfl, rfl⟩
  | .emp, _ => ⟨.dict [], rfl, rfl, Nat.le_refl _, rfl, rfl⟩
  | .int i, h => by
    have h0 : Bd 99 i := Nat.lt_of_le_of_lt (of_decide_eq_true h) hB
    have h1 : i.natAbs.log2 < 100 := Nat.lt_of_le_of_lt h0.lg (by decide)
    have h2 : (PySem.Str.ofString (toString i)).length ≤ 101 := Nat.le_trans (Nat.le_of_eq (PySem.ofString_length _)) (PySem.int_text_length_le (Nat.zero_lt_succ _) h1)
    refine ⟨.int i, rfl, ?_, Nat.zero_le _, ?_, rfl⟩
    · simp [PyData.showable]; omega
    · simp only [PyData.leavesShort, PyData.shown, decide_eq_true_eq]
      exact decide_eq_true (Nat.le_trans h2 (by decide : 101 ≤ 200))
  | .str x, h => by
    have h' : ((PyData.str x).showable && (PyData.str x).leavesShort 200 && decide (x.cps.size ≤ 100)) = true := h
    rw [Bool.and_eq_true] at h'
    rw [Bool.and_eq_true] at h'
    exact ⟨.str x, rfl, h'.1.1, Nat.zero_le _, h'.1.2, rfl⟩
  | .tup ds, h => by
    obtain ⟨ps, h1, h2, h4, h5, h6⟩ := pyes_ok hB ds h
    refine ⟨.tuple ps, by show (D.pyes ds).map PyData.tuple = _; rw [h1]; rfl, ?_, ?_, ?_, ?_⟩
    · simp only [PyData.showable]; exact h2
    · simp only [PyData.depth]; show _ ≤ dpEs ds + 1; omega
    · simp only [PyData.leavesShort]; exact h5
    · simp only [PyData.bulk]; exact h6
  | .lst ds, h => by
    obtain ⟨ps, h1, h2, h4, h5, h6⟩ := pyes_ok hB ds h
    refine ⟨.list ps, by show (D.pyes ds).map PyData.list = _; rw [h1]; rfl, ?_, ?_, ?_, ?_⟩
    · simp only [PyData.showable]; exact h2
    · simp only [PyData.depth]; show _ ≤ dpEs ds + 1; omega
    · simp only [PyData.leavesShort]; exact h5
    · simp only [PyData.bulk]; exact h6
  | .scr _, h => nomatch (show false = true from h)
  | .loc _, h => nomatch (show false = true from h)
  | .exc _ _, h => nomatch (show false = true from h)
  | .ty _, h => nomatch (show false = true from h)
  | .cls _, h => nomatch (show false = true from h)
  | .clo _ _ _ _ _ _, h => nomatch (show false = true from h)
  | .ktp _, h => nomatch (show false = true from h)
theorem pyes_ok {B : Nat} (hB : B < 2 ^ 99) : ∀ ds : List D, okBs B ds = true → ∃ ps, D.pyes ds = some ps ∧ PyData.showableAll ps = true ∧ PyData.depthAll ps ≤ dpEs ds ∧ PyData.leavesShortAll 200 ps = true ∧ PyData.bulkAll ps = szEs ds
  | [], _ => ⟨[], rfl, rfl, Nat.zero_le _, rfl, rfl⟩
  | d :: ds, h => by
    have h' : (okB B d && okBs B ds) = true := h
    rw [Bool.and_eq_true] at h'
    obtain ⟨p, a1, a2, a4, a5, a6⟩ := pye_ok hB d h'.1
    obtain ⟨ps, h1, h2, h4, h5, h6⟩ := pyes_ok hB ds h'.2
    refine ⟨p :: ps, by show (match D.pye d, D.pyes ds with | some p, some ps => some (p :: ps) | _, _ => none) = _; rw [a1, h1], ?_, ?_, ?_, ?_⟩
    · simp only [PyData.showableAll, a2, h2, Bool.and_self]
    · simp only [PyData.depthAll]; show _ ≤ max (dpE d) (dpEs ds); omega
    · simp only [PyData.leavesShortAll, a5, h5, Bool.and_self]
    · simp only [PyData.bulkAll, a6, h6]; rfl
end
/-- how data are written -/
def rpe (d : D) : Str := match D.pye d with
  | some p => p.shown
  | none => ""
theorem repr_e {d : D} {B : Nat} {M : Store} (hB : B < 2 ^ 99) (h : okB B d = true) (hz : szE d ≤ 50000) (hd : dpE d ≤ 60) : reprGF [d] M = ok (.str (rpe d)) M := by
  obtain ⟨p, h1, h2, h4, h5, h6⟩ := pye_ok hB d h
  have q := PyData.shown_le_bulk 200 (by decide) p h5
  have q3 : 10200000 ≤ sizeLine := by decide
  unfold reprGF rpe
  simp only [h1]
  exact if_pos ⟨h2, by omega, by omega⟩
def isWh : D → Bool
  | .int _ => true
  | _ => false
def tupN (n : Nat) : D → Bool
  | .tup ds => decide (ds.length = n)
  | _ => false
section
variable {B n : Nat} {d : D} {M : Store}
theorem lwhole_b (h : okB B d = true) : m__law_whole [d] M = ok (.bl (isWh d)) M := by
  cases d with
  | scr _ => cases h
  | loc _ => cases h
  | exc _ _ => cases h
  | ty _ => cases h
  | cls _ => cases h
  | clo _ _ _ _ _ _ => cases h
  | ktp _ => cases h
  | _ => exact fv_rt0 rfl rfl rfl
theorem tupof_b (h : okB B d = true) : m_is_tuple_of [d, .int (n : Int)] M = ok (.bl (tupN n d)) M := by
  cases d with
  | scr _ => cases h
  | loc _ => cases h
  | exc _ _ => cases h
  | ty _ => cases h
  | cls _ => cases h
  | clo _ _ _ _ _ _ => cases h
  | ktp _ => cases h
  | tup ds =>
    rw [tupof_tup]
    show _ = ok (D.bl (decide (ds.length = n))) M
    rw [show decide ((ds.length : Int) = (n : Int)) = decide (ds.length = n) from decide_eq_decide.mpr (by omega)]
  | _ => exact fv_rt0 rfl rfl rfl
def isTp : D → Bool
  | .tup _ => true
  | _ => false
theorem isi_tup (h : okB B d = true) : isiB subT [d, .ty "tuple"] M = ok (.bl (isTp d)) M := by
  cases d with
  | scr _ => cases h
  | loc _ => cases h
  | exc _ _ => cases h
  | ty _ => cases h
  | cls _ => cases h
  | clo _ _ _ _ _ _ => cases h
  | ktp _ => cases h
  | _ => rfl
def isIB : D → Bool
  | .int _ => true
  | .bl _ => true
  | _ => false
theorem isi_int (h : okB B d = true) : isiB subT [d, .ty "int"] M = ok (.bl (isIB d)) M := by
  cases d with
  | scr _ => cases h
  | loc _ => cases h
  | exc _ _ => cases h
  | ty _ => cases h
  | cls _ => cases h
  | clo _ _ _ _ _ _ => cases h
  | ktp _ => cases h
  | _ => rfl
end
section
variable {g : DenG} {body b : DenS} {chk : Store → Prop} {di : DenI} {e : DL.Env} {M : Store} {P : Flw → Store → Prop}
theorem forL_R (Inv : Nat → DL.Env → Store → Prop) : ∀ (ds : List D) (i : Nat) (e : DL.Env) (M : Store), (∀ (j : Nat) (d : D) (e : DL.Env) (M : Store), ds[j]? = some d → Inv (i + j) e M → chk M ∧ ∃ e1 M1, g d e M = some (.nx e1, M1) ∧ Wp (body e1 M1) fun f M2 => (∃ e2, (f = .nx e2 ∨ f = .ct e2) ∧ Inv (i + j + 1) e2 M2) ∨ ∃ v, f = .rt v ∧ P f M2) →
    (∀ e M, Inv (i + ds.length) e M → chk M) → Inv i e M → Wp (forIL g chk body ds e M) fun f M2 => (∃ e2, f = .nx e2 ∧ Inv (i + ds.length) e2 M2) ∨ ∃ v, f = .rt v ∧ P f M2
  | [], i, e, M, _, hc, h => ⟨.nx e, M, by unfold forIL; rw [if_pos (hc e M h)], .inl ⟨e, rfl, h⟩⟩
  | d :: ds, i, e, M, hs, hc, h => by
    obtain ⟨c, e1, M1, h1, f, M2, h2, h3⟩ := hs 0 d e M rfl h
    rcases h3 with ⟨e2, h3, h4⟩ | ⟨v, rfl, h4⟩
    · obtain ⟨f', M', k1, k2⟩ := forL_R Inv ds (i + 1) e2 M2 (fun j d' e M q w => by
        have := hs (j + 1) d' e M q (by rwa [show i + (j + 1) = i + 1 + j by omega])
        rwa [show i + (j + 1) + 1 = i + 1 + j + 1 by omega] at this) (fun e M w => hc e M (by rwa [List.length_cons, show i + (ds.length + 1) = i + 1 + ds.length by omega])) h4
      refine ⟨f', M', ?_, by rwa [List.length_cons, show i + (ds.length + 1) = i + 1 + ds.length by omega]⟩
      unfold forIL
      rw [if_pos c, h1]
      dsimp only
      rcases h3 with rfl | rfl
      · rw [h2]
        exact k1
      · rw [h2]
        exact k1
    · refine ⟨.rt v, M2, ?_, .inr ⟨v, rfl, h4⟩⟩
      unfold forIL
      rw [if_pos c, h1]
      dsimp only
      rw [h2]
theorem wp_forR (ds : List D) (Inv : Nat → DL.Env → Store → Prop) (hdi : di e M = ok (ds, chk) M)
    (hs : ∀ (j : Nat) (d : D) (e : DL.Env) (M : Store), ds[j]? = some d → Inv j e M → chk M ∧ ∃ e1 M1, g d e M = some (.nx e1, M1) ∧ Wp (body e1 M1) fun f M2 => (∃ e2, (f = .nx e2 ∨ f = .ct e2) ∧ Inv (j + 1) e2 M2) ∨ ∃ v, f = .rt v ∧ P f M2)
    (hc : ∀ e M, Inv ds.length e M → chk M) (h : Inv 0 e M) (k : ∀ e' M', Inv ds.length e' M' → P (.nx e') M') : Wp (forI g di body e M) P := by
  obtain ⟨f, M', h1, h2⟩ := forL_R (P := P) (g := g) (body := body) (chk := chk) Inv ds 0 e M (fun j d e M q w => by
    rw [Nat.zero_add] at w ⊢
    exact hs j d e M q w) (fun e M w => hc e M (by rwa [Nat.zero_add] at w)) h
  refine ⟨f, M', ?_, ?_⟩
  · unfold forI
    rw [hdi, thenS_v]
    exact h1
  · rcases h2 with ⟨e2, rfl, h2⟩ | ⟨v, rfl, h2⟩
    · exact k e2 M' (by rwa [Nat.zero_add] at h2)
    · exact h2
theorem wp_forR_nx (ds : List D) (Inv : Nat → DL.Env → Store → Prop) (hdi : di e M = ok (ds, chk) M)
    (hs : ∀ (j : Nat) (d : D) (e : DL.Env) (M : Store), ds[j]? = some d → Inv j e M → chk M ∧ ∃ e1 M1, g d e M = some (.nx e1, M1) ∧ Wp (body e1 M1) fun f M2 => (∃ e2, (f = .nx e2 ∨ f = .ct e2) ∧ Inv (j + 1) e2 M2) ∨ ∃ v, f = .rt v ∧ P f M2)
    (hc : ∀ e M, Inv ds.length e M → chk M) (h : Inv 0 e M) (k : ∀ e' M', Inv ds.length e' M' → Wp (b e' M') P) : Wp (seqS (forI g di body) b e M) P := by
  refine wp_seq (wp_forR ds Inv hdi (fun j d e M q w => ?_) hc h fun e' M' w => .inl ⟨e', rfl, k e' M' w⟩)
  obtain ⟨c, e1, M1, h1, f, M2, h2, h3⟩ := hs j d e M q w
  refine ⟨c, e1, M1, h1, f, M2, h2, ?_⟩
  rcases h3 with h3 | ⟨v, rfl, h4⟩
  · exact .inl h3
  · exact .inr ⟨v, rfl, .inr ⟨(fun _ z => nomatch z), h4⟩⟩
end
end K02
namespace K02
open PySem L2 DL
theorem row_of {ds : List D} {n : Nat} (h : ds.length = n) : ds = (List.range n).map fun i => ds[i]?.getD .non := by
  subst h
  apply List.ext_getElem?
  intro i
  rw [List.getElem?_map]
  by_cases hi : i < ds.length
  · rw [List.getElem?_range hi, List.getElem?_eq_getElem hi]
    show some ds[i] = some (ds[i]?.getD .non)
    rw [List.getElem?_eq_getElem hi]
    rfl
  · rw [List.getElem?_eq_none (by omega), List.getElem?_eq_none (by rw [List.length_range]; omega)]
    rfl
/-- what stands in rows -/
def cellE (rows : List D) (x y : Nat) : D := match rows[y]? with
  | some (.tup ds) => ds[x]?.getD .non
  | _ => .non
theorem tupN_iff {n : Nat} {d : D} : tupN n d = true ↔ ∃ ds, d = .tup ds ∧ ds.length = n := by
  cases d with
  | tup ds => exact ⟨fun h => ⟨ds, rfl, of_decide_eq_true h⟩, fun ⟨es, h1, h2⟩ => by cases h1; exact decide_eq_true h2⟩
  | _ => exact ⟨(fun h => nomatch (show false = true from h)), (fun ⟨es, h1, _⟩ => nomatch h1)⟩
theorem tab_of {rows : List D} {w h : Nat} (hl : rows.length = h) (hr : ∀ r ∈ rows, tupN w r = true) : (.tup rows : D) = tabD w h (cellE rows) := by
  show D.tup rows = D.tup ((List.range h).map fun y => rowD w fun x => cellE rows x y)
  congr 1
  apply List.ext_getElem?
  intro y
  rw [List.getElem?_map]
  by_cases hy : y < rows.length
  · rw [List.getElem?_range (by omega), List.getElem?_eq_getElem hy]
    obtain ⟨ds, e1, e2⟩ := tupN_iff.mp (hr rows[y] (List.getElem_mem hy))
    have e3 : rows[y]? = some (.tup ds) := by rw [List.getElem?_eq_getElem hy, e1]
    have e4 : (fun x => cellE rows x y) = fun x => ds[x]?.getD .non := by
      funext x
      unfold cellE
      rw [e3]
    show some rows[y] = some (rowD w fun x => cellE rows x y)
    rw [e1, e4]
    show some (D.tup ds) = some (D.tup ((List.range w).map fun x => ds[x]?.getD .non))
    rw [← row_of e2]
  · rw [List.getElem?_eq_none (by omega), List.getElem?_eq_none (by rw [List.length_range]; omega)]
    rfl
def isTab (x : D) : Prop := ∃ w h f, 1 ≤ w ∧ w ≤ 11 ∧ 1 ≤ h ∧ h ≤ 11 ∧ x = tabD w h f
section
variable {B w h n : Nat} {x : D} {f : Nat → Nat → D} {M : Store}
theorem row_get {g : Nat → D} {i : Nat} (hi : i < n) : okB B (rowD n g) = true → okB B (g i) = true := fun h => okBs_all.mp h _ (List.mem_map.mpr ⟨i, List.mem_range.mpr hi, rfl⟩)
theorem tab_get {i j : Nat} (hi : i < w) (hj : j < h) (hx : okB B (tabD w h f) = true) : okB B (f i j) = true := row_get (n := w) (g := fun x => f x j) hi (row_get (n := h) (g := fun y => rowD w fun x => f x y) hj hx)
/-- a side as long as it may be -/
def sl : D → Bool
  | .tup ds => decide (1 ≤ ds.length ∧ ds.length ≤ 11)
  | _ => false
theorem side_b (h : okB B x = true) : m_is_side_long [x] M = ok (.bl (sl x)) M := by
  cases x with
  | scr _ => cases h
  | loc _ => cases h
  | exc _ _ => cases h
  | ty _ => cases h
  | cls _ => cases h
  | clo _ _ _ _ _ _ => cases h
  | ktp _ => cases h
  | tup ds =>
    refine fv_rt0 (e0 := [some (.tup ds)]) rfl ?_ rfl
    have e := chain_le (da := cD (.int 1)) (db := callD lenF (consA (nameD 0) nilA)) (dc := cD (.int 11)) (e := [some (.tup ds)]) (M := M) (i := 1) (j := ds.length) (k := 11) rfl (by simp [seqS, ifS, retS, raiseF, raiseS, consA, nilA, binD, callD, nameD, cD, bindE_v, thenS_v, bindE_x, thenS_x, unD, parS, asgS, tupD, int2F, eq_int, ne_int, intF0, negF, notF, nilS, brD, fnD, addE, subE, ix0, ix1, dropS, asgG, tupG, consG, nameG, nilG, lstD, andD, orD, tstD, ownS, appS, len_tup, len_lst, tup_tup, wipeE, set1, set2, typ_int, typ_tup, typ_non, typ_lst, isF, chainD, asT, truD, len_row, typ_row]) rfl
    unfold den_is_side_long
    simp only [retS, andD, brD]
    rw [show binD (isF false) (callD typF (consA (nameD 0) nilA)) (cD (.ty "tuple")) [some (.tup ds)] M = ok (.bl true) M by simp [seqS, ifS, retS, raiseF, raiseS, consA, nilA, binD, callD, nameD, cD, bindE_v, thenS_v, bindE_x, thenS_x, unD, parS, asgS, tupD, int2F, eq_int, ne_int, intF0, negF, notF, nilS, brD, fnD, addE, subE, ix0, ix1, dropS, asgG, tupG, consG, nameG, nilG, lstD, andD, orD, tstD, ownS, appS, len_tup, len_lst, tup_tup, wipeE, set1, set2, typ_int, typ_tup, typ_non, typ_lst, isF, chainD, asT, truD, len_row, typ_row], bindE_v]
    dsimp only
    rw [e]
    show some (Flw.rt (D.bl _), M) = some (Flw.rt (D.bl (decide (1 ≤ ds.length ∧ ds.length ≤ 11))), M)
    rw [show (decide ((1 : Int) ≤ (ds.length : Int)) && decide ((ds.length : Int) ≤ 11)) = decide (1 ≤ ds.length ∧ ds.length ≤ 11) from by
      by_cases h1 : 1 ≤ ds.length
      · by_cases h2 : ds.length ≤ 11
        · rw [decide_eq_true (by omega : (1 : Int) ≤ (ds.length : Int)), decide_eq_true (by omega : (ds.length : Int) ≤ 11), decide_eq_true ⟨h1, h2⟩]
          rfl
        · rw [decide_eq_false (by omega : ¬ (ds.length : Int) ≤ 11), decide_eq_false (p := 1 ≤ ds.length ∧ ds.length ≤ 11) (fun z => h2 z.2), Bool.and_false]
      · rw [decide_eq_false (by omega : ¬ (1 : Int) ≤ (ds.length : Int)), decide_eq_false (p := 1 ≤ ds.length ∧ ds.length ≤ 11) (fun z => h1 z.1), Bool.false_and]]
  | _ => exact fv_rt0 rfl rfl rfl
theorem in2 {a b c : Int} : inF false (.int a) (.tup [.int b, .int c]) M = ok (.bl (decide (b = a) || decide (c = a))) M := by
  simp [inF, flD, sqD, flDs, inV, eqV]
  rfl
/-- good heights of a table, evenness and neighbours aside -/
def goodH (w h : Nat) (f : Nat → Nat → D) : Prop := ∀ x y, x < w → y < h → ∃ i, f x y = .int i ∧ (rimB w h x y = true → i.natAbs ≤ 35)
end
end K02
namespace K02
open PySem L2 DL
section
variable {e : DL.Env} {M : Store} {da dl dh : DenE} {ds : List D}
theorem fm_part (s : Nat) : ∀ (m : Nat), (List.range m).filterMap (fun i => ds[i + s]?) = (ds.drop s).take m
  | 0 => by simp
  | m + 1 => by
    rw [List.range_succ, List.filterMap_append, fm_part s m, List.take_succ]
    congr 1
    rw [List.getElem?_drop, Nat.add_comm s m, List.filterMap_cons]
    cases ds[m + s]? <;> rfl
theorem adj_take {n k : Nat} (h : k ≤ n) : Builtin.Slice.sliceAdjust none (some (k : Int)) 1 (n : Int) = (((0 : Nat) : Int), (k : Int)) := by
  unfold PySem.Builtin.Slice.sliceAdjust
  simp
  omega
theorem adj_drop {n k : Nat} (h : k ≤ n) : Builtin.Slice.sliceAdjust (some (k : Int)) none 1 (n : Int) = ((k : Int), (n : Int)) := by
  unfold PySem.Builtin.Slice.sliceAdjust
  simp
  omega
theorem adj_last {n : Nat} : Builtin.Slice.sliceAdjust (some (-1)) none 1 (n : Int) = (((n - 1 : Nat) : Int), (n : Int)) := by
  unfold PySem.Builtin.Slice.sliceAdjust
  simp
  omega
theorem places {a b : Nat} : Builtin.Slice.slicePlaces (a : Int) (b : Int) 1 = b - a := by
  unfold PySem.Builtin.Slice.slicePlaces
  simp
  omega
theorem prt_ab {lo hi : Option Int} {a b : Nat} (h : Builtin.Slice.sliceAdjust lo hi 1 (ds.length : Int) = ((a : Int), (b : Int))) (hb : b ≤ ds.length) (hl : ds.length ≤ 100000) : prtF (.tup ds) lo hi none M = ok (.tup ((ds.drop a).take (b - a))) M := by
  have e1 : prtI ds.length lo hi none = (List.range (b - a)).map fun k => k + a := by
    unfold prtI
    show List.map _ (List.range (Builtin.Slice.slicePlaces (Builtin.Slice.sliceAdjust lo hi 1 (ds.length : Int)).fst (Builtin.Slice.sliceAdjust lo hi 1 (ds.length : Int)).snd 1)) = _
    rw [show (Option.getD (none : Option Int) 1) = 1 from rfl, h, places]
    exact List.map_congr_left fun k _ => by
      show ((a : Int) + (k : Int) * 1).toNat = k + a
      omega
  have e2 : prtT ds lo hi none = (ds.drop a).take (b - a) := by
    unfold prtT
    split
    · rename_i hw
      unfold whole at hw
      rw [show (Option.getD (none : Option Int) 1) = 1 from rfl, h, places] at hw
      simp only [beq_iff_eq, Bool.and_eq_true] at hw
      have h0 : a = 0 := by omega
      subst h0
      rw [hw.2, List.drop_zero, List.take_length]
    · rw [e1, List.filterMap_map]
      exact fm_part a (b - a)
  unfold prtF
  dsimp only
  rw [e1, e2]
  exact if_pos ⟨by decide, by rw [List.length_map, List.length_range]; omega⟩
theorem slp_takeT {k : Nat} {K : Int} (ha : da e M = ok (.tup ds) M) (hk : dh e M = ok (.int K) M) (hK : K = (k : Int)) (hn : k ≤ ds.length) (hl : ds.length ≤ 100000) : slpD da noneO (someO dh) noneO e M = ok (.tup (ds.take k)) M := by
  unfold slpD
  rw [ha, bindE_v]
  show bindE (someO dh e M) _ = _
  unfold someO
  rw [hk, bindE_v]
  show prtF (.tup ds) none (some K) none M = _
  rw [hK, prt_ab (adj_take hn) hn hl]
  simp
theorem slp_dropT {k : Nat} {K : Int} (ha : da e M = ok (.tup ds) M) (hk : dl e M = ok (.int K) M) (hK : K = (k : Int)) (hn : k ≤ ds.length) (hl : ds.length ≤ 100000) : slpD da (someO dl) noneO noneO e M = ok (.tup (ds.drop k)) M := by
  unfold slpD
  rw [ha, bindE_v]
  unfold someO
  rw [hk, bindE_v]
  show prtF (.tup ds) (some K) none none M = _
  rw [hK, prt_ab (adj_drop hn) (Nat.le_refl _) hl]
  rw [List.take_of_length_le (by rw [List.length_drop]; exact Nat.le_refl _)]
theorem slp_lastT (ha : da e M = ok (.tup ds) M) (hl : ds.length ≤ 100000) : slpD da (someO (unD negF (cD (.int 1)))) noneO noneO e M = ok (.tup (ds.drop (ds.length - 1))) M := by
  unfold slpD
  rw [ha, bindE_v]
  show prtF (.tup ds) (some (-1)) none none M = _
  rw [prt_ab adj_last (Nat.le_refl _) hl]
  rw [List.take_of_length_le (by rw [List.length_drop]; exact Nat.le_refl _)]
theorem last_snoc {xs : List D} {x : D} : (xs ++ [x]).drop ((xs ++ [x]).length - 1) = [x] := by
  rw [List.length_append, List.length_singleton, Nat.add_sub_cancel, List.drop_left]
end
end K02
namespace K02
open PySem L2 DL
theorem eqv_ints : ∀ (l1 l2 : List Int), PyData.eqvAll (l1.map PyData.int) (l2.map PyData.int) = decide (l1 = l2)
  | [], [] => by (simp [PyData.eqvAll])
  | [], j :: l2 => by simp [PyData.eqvAll]
  | i :: l1, [] => by simp [PyData.eqvAll]
  | i :: l1, j :: l2 => by
    have ih := eqv_ints l1 l2
    simp only [List.map_cons, PyData.eqvAll, PyData.eqv, ih]
    by_cases h1 : i = j
    · subst h1
      by_cases h2 : l1 = l2
      · subst h2
        simp
      · rw [decide_eq_false h2, decide_eq_false (p := i :: l1 = i :: l2) (fun z => h2 (List.cons.inj z).2)]
        simp
    · rw [decide_eq_false (p := i :: l1 = j :: l2) (fun z => h1 (List.cons.inj z).1)]
      simp [h1]
theorem pys_ints : ∀ (l : List Int), D.pys (l.map D.int) = some (l.map PyData.int)
  | [] => rfl
  | i :: l => by
    show (match D.py (.int i), D.pys (l.map D.int) with | some p, some ps => some (p :: ps) | _, _ => none) = _
    rw [pys_ints l]
    rfl
theorem shaped_ints (l : List Int) : SeqAt.shaped (.list (l.map PyData.int)) = true := by
  have h1 : ∀ l : List Int, PyData.canLayAll0 (l.map PyData.int) = true := fun l => by
    induction l with
    | nil => simp [PyData.canLayAll0]
    | cons i l ih =>
      rw [List.map_cons]
      simp [PyData.canLayAll0, PyData.canLay0, ih]
  have h2 : ∀ l : List Int, PyData.depthAll (l.map PyData.int) = 0 := fun l => by
    induction l with
    | nil => rfl
    | cons i l ih =>
      rw [List.map_cons]
      simp [PyData.depthAll, PyData.depth, ih]
  unfold SeqAt.shaped
  simp only [PyData.canLay0, PyData.depth, h1, h2]
  rfl
theorem eq_ints {n : Bool} {l1 l2 : List Int} {M : Store} : eqvF n (.lst (l1.map D.int)) (.lst (l2.map D.int)) M = ok (.bl (n != decide (l1 = l2))) M := by
  have e1 : ∀ l : List Int, pyV M (.lst (l.map D.int)) = some (.list (l.map PyData.int)) := fun l => by
    show (D.pys (l.map D.int)).map PyData.list = _
    rw [pys_ints]
    rfl
  unfold eqvF
  simp only [e1, shaped_ints, and_self, if_true]
  rw [show PyData.eqv (.list (l1.map PyData.int)) (.list (l2.map PyData.int)) = PyData.eqvAll (l1.map PyData.int) (l2.map PyData.int) by simp [PyData.eqv], eqv_ints]
section
variable {B w h n : Nat} {x : D} {f : Nat → Nat → D} {M : Store} {rows : List D}
theorem sl_iff : sl x = true ↔ ∃ rows, x = .tup rows ∧ 1 ≤ rows.length ∧ rows.length ≤ 11 := by
  cases x with
  | tup ds => exact ⟨(fun h => ⟨ds, rfl, of_decide_eq_true h⟩), (fun ⟨es, h1, h2⟩ => by cases h1; exact decide_eq_true h2)⟩
  | _ => exact ⟨(fun h => nomatch (show false = true from h)), (fun ⟨es, h1, _⟩ => nomatch h1)⟩
def lenOr0 : D → Nat
  | .tup ds => ds.length
  | _ => 0
theorem lsides_b {b : Bool} {s0 : Nat} (hx : okB B (.tup rows) = true) (l1 : 1 ≤ rows.length) (l2 : rows.length ≤ 11) (h0 : (rows[0]?).map lenOr0 = some s0) (hb : b = true ↔ (∀ r ∈ rows, lenOr0 r = s0) ∧ 1 ≤ s0 ∧ s0 ≤ 11) :
    m__law_sides [.tup rows] M = ok (.lst (if b = true then [.int (s0 : Int), .int (rows.length : Int)] else [])) M := by
  obtain ⟨S, hS⟩ : ∃ S : List Int, S = rows.map fun r => (lenOr0 r : Int) := ⟨_, rfl⟩
  obtain ⟨R, hR⟩ : ∃ R, R = D.tup rows := ⟨_, rfl⟩
  obtain ⟨N, hN⟩ : ∃ N : Int, N = (rows.length : Int) := ⟨_, rfl⟩
  obtain ⟨Z, hZ⟩ : ∃ Z : Int, Z = (s0 : Int) := ⟨_, rfl⟩
  have lR : ∀ M, lenF [R] M = ok (.int N) M := fun M => by rw [hR, hN]; rfl
  have c1 : ∀ M, leF (.int 1) (.int N) M = ok (.bl true) M := fun M => by rw [le_int, decide_eq_true (by omega)]
  have c1' : ∀ M, leF (.int N) (.int 11) M = ok (.bl true) M := fun M => by rw [le_int, decide_eq_true (by omega)]
  have t1 : ∀ M, isiB subT [R, .ty "tuple"] M = ok (.bl true) M := fun M => by rw [hR]; exact isi_tup hx
  have hc : ∀ M, cutE (compD (set1 3) (cD (.bl true)) (brD (tstD (callD (isiB subT) (consA (nameD 3) (consA (cD (.ty "tuple")) (nilA))))) (callD (lenF) (consA (nameD 3) (nilA))) (cD (.int 0))) [3] (itD (nameD 0))) [some R, none, none, none] M = ok (.lst (S.map D.int)) M := fun M => by
    rw [hS, List.map_map]
    refine comp_v (g := id) (f := fun r => D.int (lenOr0 r : Int)) rows (by rw [List.map_id]; exact it_tup (by rw [hR]; rfl)) (by omega) (fun r hr => ⟨[some R, none, none, some r], rfl, fun M => ?_⟩) (fun _ _ => rfl)
    have o := okBs_all.mp hx r hr
    have t2 := fun M => isi_tup (M := M) o
    cases r with
    | scr _ => cases o
    | loc _ => cases o
    | exc _ _ => cases o
    | ty _ => cases o
    | cls _ => cases o
    | clo _ _ _ _ _ _ => cases o
    | ktp _ => cases o
    | tup ds => simp [seqS, ifS, retS, raiseF, raiseS, consA, nilA, binD, callD, nameD, cD, bindE_v, thenS_v, bindE_x, thenS_x, unD, parS, asgS, tupD, int2F, eq_int, ne_int, intF0, negF, notF, nilS, brD, fnD, addE, subE, ix0, ix1, dropS, asgG, tupG, consG, nameG, nilG, lstD, andD, orD, tstD, ownS, appS, len_tup, len_lst, tup_tup, wipeE, set1, set2, typ_int, typ_tup, typ_non, typ_lst, isF, chainD, asT, truD, len_row, typ_row, t2, isTp, lenOr0]
    | _ => simp [seqS, ifS, retS, raiseF, raiseS, consA, nilA, binD, callD, nameD, cD, bindE_v, thenS_v, bindE_x, thenS_x, unD, parS, asgS, tupD, int2F, eq_int, ne_int, intF0, negF, notF, nilS, brD, fnD, addE, subE, ix0, ix1, dropS, asgG, tupG, consG, nameG, nilG, lstD, andD, orD, tstD, ownS, appS, len_tup, len_lst, tup_tup, wipeE, set1, set2, typ_int, typ_tup, typ_non, typ_lst, isF, chainD, asT, truD, len_row, typ_row, t2, isTp, lenOr0]
  have ls : S.length = rows.length := by rw [hS, List.length_map]
  have i0 : ∀ M, ixF (.lst (S.map D.int)) (.int 0) M = ok (.int Z) M := fun M => by
    refine ix_lst (at_nat (n := 0) ?_)
    rw [List.getElem?_map, hS, List.getElem?_map, hZ]
    obtain ⟨r0, e1, e2⟩ := Option.map_eq_some_iff.mp h0
    rw [e1, ← e2]
    rfl
  have ln : ∀ M, lenF [.lst (S.map D.int)] M = ok (.int N) M := fun M => by rw [len_lst, List.length_map, ls, hN]
  obtain ⟨T, hT⟩ : ∃ T, T = (List.replicate rows.length Z).map D.int := ⟨_, rfl⟩
  have mu : ∀ M, mulF (.lst [.int Z]) (.int N) M = ok (.lst T) M := fun M => by
    rw [hT]
    have q3 : 16 ≤ sizeLine := by decide
    have e1 : (List.replicate N.toNat [D.int Z]).flatten = (List.replicate rows.length Z).map D.int := by
      rw [hN, Int.toNat_natCast, List.map_replicate]
      induction rows.length with
      | zero => rfl
      | succ k ih => rw [List.replicate_succ, List.flatten_cons, ih]; rfl
    show (if -(2 ^ 63) ≤ N ∧ N < 2 ^ 63 ∧ ([D.int Z] : List D).length * N.toNat ≤ sizeLine then ok (D.lst (List.replicate N.toNat [D.int Z]).flatten) M else none) = _
    rw [if_pos ⟨by omega, by omega, by rw [hN, Int.toNat_natCast, List.length_singleton]; omega⟩, e1]
  have ne : ∀ M, neF (.lst (S.map D.int)) (.lst T) M = ok (.bl (!decide (S = List.replicate rows.length Z))) M := fun M => by
    rw [hT, show neF = eqvF true from rfl, eq_ints, t_ne]
  have eqS : S = List.replicate rows.length Z ↔ ∀ r ∈ rows, lenOr0 r = s0 := by
    rw [List.eq_replicate_iff, ls, hS, hZ]
    exact ⟨fun q r hr => by have := q.2 _ (List.mem_map.mpr ⟨r, hr, rfl⟩); omega, fun q => ⟨rfl, fun z hz => by
      obtain ⟨r, hr, rfl⟩ := List.mem_map.mp hz
      rw [q r hr]⟩⟩
  have c2 : ∀ M, leF (.int 1) (.int Z) M = ok (.bl (decide (1 ≤ s0))) M := fun M => by rw [le_int, show decide ((1 : Int) ≤ Z) = decide (1 ≤ s0) from decide_eq_decide.mpr (by omega)]
  have c2' : ∀ M, leF (.int Z) (.int 11) M = ok (.bl (decide (s0 ≤ 11))) M := fun M => by rw [le_int, show decide (Z ≤ (11 : Int)) = decide (s0 ≤ 11) from decide_eq_decide.mpr (by omega)]
  show m__law_sides [.tup rows] M = _
  rw [← hR, ← hZ, ← hN]
  refine fv_wp (e0 := [some R, none, none, none]) rfl ?_ (by cases b <;> rfl)
  unfold den__law_sides
  refine wp_nx (e' := [some R, none, none, none]) (M' := M) (by simp [seqS, ifS, retS, raiseF, raiseS, consA, nilA, binD, callD, nameD, cD, bindE_v, thenS_v, bindE_x, thenS_x, unD, parS, asgS, tupD, int2F, eq_int, ne_int, intF0, negF, notF, nilS, brD, fnD, addE, subE, ix0, ix1, dropS, asgG, tupG, consG, nameG, nilG, lstD, andD, orD, tstD, ownS, appS, len_tup, len_lst, tup_tup, wipeE, set1, set2, typ_int, typ_tup, typ_non, typ_lst, isF, chainD, asT, truD, len_row, typ_row, t1, lR, c1, c1']) ?_
  refine wp_nx (e' := [some R, some (.lst (S.map D.int)), none, none]) (M' := M) (by simp [seqS, ifS, retS, raiseF, raiseS, consA, nilA, binD, callD, nameD, cD, bindE_v, thenS_v, bindE_x, thenS_x, unD, parS, asgS, tupD, int2F, eq_int, ne_int, intF0, negF, notF, nilS, brD, fnD, addE, subE, ix0, ix1, dropS, asgG, tupG, consG, nameG, nilG, lstD, andD, orD, tstD, ownS, appS, len_tup, len_lst, tup_tup, wipeE, set1, set2, typ_int, typ_tup, typ_non, typ_lst, isF, chainD, asT, truD, len_row, typ_row, hc]) ?_
  refine wp_nx (e' := [some R, some (.lst (S.map D.int)), some (.int N), none]) (M' := M) (by simp [seqS, ifS, retS, raiseF, raiseS, consA, nilA, binD, callD, nameD, cD, bindE_v, thenS_v, bindE_x, thenS_x, unD, parS, asgS, tupD, int2F, eq_int, ne_int, intF0, negF, notF, nilS, brD, fnD, addE, subE, ix0, ix1, dropS, asgG, tupG, consG, nameG, nilG, lstD, andD, orD, tstD, ownS, appS, len_tup, len_lst, tup_tup, wipeE, set1, set2, typ_int, typ_tup, typ_non, typ_lst, isF, chainD, asT, truD, len_row, typ_row, ln]) ?_
  by_cases hq : S = List.replicate rows.length Z
  · by_cases hr : 1 ≤ s0 ∧ s0 ≤ 11
    · have hb' : b = true := hb.mpr ⟨eqS.mp hq, hr⟩
      refine wp_nx (e' := [some R, some (.lst (S.map D.int)), some (.int N), none]) (M' := M) (by simp [seqS, ifS, retS, raiseF, raiseS, consA, nilA, binD, callD, nameD, cD, bindE_v, thenS_v, bindE_x, thenS_x, unD, parS, asgS, tupD, int2F, eq_int, ne_int, intF0, negF, notF, nilS, brD, fnD, addE, subE, ix0, ix1, dropS, asgG, tupG, consG, nameG, nilG, lstD, andD, orD, tstD, ownS, appS, len_tup, len_lst, tup_tup, wipeE, set1, set2, typ_int, typ_tup, typ_non, typ_lst, isF, chainD, asT, truD, len_row, typ_row, i0, mu, ne, decide_eq_true hq, c2, c2', decide_eq_true hr.1, decide_eq_true hr.2]) ?_
      rw [hb']
      exact wp_of (.rt _) (M' := M) (by simp [seqS, ifS, retS, raiseF, raiseS, consA, nilA, binD, callD, nameD, cD, bindE_v, thenS_v, bindE_x, thenS_x, unD, parS, asgS, tupD, int2F, eq_int, ne_int, intF0, negF, notF, nilS, brD, fnD, addE, subE, ix0, ix1, dropS, asgG, tupG, consG, nameG, nilG, lstD, andD, orD, tstD, ownS, appS, len_tup, len_lst, tup_tup, wipeE, set1, set2, typ_int, typ_tup, typ_non, typ_lst, isF, chainD, asT, truD, len_row, typ_row, i0]) ⟨rfl, [], by simp⟩
    · have hb' : b = false := by
        cases b with
        | false => rfl
        | true => exact absurd (hb.mp rfl).2 hr
      rw [hb']
      refine wp_seq (wp_of (.rt (.lst [])) (M' := M) ?_ (.inr ⟨(fun _ z => nomatch z), rfl, [], by simp⟩))
      by_cases r1 : 1 ≤ s0
      · have r2 : ¬ s0 ≤ 11 := fun z => hr ⟨r1, z⟩
        simp [seqS, ifS, retS, raiseF, raiseS, consA, nilA, binD, callD, nameD, cD, bindE_v, thenS_v, bindE_x, thenS_x, unD, parS, asgS, tupD, int2F, eq_int, ne_int, intF0, negF, notF, nilS, brD, fnD, addE, subE, ix0, ix1, dropS, asgG, tupG, consG, nameG, nilG, lstD, andD, orD, tstD, ownS, appS, len_tup, len_lst, tup_tup, wipeE, set1, set2, typ_int, typ_tup, typ_non, typ_lst, isF, chainD, asT, truD, len_row, typ_row, i0, mu, ne, decide_eq_true hq, c2, c2', decide_eq_true r1, decide_eq_false r2]
      · simp [seqS, ifS, retS, raiseF, raiseS, consA, nilA, binD, callD, nameD, cD, bindE_v, thenS_v, bindE_x, thenS_x, unD, parS, asgS, tupD, int2F, eq_int, ne_int, intF0, negF, notF, nilS, brD, fnD, addE, subE, ix0, ix1, dropS, asgG, tupG, consG, nameG, nilG, lstD, andD, orD, tstD, ownS, appS, len_tup, len_lst, tup_tup, wipeE, set1, set2, typ_int, typ_tup, typ_non, typ_lst, isF, chainD, asT, truD, len_row, typ_row, i0, mu, ne, decide_eq_true hq, c2, c2', decide_eq_false r1]
  · have hb' : b = false := by
      cases b with
      | false => rfl
      | true => exact absurd (eqS.mpr (hb.mp rfl).1) hq
    rw [hb']
    exact wp_seq (wp_of (.rt (.lst [])) (M' := M) (by simp [seqS, ifS, retS, raiseF, raiseS, consA, nilA, binD, callD, nameD, cD, bindE_v, thenS_v, bindE_x, thenS_x, unD, parS, asgS, tupD, int2F, eq_int, ne_int, intF0, negF, notF, nilS, brD, fnD, addE, subE, ix0, ix1, dropS, asgG, tupG, consG, nameG, nilG, lstD, andD, orD, tstD, ownS, appS, len_tup, len_lst, tup_tup, wipeE, set1, set2, typ_int, typ_tup, typ_non, typ_lst, isF, chainD, asT, truD, len_row, typ_row, i0, mu, ne, decide_eq_false hq]) (.inr ⟨(fun _ z => nomatch z), rfl, [], by simp⟩))
end
end K02
namespace K02
open PySem L2 DL
section
variable {B w h n : Nat} {x : D} {f : Nat → Nat → D} {M : Store} {rows : List D}
theorem lsides_tab (w1 : 1 ≤ w) (w2 : w ≤ 11) (h1 : 1 ≤ h) (h2 : h ≤ 11) (hx : okB B (tabD w h f) = true) : m__law_sides [tabD w h f] M = ok (.lst [.int (w : Int), .int (h : Int)]) M := by
  have hl : ((List.range h).map fun y => rowD w fun x => f x y).length = h := by rw [List.length_map, List.length_range]
  have e := lsides_b (M := M) (b := true) (s0 := w) (rows := (List.range h).map fun y => rowD w fun x => f x y) hx (by rw [hl]; exact h1) (by rw [hl]; exact h2) (by
    rw [List.getElem?_map, List.getElem?_range (by omega)]
    show some (((List.range w).map fun x => f x 0).length) = some w
    rw [List.length_map, List.length_range]) ⟨fun _ => ⟨fun r hr => by
      obtain ⟨y, _, rfl⟩ := List.mem_map.mp hr
      show ((List.range w).map fun x => f x y).length = w
      rw [List.length_map, List.length_range], w1, w2⟩, fun _ => rfl⟩
  rw [hl] at e
  exact e
theorem lsides_no (hx : okB B x = true) (hn : ¬ isTab x) : m__law_sides [x] M = ok (.lst []) M := by
  have s1 := fun M => isi_tup (M := M) hx
  cases ht : isTp x with
  | false => exact fv_rt0 (e0 := [some x, none, none, none]) rfl (by simp [seqS, ifS, retS, raiseF, raiseS, consA, nilA, binD, callD, nameD, cD, bindE_v, thenS_v, bindE_x, thenS_x, unD, parS, asgS, tupD, int2F, eq_int, ne_int, intF0, negF, notF, nilS, brD, fnD, addE, subE, ix0, ix1, dropS, asgG, tupG, consG, nameG, nilG, lstD, andD, orD, tstD, ownS, appS, len_tup, len_lst, tup_tup, wipeE, set1, set2, typ_int, typ_tup, typ_non, typ_lst, isF, chainD, asT, truD, len_row, typ_row, den__law_sides, s1, ht]) rfl
  | true =>
    obtain ⟨rows, rfl⟩ : ∃ rows, x = .tup rows := by
      cases x with
      | tup ds => exact ⟨ds, rfl⟩
      | _ => cases ht
    by_cases hl : 1 ≤ rows.length ∧ rows.length ≤ 11
    · obtain ⟨r0, h0⟩ : ∃ r0, rows[0]? = some r0 := ⟨rows[0], List.getElem?_eq_getElem (by omega)⟩
      have e := lsides_b (M := M) (b := false) (s0 := lenOr0 r0) hx hl.1 hl.2 (by rw [h0]; rfl) ⟨(fun z => nomatch z), (fun ⟨q1, q2, q3⟩ => by
        refine absurd ⟨_, _, _, q2, q3, hl.1, hl.2, tab_of rfl fun r hr => ?_⟩ hn
        have := q1 r hr
        cases r with
        | tup ds => exact decide_eq_true this
        | _ =>
          have z : 0 = lenOr0 r0 := this
          omega)⟩
      exact e
    · obtain ⟨R, hR⟩ : ∃ R, R = D.tup rows := ⟨_, rfl⟩
      obtain ⟨N, hN⟩ : ∃ N : Int, N = (rows.length : Int) := ⟨_, rfl⟩
      have lR : ∀ M, lenF [R] M = ok (.int N) M := fun M => by rw [hR, hN]; rfl
      have t1 : ∀ M, isiB subT [R, .ty "tuple"] M = ok (.bl true) M := fun M => by rw [hR]; exact s1 M
      rw [← hR]
      refine fv_rt0 (e0 := [some R, none, none, none]) rfl ?_ rfl
      by_cases q : 1 ≤ rows.length
      · have c1 : ∀ M, leF (.int 1) (.int N) M = ok (.bl true) M := fun M => by rw [le_int, decide_eq_true (by omega)]
        have c2 : ∀ M, leF (.int N) (.int 11) M = ok (.bl false) M := fun M => by rw [le_int, decide_eq_false (by omega)]
        simp [seqS, ifS, retS, raiseF, raiseS, consA, nilA, binD, callD, nameD, cD, bindE_v, thenS_v, bindE_x, thenS_x, unD, parS, asgS, tupD, int2F, eq_int, ne_int, intF0, negF, notF, nilS, brD, fnD, addE, subE, ix0, ix1, dropS, asgG, tupG, consG, nameG, nilG, lstD, andD, orD, tstD, ownS, appS, len_tup, len_lst, tup_tup, wipeE, set1, set2, typ_int, typ_tup, typ_non, typ_lst, isF, chainD, asT, truD, len_row, typ_row, den__law_sides, t1, lR, c1, c2]
      · have c1 : ∀ M, leF (.int 1) (.int N) M = ok (.bl false) M := fun M => by rw [le_int, decide_eq_false (by omega)]
        simp [seqS, ifS, retS, raiseF, raiseS, consA, nilA, binD, callD, nameD, cD, bindE_v, thenS_v, bindE_x, thenS_x, unD, parS, asgS, tupD, int2F, eq_int, ne_int, intF0, negF, notF, nilS, brD, fnD, addE, subE, ix0, ix1, dropS, asgG, tupG, consG, nameG, nilG, lstD, andD, orD, tstD, ownS, appS, len_tup, len_lst, tup_tup, wipeE, set1, set2, typ_int, typ_tup, typ_non, typ_lst, isF, chainD, asT, truD, len_row, typ_row, den__law_sides, t1, lR, c1]
theorem enum_row {da : DenE} {e : DL.Env} {g : Nat → D} (hd : da e M = ok (rowD n g) M) : enumD (consA da nilA) e M = ok (enumI 0 ((List.range n).map g), fun _ => True) M := by
  unfold enumD
  show bindE (bindE (da e M) fun d M1 => bindE (ok [] M1) fun ds M2 => ok (d :: ds) M2) _ = _
  rw [hd]
  rfl
theorem enum_len' {g : Nat → D} : (enumI 0 ((List.range n).map g)).length = n := by rw [enum_len, List.length_map, List.length_range]
theorem enum_at {g : Nat → D} {j : Nat} {d : D} (hd : (enumI 0 ((List.range n).map g))[j]? = some d) : j < n ∧ d = .tup [.int (j : Int), g j] := by
  rw [enum_get] at hd
  obtain ⟨d0, h0, rfl⟩ := Option.map_eq_some_iff.mp hd
  obtain ⟨h1, rfl⟩ := rng_get h0
  rw [Nat.zero_add]
  exact ⟨h1, rfl⟩
theorem numbers_b {b : Bool} (hx : okB B (tabD w h f) = true) (hb : b = true ↔ goodH w h f) : m__law_are_numbers [tabD w h f, .lst [.int (w : Int), .int (h : Int)]] M = ok (.bl b) M := by
  have hg := fun x y hx' hy => tab_get (f := f) (i := x) (j := y) hx' hy hx
  obtain ⟨R, hR⟩ : ∃ R, R = tabD w h f := ⟨_, rfl⟩
  obtain ⟨S, hS⟩ : ∃ S, S = D.lst [.int (w : Int), .int (h : Int)] := ⟨_, rfl⟩
  obtain ⟨W, hW⟩ : ∃ W : Int, W = (w : Int) - 1 := ⟨_, rfl⟩
  obtain ⟨T, hT⟩ : ∃ T : Int, T = (h : Int) - 1 := ⟨_, rfl⟩
  have s0 : ∀ M, ixF S (.int 0) M = ok (.int (w : Int)) M := fun M => by rw [hS]; exact ix_lst (at_nat (n := 0) rfl)
  have s1 : ∀ M, ixF S (.int 1) M = ok (.int (h : Int)) M := fun M => by rw [hS]; exact ix_lst (at_nat (n := 1) rfl)
  have hbad : ∀ x y, x < w → y < h → (¬ ∃ i, f x y = .int i ∧ (rimB w h x y = true → i.natAbs ≤ 35)) → D.bl false = D.bl b := fun x y hx' hy hn => by
    cases b with
    | false => rfl
    | true => exact absurd (hb.mp rfl x y hx' hy) hn
  rw [← hR, ← hS]
  refine fv_wp (e0 := [some R, some S, none, none, none, none, none]) rfl ?_ rfl
  unfold den__law_are_numbers
  refine wp_forR_nx (enumI 0 ((List.range h).map fun y => rowD w fun x => f x y)) (fun j e M' => M' = M ∧ (∃ a1 a2 a3 a4 a5, e = [some R, some S, a1, a2, a3, a4, a5]) ∧ ∀ y, y < j → ∀ x, x < w → ∃ i, f x y = .int i ∧ (rimB w h x y = true → i.natAbs ≤ 35)) (enum_row (by rw [hR]; rfl)) (fun y d e M' hd hi => ?_) (fun _ _ _ => trivial) ⟨rfl, ⟨_, _, _, _, _, rfl⟩, fun i hi => absurd hi (Nat.not_lt_zero i)⟩ (fun e' M' hi => ?_)
  · obtain ⟨rfl, ⟨a1, a2, a3, a4, a5, rfl⟩, hq⟩ := hi
    obtain ⟨hy, rfl⟩ := enum_at hd
    obtain ⟨Q, hQ⟩ : ∃ Q, Q = rowD w fun x => f x y := ⟨_, rfl⟩
    obtain ⟨Y, hY⟩ : ∃ Y : Int, Y = (y : Int) := ⟨_, rfl⟩
    rw [← hQ, ← hY]
    refine ⟨trivial, [some R, some S, some (.int Y), some Q, a3, a4, a5], M', by simp [seqS, ifS, retS, raiseF, raiseS, consA, nilA, binD, callD, nameD, cD, bindE_v, thenS_v, bindE_x, thenS_x, unD, parS, asgS, tupD, int2F, eq_int, ne_int, intF0, negF, notF, nilS, brD, fnD, addE, subE, ix0, ix1, dropS, asgG, tupG, consG, nameG, nilG, lstD, andD, orD, tstD, ownS, appS, len_tup, len_lst, tup_tup, wipeE, set1, set2, typ_int, typ_tup, typ_non, typ_lst, isF, chainD, asT, truD, len_row, typ_row], ?_⟩
    refine wp_forR (enumI 0 ((List.range w).map fun x => f x y)) (fun j e M'' => M'' = M' ∧ (∃ a3 a4 a5, e = [some R, some S, some (.int Y), some Q, a3, a4, a5]) ∧ ∀ x, x < j → ∃ i, f x y = .int i ∧ (rimB w h x y = true → i.natAbs ≤ 35)) (enum_row (by rw [hQ]; rfl)) (fun x d e M2 hd2 hi2 => ?_) (fun _ _ _ => trivial) ⟨rfl, ⟨_, _, _, rfl⟩, fun i hi => absurd hi (Nat.not_lt_zero i)⟩ (fun e' M2 hi2 => ?_)
    · obtain ⟨rfl, ⟨a3, a4, a5, rfl⟩, hq2⟩ := hi2
      obtain ⟨hx', rfl⟩ := enum_at hd2
      obtain ⟨Z, hZ⟩ : ∃ Z, Z = f x y := ⟨_, rfl⟩
      obtain ⟨V, hV⟩ : ∃ V : Int, V = (x : Int) := ⟨_, rfl⟩
      have oz : okB B Z = true := by rw [hZ]; exact hg _ _ hx' hy
      rw [← hZ, ← hV]
      have k1 : ∀ M, inF false (.int V) (.tup [.int 0, .int W]) M = ok (.bl (decide (x = 0) || decide (x + 1 = w))) M := fun M => by
        rw [in2, show decide ((0 : Int) = V) = decide (x = 0) from decide_eq_decide.mpr (by omega), show decide (W = V) = decide (x + 1 = w) from decide_eq_decide.mpr (by omega)]
      have k2 : ∀ M, inF false (.int Y) (.tup [.int 0, .int T]) M = ok (.bl (decide (y = 0) || decide (y + 1 = h))) M := fun M => by
        rw [in2, show decide ((0 : Int) = Y) = decide (y = 0) from decide_eq_decide.mpr (by omega), show decide (T = Y) = decide (y + 1 = h) from decide_eq_decide.mpr (by omega)]
      obtain ⟨c, hc⟩ : ∃ c, c = rimB w h x y := ⟨_, rfl⟩
      refine ⟨trivial, [some R, some S, some (.int Y), some Q, some (.int V), some Z, a5], M2, by simp [seqS, ifS, retS, raiseF, raiseS, consA, nilA, binD, callD, nameD, cD, bindE_v, thenS_v, bindE_x, thenS_x, unD, parS, asgS, tupD, int2F, eq_int, ne_int, intF0, negF, notF, nilS, brD, fnD, addE, subE, ix0, ix1, dropS, asgG, tupG, consG, nameG, nilG, lstD, andD, orD, tstD, ownS, appS, len_tup, len_lst, tup_tup, wipeE, set1, set2, typ_int, typ_tup, typ_non, typ_lst, isF, chainD, asT, truD, len_row, typ_row], ?_⟩
      refine wp_nx (e' := [some R, some S, some (.int Y), some Q, some (.int V), some Z, some (.bl c)]) (M' := M2) ?_ ?_
      · rw [hc]
        unfold rimB
        cases hc1 : (decide (x = 0) || decide (x + 1 = w)) with
        | true => simp [seqS, ifS, retS, raiseF, raiseS, consA, nilA, binD, callD, nameD, cD, bindE_v, thenS_v, bindE_x, thenS_x, unD, parS, asgS, tupD, int2F, eq_int, ne_int, intF0, negF, notF, nilS, brD, fnD, addE, subE, ix0, ix1, dropS, asgG, tupG, consG, nameG, nilG, lstD, andD, orD, tstD, ownS, appS, len_tup, len_lst, tup_tup, wipeE, set1, set2, typ_int, typ_tup, typ_non, typ_lst, isF, chainD, asT, truD, len_row, typ_row, s0, s1, ← hW, ← hT, k1, k2, hc1]
        | false => simp [seqS, ifS, retS, raiseF, raiseS, consA, nilA, binD, callD, nameD, cD, bindE_v, thenS_v, bindE_x, thenS_x, unD, parS, asgS, tupD, int2F, eq_int, ne_int, intF0, negF, notF, nilS, brD, fnD, addE, subE, ix0, ix1, dropS, asgG, tupG, consG, nameG, nilG, lstD, andD, orD, tstD, ownS, appS, len_tup, len_lst, tup_tup, wipeE, set1, set2, typ_int, typ_tup, typ_non, typ_lst, isF, chainD, asT, truD, len_row, typ_row, s0, s1, ← hW, ← hT, k1, k2, hc1]
      have t2 := lwhole_b (M := M2) oz
      have step : (∃ i, f x y = .int i ∧ (rimB w h x y = true → i.natAbs ≤ 35)) → ∀ x', x' < x + 1 → ∃ i, f x' y = .int i ∧ (rimB w h x' y = true → i.natAbs ≤ 35) := fun gp i hi => by
        rcases Nat.lt_succ_iff_lt_or_eq.mp hi with hi | rfl
        · exact hq2 i hi
        · exact gp
      cases hw : isWh Z with
      | false =>
        refine wp_of (.rt (.bl false)) (M' := M2) (by simp [seqS, ifS, retS, raiseF, raiseS, consA, nilA, binD, callD, nameD, cD, bindE_v, thenS_v, bindE_x, thenS_x, unD, parS, asgS, tupD, int2F, eq_int, ne_int, intF0, negF, notF, nilS, brD, fnD, addE, subE, ix0, ix1, dropS, asgG, tupG, consG, nameG, nilG, lstD, andD, orD, tstD, ownS, appS, len_tup, len_lst, tup_tup, wipeE, set1, set2, typ_int, typ_tup, typ_non, typ_lst, isF, chainD, asT, truD, len_row, typ_row, t2, hw]) (.inr ⟨_, rfl, .inr ⟨_, rfl, ?_, [], by simp⟩⟩)
        rw [hbad x y hx' hy fun ⟨i, e, _⟩ => by rw [hZ, e] at hw; cases hw]
      | true =>
        obtain ⟨z, hz⟩ : ∃ z, Z = .int z := by
          cases Z with
          | int z => exact ⟨z, rfl⟩
          | _ => cases hw
        rw [hz] at t2 hw hZ ⊢
        cases hq3 : c with
        | false =>
          refine wp_of (M' := M2) (.nx [some R, some S, some (.int Y), some Q, some (.int V), some (.int z), some (.bl false)]) (by simp [seqS, ifS, retS, raiseF, raiseS, consA, nilA, binD, callD, nameD, cD, bindE_v, thenS_v, bindE_x, thenS_x, unD, parS, asgS, tupD, int2F, eq_int, ne_int, intF0, negF, notF, nilS, brD, fnD, addE, subE, ix0, ix1, dropS, asgG, tupG, consG, nameG, nilG, lstD, andD, orD, tstD, ownS, appS, len_tup, len_lst, tup_tup, wipeE, set1, set2, typ_int, typ_tup, typ_non, typ_lst, isF, chainD, asT, truD, len_row, typ_row, t2, hw]) (.inl ⟨_, .inl rfl, rfl, ⟨_, _, _, rfl⟩, step ⟨z, hZ.symm, fun q => ?_⟩⟩)
          rw [← hc, hq3] at q
          cases q
        | true =>
          have n1 : ∀ M, leF (.int (-35)) (.int z) M = ok (.bl (decide (-35 ≤ z))) M := fun M => le_int
          have n2 : ∀ M, leF (.int z) (.int 35) M = ok (.bl (decide (z ≤ 35))) M := fun M => le_int
          by_cases b4 : z.natAbs ≤ 35
          · refine wp_of (M' := M2) (.nx [some R, some S, some (.int Y), some Q, some (.int V), some (.int z), some (.bl true)]) ?_ (.inl ⟨_, .inl rfl, rfl, ⟨_, _, _, rfl⟩, step ⟨z, hZ.symm, fun _ => b4⟩⟩)
            have m1 : -35 ≤ z := by omega
            have m2 : z ≤ 35 := by omega
            simp [seqS, ifS, retS, raiseF, raiseS, consA, nilA, binD, callD, nameD, cD, bindE_v, thenS_v, bindE_x, thenS_x, unD, parS, asgS, tupD, int2F, eq_int, ne_int, intF0, negF, notF, nilS, brD, fnD, addE, subE, ix0, ix1, dropS, asgG, tupG, consG, nameG, nilG, lstD, andD, orD, tstD, ownS, appS, len_tup, len_lst, tup_tup, wipeE, set1, set2, typ_int, typ_tup, typ_non, typ_lst, isF, chainD, asT, truD, len_row, typ_row, t2, hw, n1, n2, decide_eq_true m1, decide_eq_true m2]
          · refine wp_of (.rt (.bl false)) (M' := M2) ?_ (.inr ⟨_, rfl, .inr ⟨_, rfl, ?_, [], by simp⟩⟩)
            · by_cases m1 : -35 ≤ z
              · have m2 : ¬ z ≤ 35 := by omega
                simp [seqS, ifS, retS, raiseF, raiseS, consA, nilA, binD, callD, nameD, cD, bindE_v, thenS_v, bindE_x, thenS_x, unD, parS, asgS, tupD, int2F, eq_int, ne_int, intF0, negF, notF, nilS, brD, fnD, addE, subE, ix0, ix1, dropS, asgG, tupG, consG, nameG, nilG, lstD, andD, orD, tstD, ownS, appS, len_tup, len_lst, tup_tup, wipeE, set1, set2, typ_int, typ_tup, typ_non, typ_lst, isF, chainD, asT, truD, len_row, typ_row, t2, hw, n1, n2, decide_eq_true m1, decide_eq_false m2]
              · simp [seqS, ifS, retS, raiseF, raiseS, consA, nilA, binD, callD, nameD, cD, bindE_v, thenS_v, bindE_x, thenS_x, unD, parS, asgS, tupD, int2F, eq_int, ne_int, intF0, negF, notF, nilS, brD, fnD, addE, subE, ix0, ix1, dropS, asgG, tupG, consG, nameG, nilG, lstD, andD, orD, tstD, ownS, appS, len_tup, len_lst, tup_tup, wipeE, set1, set2, typ_int, typ_tup, typ_non, typ_lst, isF, chainD, asT, truD, len_row, typ_row, t2, hw, n1, decide_eq_false m1]
            · rw [hbad x y hx' hy fun ⟨i, e, q⟩ => by
                rw [← hZ] at e
                cases e
                exact b4 (q (by rw [← hc, hq3]))]
    · obtain ⟨rfl, ⟨a3, a4, a5, rfl⟩, hq2⟩ := hi2
      rw [enum_len'] at hq2
      refine .inl ⟨_, .inl rfl, rfl, ⟨_, _, _, _, _, rfl⟩, fun y' hy' x' hx' => ?_⟩
      rcases Nat.lt_succ_iff_lt_or_eq.mp hy' with hy' | rfl
      · exact hq y' hy' x' hx'
      · exact hq2 x' hx'
  · obtain ⟨rfl, ⟨a1, a2, a3, a4, a5, rfl⟩, hq⟩ := hi
    rw [enum_len'] at hq
    refine wp_of (.rt (.bl true)) (M' := M') (by simp [seqS, ifS, retS, raiseF, raiseS, consA, nilA, binD, callD, nameD, cD, bindE_v, thenS_v, bindE_x, thenS_x, unD, parS, asgS, tupD, int2F, eq_int, ne_int, intF0, negF, notF, nilS, brD, fnD, addE, subE, ix0, ix1, dropS, asgG, tupG, consG, nameG, nilG, lstD, andD, orD, tstD, ownS, appS, len_tup, len_lst, tup_tup, wipeE, set1, set2, typ_int, typ_tup, typ_non, typ_lst, isF, chainD, asT, truD, len_row, typ_row]) ⟨?_, [], by simp⟩
    rw [hb.mpr fun x y hx' hy => hq y hy x hx']
end
end K02
namespace K02
open PySem L2 DL
/-- evenness and neighbours of a table of numbers -/
def stepsG (w h : Nat) (H : Nat → Nat → Int) : Prop := ∀ x y, x < w → y < h → ((x : Int) + (y : Int) + H x y) % 2 = 0 ∧ (∀ x', x = x' + 1 → (H x y - H x' y).natAbs = 1) ∧ (∀ y', y = y' + 1 → (H x y - H x y').natAbs = 1)
end K02
namespace K02
open PySem L2 DL
section
variable {B w h n : Nat} {M : Store} {H : Nat → Nat → Int} {e : DL.Env} {da dk : DenE} {g : Nat → D}
/-- the last of the first k of a row -/
def lastK (g : Nat → D) : Nat → List D
  | 0 => []
  | k + 1 => [g k]
theorem last_take {k : Nat} (hk : k ≤ n) : (((List.range n).map g).take k).drop ((((List.range n).map g).take k).length - 1) = lastK g k := by
  have e1 : ((List.range n).map g).take k = (List.range k).map g := by
    rw [← List.map_take, List.take_range, Nat.min_eq_left hk]
  rw [e1]
  cases k with
  | zero => rfl
  | succ k =>
    rw [List.range_succ, List.map_append]
    exact last_snoc
theorem slp_lastk {k : Nat} {K : Int} (ha : da e M = ok (rowD n g) M) (hd : dk e M = ok (.int K) M) (hK : K = (k : Int)) (hk : k ≤ n) (hn : n ≤ 1000) : slpD (slpD da noneO (someO dk) noneO) (someO (unD negF (cD (.int 1)))) noneO noneO e M = ok (.tup (lastK g k)) M := by
  have hl : ((List.range n).map g).length = n := by rw [List.length_map, List.length_range]
  rw [slp_lastT (ds := ((List.range n).map g).take k) (slp_takeT (ds := (List.range n).map g) ha hd hK (by omega) (by omega)) (by rw [List.length_take]; omega), last_take hk]
theorem add_data {xs ys : List D} (h : xs.length + ys.length ≤ 100000) : addF (.lst xs) (.lst ys) M = ok (.lst (xs ++ ys)) M := add_lst h
/-- a spot's neighbours ahead of it -/
def nearL (H : Nat → Nat → Int) (x y : Nat) : List Int := (match x with | 0 => [] | k + 1 => [H k y]) ++ (match y with | 0 => [] | k + 1 => [H x k])
theorem lsteps_b {b : Bool} (w2 : w ≤ 11) (h2 : h ≤ 11) (hb : b = true ↔ stepsG w h H) : m__law_are_steps [tabD w h (hD H)] M = ok (.bl b) M := by
  obtain ⟨R, hR⟩ : ∃ R, R = tabD w h (hD H) := ⟨_, rfl⟩
  let G : Nat → Nat → Prop := fun x y => ((x : Int) + (y : Int) + H x y) % 2 = 0 ∧ (∀ x', x = x' + 1 → (H x y - H x' y).natAbs = 1) ∧ (∀ y', y = y' + 1 → (H x y - H x y').natAbs = 1)
  have hbad : ∀ x y, x < w → y < h → ¬ G x y → D.bl false = D.bl b := fun x y hx' hy hn => by
    cases b with
    | false => rfl
    | true => exact absurd (hb.mp rfl x y hx' hy) hn
  rw [← hR]
  refine fv_wp (e0 := [some R, none, none, none, none, none, none, none]) rfl ?_ rfl
  unfold den__law_are_steps
  refine wp_forR_nx (enumI 0 ((List.range h).map fun y => rowD w fun x => hD H x y)) (fun j e M' => M' = M ∧ (∃ a1 a2 a3 a4 a5 a6 a7, e = [some R, a1, a2, a3, a4, a5, a6, a7]) ∧ ∀ y, y < j → ∀ x, x < w → G x y) (enum_row (by rw [hR]; rfl)) (fun y d e M' hd hi => ?_) (fun _ _ _ => trivial) ⟨rfl, ⟨_, _, _, _, _, _, _, rfl⟩, fun i hi => absurd hi (Nat.not_lt_zero i)⟩ (fun e' M' hi => ?_)
  · obtain ⟨rfl, ⟨a1, a2, a3, a4, a5, a6, a7, rfl⟩, hq⟩ := hi
    obtain ⟨hy, rfl⟩ := enum_at hd
    obtain ⟨Q, hQ⟩ : ∃ Q, Q = rowD w fun x => hD H x y := ⟨_, rfl⟩
    obtain ⟨Y, hY⟩ : ∃ Y : Int, Y = (y : Int) := ⟨_, rfl⟩
    rw [← hQ, ← hY]
    refine ⟨trivial, [some R, some (.int Y), some Q, a3, a4, a5, a6, a7], M', by simp [seqS, ifS, retS, raiseF, raiseS, consA, nilA, binD, callD, nameD, cD, bindE_v, thenS_v, bindE_x, thenS_x, unD, parS, asgS, tupD, int2F, eq_int, ne_int, intF0, negF, notF, nilS, brD, fnD, addE, subE, ix0, ix1, dropS, asgG, tupG, consG, nameG, nilG, lstD, andD, orD, tstD, ownS, appS, len_tup, len_lst, tup_tup, wipeE, set1, set2, typ_int, typ_tup, typ_non, typ_lst, isF, chainD, asT, truD, len_row, typ_row], ?_⟩
    refine wp_forR (enumI 0 ((List.range w).map fun x => hD H x y)) (fun j e M'' => M'' = M' ∧ (∃ a3 a4 a5 a6 a7, e = [some R, some (.int Y), some Q, a3, a4, a5, a6, a7]) ∧ ∀ x, x < j → G x y) (enum_row (by rw [hQ]; rfl)) (fun x d e M2 hd2 hi2 => ?_) (fun _ _ _ => trivial) ⟨rfl, ⟨_, _, _, _, _, rfl⟩, fun i hi => absurd hi (Nat.not_lt_zero i)⟩ (fun e' M2 hi2 => ?_)
    · obtain ⟨rfl, ⟨a3, a4, a5, a6, a7, rfl⟩, hq2⟩ := hi2
      obtain ⟨hx', rfl⟩ := enum_at hd2
      obtain ⟨Z, hZ⟩ : ∃ Z, Z = H x y := ⟨_, rfl⟩
      obtain ⟨V, hV⟩ : ∃ V : Int, V = (x : Int) := ⟨_, rfl⟩
      show _ ∧ ∃ e1 M1, tupG 2 (consG (nameG 3) (consG (nameG 4) nilG)) (.tup [.int (x : Int), .int (H x y)]) _ _ = _ ∧ _
      rw [← hZ, ← hV]
      refine ⟨trivial, [some R, some (.int Y), some Q, some (.int V), some (.int Z), a5, a6, a7], M2, by simp [seqS, ifS, retS, raiseF, raiseS, consA, nilA, binD, callD, nameD, cD, bindE_v, thenS_v, bindE_x, thenS_x, unD, parS, asgS, tupD, int2F, eq_int, ne_int, intF0, negF, notF, nilS, brD, fnD, addE, subE, ix0, ix1, dropS, asgG, tupG, consG, nameG, nilG, lstD, andD, orD, tstD, ownS, appS, len_tup, len_lst, tup_tup, wipeE, set1, set2, typ_int, typ_tup, typ_non, typ_lst, isF, chainD, asT, truD, len_row, typ_row], ?_⟩
      obtain ⟨N, hN⟩ : ∃ N, N = nearL H x y := ⟨_, rfl⟩
      have step : G x y → ∀ x', x' < x + 1 → G x' y := fun gp i hi => by
        rcases Nat.lt_succ_iff_lt_or_eq.mp hi with hi | rfl
        · exact hq2 i hi
        · exact gp
      have n1 : ∀ M, (binD addF (callD (lstcF) (consA (slpD (slpD (nameD 2) (noneO) (someO (nameD 3)) (noneO)) (someO (unD negF (cD (.int 1)))) (noneO) (noneO)) (nilA))) (cutE (compD (set1 6) (cD (.bl true)) (binD ixF (nameD 6) (nameD 3)) [6] (itD (slpD (slpD (nameD 0) (noneO) (someO (nameD 1)) (noneO)) (someO (unD negF (cD (.int 1)))) (noneO) (noneO)))))) [some R, some (.int Y), some Q, some (.int V), some (.int Z), a5, a6, a7] M = ok (.lst (N.map D.int)) M := fun M => by
        have p1 := fun M => slp_lastk (M := M) (n := w) (g := fun x => hD H x y) (da := nameD 2) (dk := nameD 3) (e := [some R, some (.int Y), some Q, some (.int V), some (.int Z), a5, a6, a7]) (k := x) (K := V) (by rw [hQ]; rfl) rfl hV (by omega) (by omega)
        have p2 := fun M => slp_lastk (M := M) (n := h) (g := fun y => rowD w fun x => hD H x y) (da := nameD 0) (dk := nameD 1) (e := [some R, some (.int Y), some Q, some (.int V), some (.int Z), a5, none, a7]) (k := y) (K := Y) (by rw [hR]; rfl) rfl hY (by omega) (by omega)
        have p2' := fun M => slp_lastk (M := M) (n := h) (g := fun y => rowD w fun x => hD H x y) (da := nameD 0) (dk := nameD 1) (e := [some R, some (.int Y), some Q, some (.int V), some (.int Z), a5, a6, a7]) (k := y) (K := Y) (by rw [hR]; rfl) rfl hY (by omega) (by omega)
        obtain ⟨ys, hys⟩ : ∃ ys : List Nat, ys = (match y with | 0 => [] | k + 1 => [k]) := ⟨_, rfl⟩
        have ely : lastK (fun y => rowD w fun x => hD H x y) y = ys.map fun k => rowD w fun x => hD H x k := by
          rw [hys]
          cases y <;> rfl
        have hym : ∀ k ∈ ys, k < h := fun k hk => by
          rw [hys] at hk
          cases y with
          | zero => cases hk
          | succ y =>
            obtain rfl := List.mem_singleton.mp hk
            omega
        have hyl : ys.length ≤ 1 := by
          rw [hys]
          cases y <;> simp
        have hc := comp_v (M := M) (set := set1 6) (vs := [6]) (de := binD ixF (nameD 6) (nameD 3)) (di := itD (slpD (slpD (nameD 0) (noneO) (someO (nameD 1)) (noneO)) (someO (unD negF (cD (.int 1)))) (noneO) (noneO))) (g := fun k => rowD w fun x => hD H x k) (f := fun k => D.int (H x k)) (e := [some R, some (.int Y), some Q, some (.int V), some (.int Z), a5, a6, a7]) ys (it_tup (by rw [p2', ely])) (by omega) (fun k hk => ⟨[some R, some (.int Y), some Q, some (.int V), some (.int Z), a5, some (rowD w fun x => hD H x k), a7], rfl, fun M => by
          show ixF (rowD w fun x => hD H x k) (.int V) M = _
          rw [hV]
          exact ix_row hx'⟩) (fun _ _ => rfl)
        show bindE (bindE (bindE (slpD _ _ _ _ _ M) fun d M1 => bindE (ok [] M1) fun ds M2 => ok (d :: ds) M2) lstcF) (fun d1 M1 => bindE (cutE _ _ M1) fun d2 M2 => addF d1 d2 M2) = _
        rw [p1 M]
        show bindE (cutE _ _ M) (fun d2 M2 => addF (.lst (lastK (fun x => hD H x y) x)) d2 M2) = _
        rw [hc]
        show addF (.lst (lastK (fun x => hD H x y) x)) (.lst (ys.map fun k => D.int (H x k))) M = _
        have e1 : lastK (fun x => hD H x y) x ++ (ys.map fun k => D.int (H x k)) = N.map D.int := by
          rw [hN, hys]
          unfold nearL
          cases x <;> cases y <;> rfl
        rw [add_data (by
          have : (lastK (fun x => hD H x y) x).length ≤ 1 := by cases x <;> simp [lastK]
          rw [List.length_map]
          omega), e1]
      refine wp_nx (e' := [some R, some (.int Y), some Q, some (.int V), some (.int Z), some (.lst (N.map D.int)), a6, a7]) (M' := M2) (by
        unfold asgS
        rw [n1 M2]
        rfl) ?_
      obtain ⟨P, hP⟩ : ∃ P : Int, P = (Z - V - Y) % 2 := ⟨_, rfl⟩
      have b3 : ∀ M, fmodF (.int (Z - V - Y)) (.int 2) M = ok (.int P) M := fun M => by rw [fmd (by decide), hP]
      by_cases g1 : P = 0
      · refine wp_nx (e' := [some R, some (.int Y), some Q, some (.int V), some (.int Z), some (.lst (N.map D.int)), a6, a7]) (M' := M2) (by simp [seqS, ifS, retS, raiseF, raiseS, consA, nilA, binD, callD, nameD, cD, bindE_v, thenS_v, bindE_x, thenS_x, unD, parS, asgS, tupD, int2F, eq_int, ne_int, intF0, negF, notF, nilS, brD, fnD, addE, subE, ix0, ix1, dropS, asgG, tupG, consG, nameG, nilG, lstD, andD, orD, tstD, ownS, appS, len_tup, len_lst, tup_tup, wipeE, set1, set2, typ_int, typ_tup, typ_non, typ_lst, isF, chainD, asT, truD, len_row, typ_row, b3, g1]) ?_
        have g1' : ((x : Int) + (y : Int) + H x y) % 2 = 0 := by rw [hZ, hV, hY] at hP; omega
        obtain ⟨F, hF⟩ : ∃ F : List Int, F = N.filter fun i => !decide ((i - Z).natAbs = 1) := ⟨_, rfl⟩
        have hlN : N.length ≤ 2 := by
          rw [hN]
          unfold nearL
          cases x <;> cases y <;> simp
        have hc := fun M => comp_p (M := M) (set := set1 7) (vs := [7]) (dt := binD (neF) (callD (absF) (consA (binD subF (nameD 7) (nameD 4)) (nilA))) (cD (.int 1))) (de := nameD 7) (di := itD (nameD 5)) (g := D.int) (f := D.int) (p := fun i => !decide ((i - Z).natAbs = 1)) (e := [some R, some (.int Y), some Q, some (.int V), some (.int Z), some (.lst (N.map D.int)), a6, a7]) N (it_lst rfl) (by omega) (fun i hi => ⟨[some R, some (.int Y), some Q, some (.int V), some (.int Z), some (.lst (N.map D.int)), a6, some (.int i)], rfl, (fun M => by
          obtain ⟨A, hA⟩ : ∃ A : Int, A = ((i - Z).natAbs : Int) := ⟨_, rfl⟩
          have c2 : ∀ M, absF [.int (i - Z)] M = ok (.int A) M := fun M => abs_is hA
          have c3 : decide ((i - Z).natAbs = 1) = decide (A = 1) := decide_eq_decide.mpr (by omega)
          rw [c3]
          simp [seqS, ifS, retS, raiseF, raiseS, consA, nilA, binD, callD, nameD, cD, bindE_v, thenS_v, bindE_x, thenS_x, unD, parS, asgS, tupD, int2F, eq_int, ne_int, intF0, negF, notF, nilS, brD, fnD, addE, subE, ix0, ix1, dropS, asgG, tupG, consG, nameG, nilG, lstD, andD, orD, tstD, ownS, appS, len_tup, len_lst, tup_tup, wipeE, set1, set2, typ_int, typ_tup, typ_non, typ_lst, isF, chainD, asT, truD, len_row, typ_row, c2]), (fun _ M => rfl)⟩) (fun _ _ => rfl)
        have ne : ∀ M, neF (.lst (F.map D.int)) (.lst []) M = ok (.bl (!decide (F = []))) M := fun M => by
          have := eq_ints (n := true) (l1 := F) (l2 := []) (M := M)
          rw [t_ne] at this
          exact this
        have gF : F = [] ↔ G x y := by
          rw [hF, List.filter_eq_nil_iff]
          refine ⟨fun q => ⟨g1', fun x' e => ?_, fun y' e => ?_⟩, fun q i hi => ?_⟩
          · have := q (H x' y) (by
              rw [hN, e]
              unfold nearL
              simp)
            simp at this
            omega
          · have := q (H x y') (by
              rw [hN, e]
              unfold nearL
              simp)
            simp at this
            omega
          · rw [hN] at hi
            unfold nearL at hi
            rcases List.mem_append.mp hi with hi | hi
            · cases x with
              | zero => cases hi
              | succ x' =>
                obtain rfl := List.mem_singleton.mp hi
                have := q.2.1 x' rfl
                simp
                omega
            · cases y with
              | zero => cases hi
              | succ y' =>
                obtain rfl := List.mem_singleton.mp hi
                have := q.2.2 y' rfl
                simp
                omega
        have cond : ∀ M, binD (neF) (cutE (compD (set1 7) (binD (neF) (callD (absF) (consA (binD subF (nameD 7) (nameD 4)) (nilA))) (cD (.int 1))) (nameD 7) [7] (itD (nameD 5)))) (lstD (nilA)) [some R, some (.int Y), some Q, some (.int V), some (.int Z), some (.lst (N.map D.int)), a6, a7] M = ok (.bl (!decide (F = []))) M := fun M => by
          show bindE (cutE _ _ M) _ = _
          rw [hc M, ← hF]
          show neF (.lst (F.map D.int)) (.lst []) M = _
          exact ne M
        by_cases gf : F = []
        · refine wp_if false (by rw [cond, decide_eq_true gf]; rfl) (fun z => nomatch z) fun _ => ?_
          exact ⟨.nx _, M2, rfl, .inl ⟨_, .inl rfl, rfl, ⟨_, _, _, _, _, rfl⟩, step (gF.mp gf)⟩⟩
        · refine wp_if true (by rw [cond, decide_eq_false gf]; rfl) (fun _ => ?_) fun z => nomatch z
          refine ⟨.rt (.bl false), M2, rfl, .inr ⟨_, rfl, .inr ⟨_, rfl, ?_, [], by simp⟩⟩⟩
          rw [hbad x y hx' hy fun g => gf (gF.mpr g)]
      · refine wp_seq (wp_of (.rt (.bl false)) (M' := M2) (by simp [seqS, ifS, retS, raiseF, raiseS, consA, nilA, binD, callD, nameD, cD, bindE_v, thenS_v, bindE_x, thenS_x, unD, parS, asgS, tupD, int2F, eq_int, ne_int, intF0, negF, notF, nilS, brD, fnD, addE, subE, ix0, ix1, dropS, asgG, tupG, consG, nameG, nilG, lstD, andD, orD, tstD, ownS, appS, len_tup, len_lst, tup_tup, wipeE, set1, set2, typ_int, typ_tup, typ_non, typ_lst, isF, chainD, asT, truD, len_row, typ_row, b3, g1]) (.inr ⟨(fun _ z => nomatch z), .inr ⟨_, rfl, .inr ⟨_, rfl, ?_, [], by simp⟩⟩⟩))
        rw [hbad x y hx' hy fun g => g1 (by
          have := g.1
          rw [hP, hZ, hV, hY]
          omega)]
    · obtain ⟨rfl, ⟨a3, a4, a5, a6, a7, rfl⟩, hq2⟩ := hi2
      rw [enum_len'] at hq2
      refine .inl ⟨_, .inl rfl, rfl, ⟨_, _, _, _, _, _, _, rfl⟩, fun y' hy' x' hx' => ?_⟩
      rcases Nat.lt_succ_iff_lt_or_eq.mp hy' with hy' | rfl
      · exact hq y' hy' x' hx'
      · exact hq2 x' hx'
  · obtain ⟨rfl, ⟨a1, a2, a3, a4, a5, a6, a7, rfl⟩, hq⟩ := hi
    rw [enum_len'] at hq
    refine wp_of (.rt (.bl true)) (M' := M') (by simp [seqS, ifS, retS, raiseF, raiseS, consA, nilA, binD, callD, nameD, cD, bindE_v, thenS_v, bindE_x, thenS_x, unD, parS, asgS, tupD, int2F, eq_int, ne_int, intF0, negF, notF, nilS, brD, fnD, addE, subE, ix0, ix1, dropS, asgG, tupG, consG, nameG, nilG, lstD, andD, orD, tstD, ownS, appS, len_tup, len_lst, tup_tup, wipeE, set1, set2, typ_int, typ_tup, typ_non, typ_lst, isF, chainD, asT, truD, len_row, typ_row]) ⟨?_, [], by simp⟩
    rw [hb.mpr fun x y hx' hy => hq y hy x hx']
end
end K02
namespace K02
open PySem L2 DL
theorem fdvB {i j : Int} {M : Store} (h0 : 0 < j) (h : Bd 99 j) : fdivF (.int i) (.int j) M = ok (.int (i / j)) M := by
  rw [fdivB h (by omega) (by decide), Int.fdiv_eq_ediv_of_nonneg _ (by omega)]
/-- lowest terms -/
theorem low_gen {a b : Int} (ha : a ≠ 0) (hb : 0 < b) (hb2 : b.natAbs < 2 ^ 99) : ∃ G : Int, G = ((Nat.gcd a.natAbs b.natAbs : Nat) : Int) ∧ 1 ≤ G ∧ ∀ M, m__law_low [.int a, .int b] M = ok (.tup [.int (a / G), .int (b / G)]) M := by
  have g0 : 0 < Nat.gcd a.natAbs b.natAbs := Nat.gcd_pos_of_pos_right _ (by omega)
  have gl : Nat.gcd a.natAbs b.natAbs ≤ b.natAbs := Nat.gcd_le_right _ (by omega)
  have eu := fun (a' b' : D) M => euclid (b.natAbs + 1) a.natAbs b.natAbs a' b' M (by omega)
  obtain ⟨G, hG⟩ : ∃ G : Int, G = ((Nat.gcd a.natAbs b.natAbs : Nat) : Int) := ⟨_, rfl⟩
  obtain ⟨A, hA⟩ : ∃ A : Int, A = (a.natAbs : Int) := ⟨_, rfl⟩
  obtain ⟨B, hB⟩ : ∃ A : Int, A = (b.natAbs : Int) := ⟨_, rfl⟩
  have hBb : B.natAbs = b.natAbs := by omega
  refine ⟨G, hG, by omega, fun M => ?_⟩
  have gb : Bd 99 G := by
    unfold Bd
    omega
  have fa : ∀ M, fdivF (.int a) (.int G) M = ok (.int (a / G)) M := fun M => fdvB (by omega) gb
  have fb : ∀ M, fdivF (.int b) (.int G) M = ok (.int (b / G)) M := fun M => fdvB (by omega) gb
  have xa : ∀ M, absF [.int a] M = ok (.int A) M := fun M => abs_is hA
  have xb : ∀ M, absF [.int b] M = ok (.int B) M := fun M => abs_is hB
  have eu' : ∀ M, wlS (fuelN 3) (binD (neF) (nameD 3) (cD (.int 0))) (parS 2 3 (nameD 3) (binD fmodF (nameD 2) (nameD 3))) [some (.int a), some (.int b), some (.int A), some (.int B), none] M = some (.nx [some (.int a), some (.int b), some (.int G), some (.int 0), none], M) := fun M => by
    have hf : fuelN 3 [some (.int a), some (.int b), some (.int A), some (.int B), none] M = b.natAbs + 1 := by
      show B.natAbs + 1 = _
      rw [hBb]
    unfold wlS
    rw [hf, hA, hB, hG]
    exact eu _ _ M
  obtain ⟨p, hp⟩ : ∃ p, p = a / G := ⟨_, rfl⟩
  obtain ⟨q, hq⟩ : ∃ q, q = b / G := ⟨_, rfl⟩
  rw [← hp] at fa ⊢
  rw [← hq] at fb ⊢
  refine fv_rt0 (e0 := [some (.int a), some (.int b), none, none, none]) rfl ?_ rfl
  unfold den__law_low
  rw [seq_nx (e' := [some (.int a), some (.int b), some (.int A), some (.int B), none]) (M' := M) (by simp [seqS, ifS, retS, raiseF, raiseS, consA, nilA, binD, callD, nameD, cD, bindE_v, thenS_v, bindE_x, thenS_x, unD, parS, asgS, tupD, int2F, eq_int, ne_int, intF0, negF, notF, nilS, brD, fnD, addE, subE, ix0, ix1, dropS, asgG, tupG, consG, nameG, nilG, lstD, andD, orD, tstD, ownS, appS, len_tup, len_lst, tup_tup, wipeE, set1, set2, typ_int, typ_tup, typ_non, typ_lst, isF, chainD, asT, truD, len_row, typ_row, xa, xb]), seq_nx (eu' M)]
  rw [seq_nx (e' := [some (.int a), some (.int b), some (.int G), some (.int 0), some (.int G)]) (M' := M) (by simp [seqS, ifS, retS, raiseF, raiseS, consA, nilA, binD, callD, nameD, cD, bindE_v, thenS_v, bindE_x, thenS_x, unD, parS, asgS, tupD, int2F, eq_int, ne_int, intF0, negF, notF, nilS, brD, fnD, addE, subE, ix0, ix1, dropS, asgG, tupG, consG, nameG, nilG, lstD, andD, orD, tstD, ownS, appS, len_tup, len_lst, tup_tup, wipeE, set1, set2, typ_int, typ_tup, typ_non, typ_lst, isF, chainD, asT, truD, len_row, typ_row, hb])]
  simp [seqS, ifS, retS, raiseF, raiseS, consA, nilA, binD, callD, nameD, cD, bindE_v, thenS_v, bindE_x, thenS_x, unD, parS, asgS, tupD, int2F, eq_int, ne_int, intF0, negF, notF, nilS, brD, fnD, addE, subE, ix0, ix1, dropS, asgG, tupG, consG, nameG, nilG, lstD, andD, orD, tstD, ownS, appS, len_tup, len_lst, tup_tup, wipeE, set1, set2, typ_int, typ_tup, typ_non, typ_lst, isF, chainD, asT, truD, len_row, typ_row, fa, fb]
def goodW (d : D) : Prop := ∃ a b : Int, d = .tup [.int a, .int b] ∧ 1 ≤ b ∧ Nat.gcd a.natAbs b.natAbs = 1 ∧ a ≠ 0
theorem eq_pair {n : Bool} {a b c d : Int} {M : Store} : eqvF n (.tup [.int a, .int b]) (.tup [.int c, .int d]) M = ok (.bl (n != decide (a = c ∧ b = d))) M := by
  have e1 : ∀ a b : Int, pyV M (.tup [.int a, .int b]) = some (.tuple [.int a, .int b]) := fun _ _ => rfl
  have e2 : ∀ a b : Int, SeqAt.shaped (.tuple [.int a, .int b]) = true := fun a b => by
    simp [SeqAt.shaped, PyData.canLay0, PyData.canLayAll0, PyData.depth, PyData.depthAll]
  have e3 : PyData.eqv (.tuple [.int a, .int b]) (.tuple [.int c, .int d]) = decide (a = c ∧ b = d) := by
    simp [PyData.eqv, PyData.eqvAll]
    by_cases h1 : a = c <;> by_cases h2 : b = d <;> simp [h1, h2]
  unfold eqvF
  simp only [e1, e2, e3, and_self, if_true]
section
variable {B w h n : Nat} {M : Store} {d : D} {g : Nat → Nat → D}
theorem pair_of {d : D} (h : tupN 2 d = true) : ∃ p q, d = .tup [p, q] := by
  obtain ⟨ds, rfl, hl⟩ := tupN_iff.mp h
  match ds, hl with
  | [p, q], _ => exact ⟨p, q, rfl⟩
theorem wh_of {d : D} (h : isWh d = true) : ∃ i, d = .int i := by
  cases d with
  | int i => exact ⟨i, rfl⟩
  | _ => cases h
def goodU (w h : Nat) (g : Nat → Nat → D) : Prop := ∀ x y, x < w → y < h → goodW (g x y)
theorem lworths_b {b : Bool} (hB : B < 2 ^ 99) (hx : okB B (tabD w h g) = true) (hb : b = true ↔ goodU w h g) : m__law_are_worths [tabD w h g] M = ok (.bl b) M := by
  have hg := fun x y hx' hy => tab_get (f := g) (i := x) (j := y) hx' hy hx
  obtain ⟨R, hR⟩ : ∃ R, R = tabD w h g := ⟨_, rfl⟩
  have hbad : ∀ x y, x < w → y < h → ¬ goodW (g x y) → D.bl false = D.bl b := fun x y hx' hy hn => by
    cases b with
    | false => rfl
    | true => exact absurd (hb.mp rfl x y hx' hy) hn
  rw [← hR]
  refine fv_wp (e0 := [some R, none, none]) rfl ?_ rfl
  unfold den__law_are_worths
  refine wp_forR_nx ((List.range h).map fun y => rowD w fun x => g x y) (fun j e M' => M' = M ∧ (∃ a b, e = [some R, a, b]) ∧ ∀ y, y < j → ∀ x, x < w → goodW (g x y)) (it_row (by rw [hR]; rfl)) (fun y d e M' hd hi => ?_) (fun _ _ _ => trivial) ⟨rfl, ⟨_, _, rfl⟩, fun i hi => absurd hi (Nat.not_lt_zero i)⟩ (fun e' M' hi => ?_)
  · obtain ⟨rfl, ⟨a, c, rfl⟩, hq⟩ := hi
    obtain ⟨hy, rfl⟩ := rng_get hd
    obtain ⟨Q, hQ⟩ : ∃ Q, Q = rowD w fun x => g x y := ⟨_, rfl⟩
    rw [← hQ]
    refine ⟨trivial, [some R, some Q, c], M', rfl, ?_⟩
    refine wp_forR ((List.range w).map fun x => g x y) (fun j e M'' => M'' = M' ∧ (∃ b, e = [some R, some Q, b]) ∧ ∀ x, x < j → goodW (g x y)) (it_row (by rw [hQ]; rfl)) (fun x d e M2 hd2 hi2 => ?_) (fun _ _ _ => trivial) ⟨rfl, ⟨_, rfl⟩, fun i hi => absurd hi (Nat.not_lt_zero i)⟩ (fun e' M2 hi2 => ?_)
    · obtain ⟨rfl, ⟨c, rfl⟩, hq2⟩ := hi2
      obtain ⟨hx', rfl⟩ := rng_get hd2
      have oz := hg x y hx' hy
      have bad := hbad x y hx' hy
      obtain ⟨V, hV⟩ : ∃ V, V = g x y := ⟨_, rfl⟩
      rw [← hV] at oz bad
      have step : goodW V → ∀ x', x' < x + 1 → goodW (g x' y) := fun gp i hi => by
        rcases Nat.lt_succ_iff_lt_or_eq.mp hi with hi | rfl
        · exact hq2 i hi
        · rw [← hV]
          exact gp
      rw [← hV]
      refine ⟨trivial, [some R, some Q, some V], M2, rfl, ?_⟩
      have s1 := fun M => isi_tup (M := M) oz
      have gone : ¬ goodW V → ∀ {P : Flw → Store → Prop}, (P (.rt (.bl false)) M2) → P (.rt (.bl false)) M2 := fun _ _ z => z
      cases ht : isTp V with
      | false =>
        refine wp_seq (wp_of (.rt (.bl false)) (M' := M2) (by simp [seqS, ifS, retS, raiseF, raiseS, consA, nilA, binD, callD, nameD, cD, bindE_v, thenS_v, bindE_x, thenS_x, unD, parS, asgS, tupD, int2F, eq_int, ne_int, intF0, negF, notF, nilS, brD, fnD, addE, subE, ix0, ix1, dropS, asgG, tupG, consG, nameG, nilG, lstD, andD, orD, tstD, ownS, appS, len_tup, len_lst, tup_tup, wipeE, set1, set2, typ_int, typ_tup, typ_non, typ_lst, isF, chainD, asT, truD, len_row, typ_row, s1, ht]) (.inr ⟨(fun _ z => nomatch z), .inr ⟨_, rfl, .inr ⟨_, rfl, ?_, [], by simp⟩⟩⟩))
        rw [bad fun ⟨a, b, e, _⟩ => by rw [e] at ht; cases ht]
      | true =>
        obtain ⟨ds, rfl⟩ : ∃ ds, V = .tup ds := by
          cases V with
          | tup ds => exact ⟨ds, rfl⟩
          | _ => cases ht
        by_cases hl : ds.length = 2
        · obtain ⟨p, q, e⟩ := pair_of (d := .tup ds) (decide_eq_true hl)
          cases e
          have op : okB B p = true := okBs_all.mp oz p (by simp)
          have oq : okB B q = true := okBs_all.mp oz q (by simp)
          have t1 := fun M => lwhole_b (M := M) op
          have t2 := fun M => lwhole_b (M := M) oq
          refine wp_nx (e' := [some R, some Q, some (.tup [p, q])]) (M' := M2) (by simp [seqS, ifS, retS, raiseF, raiseS, consA, nilA, binD, callD, nameD, cD, bindE_v, thenS_v, bindE_x, thenS_x, unD, parS, asgS, tupD, int2F, eq_int, ne_int, intF0, negF, notF, nilS, brD, fnD, addE, subE, ix0, ix1, dropS, asgG, tupG, consG, nameG, nilG, lstD, andD, orD, tstD, ownS, appS, len_tup, len_lst, tup_tup, wipeE, set1, set2, typ_int, typ_tup, typ_non, typ_lst, isF, chainD, asT, truD, len_row, typ_row, s1, ht]) ?_
          cases h1 : isWh p with
          | false =>
            refine wp_seq (wp_of (.rt (.bl false)) (M' := M2) (by simp [seqS, ifS, retS, raiseF, raiseS, consA, nilA, binD, callD, nameD, cD, bindE_v, thenS_v, bindE_x, thenS_x, unD, parS, asgS, tupD, int2F, eq_int, ne_int, intF0, negF, notF, nilS, brD, fnD, addE, subE, ix0, ix1, dropS, asgG, tupG, consG, nameG, nilG, lstD, andD, orD, tstD, ownS, appS, len_tup, len_lst, tup_tup, wipeE, set1, set2, typ_int, typ_tup, typ_non, typ_lst, isF, chainD, asT, truD, len_row, typ_row, t1, h1]) (.inr ⟨(fun _ z => nomatch z), .inr ⟨_, rfl, .inr ⟨_, rfl, ?_, [], by simp⟩⟩⟩))
            rw [bad fun ⟨a, b, e, _⟩ => by cases e; cases h1]
          | true =>
            cases h2 : isWh q with
            | false =>
              refine wp_seq (wp_of (.rt (.bl false)) (M' := M2) (by simp [seqS, ifS, retS, raiseF, raiseS, consA, nilA, binD, callD, nameD, cD, bindE_v, thenS_v, bindE_x, thenS_x, unD, parS, asgS, tupD, int2F, eq_int, ne_int, intF0, negF, notF, nilS, brD, fnD, addE, subE, ix0, ix1, dropS, asgG, tupG, consG, nameG, nilG, lstD, andD, orD, tstD, ownS, appS, len_tup, len_lst, tup_tup, wipeE, set1, set2, typ_int, typ_tup, typ_non, typ_lst, isF, chainD, asT, truD, len_row, typ_row, t1, h1, t2, h2]) (.inr ⟨(fun _ z => nomatch z), .inr ⟨_, rfl, .inr ⟨_, rfl, ?_, [], by simp⟩⟩⟩))
              rw [bad fun ⟨a, b, e, _⟩ => by cases e; cases h2]
            | true =>
              obtain ⟨a, rfl⟩ := wh_of h1
              obtain ⟨b', rfl⟩ := wh_of h2
              refine wp_nx (e' := [some R, some Q, some (.tup [.int a, .int b'])]) (M' := M2) (by simp [seqS, ifS, retS, raiseF, raiseS, consA, nilA, binD, callD, nameD, cD, bindE_v, thenS_v, bindE_x, thenS_x, unD, parS, asgS, tupD, int2F, eq_int, ne_int, intF0, negF, notF, nilS, brD, fnD, addE, subE, ix0, ix1, dropS, asgG, tupG, consG, nameG, nilG, lstD, andD, orD, tstD, ownS, appS, len_tup, len_lst, tup_tup, wipeE, set1, set2, typ_int, typ_tup, typ_non, typ_lst, isF, chainD, asT, truD, len_row, typ_row, t1, h1, t2, h2]) ?_
              by_cases q3 : a = 0
              · refine wp_of (.rt (.bl false)) (M' := M2) (by simp [seqS, ifS, retS, raiseF, raiseS, consA, nilA, binD, callD, nameD, cD, bindE_v, thenS_v, bindE_x, thenS_x, unD, parS, asgS, tupD, int2F, eq_int, ne_int, intF0, negF, notF, nilS, brD, fnD, addE, subE, ix0, ix1, dropS, asgG, tupG, consG, nameG, nilG, lstD, andD, orD, tstD, ownS, appS, len_tup, len_lst, tup_tup, wipeE, set1, set2, typ_int, typ_tup, typ_non, typ_lst, isF, chainD, asT, truD, len_row, typ_row, q3]) (.inr ⟨_, rfl, .inr ⟨_, rfl, ?_, [], by simp⟩⟩)
                rw [bad fun ⟨a', b'', e, _, _, z⟩ => by cases e; exact z q3]
              · have ltb : ∀ M, ltF (.int b') (.int 1) M = ok (.bl (decide (b' < 1))) M := fun M => lt_int
                by_cases q1 : b' < 1
                · refine wp_of (.rt (.bl false)) (M' := M2) (by simp [seqS, ifS, retS, raiseF, raiseS, consA, nilA, binD, callD, nameD, cD, bindE_v, thenS_v, bindE_x, thenS_x, unD, parS, asgS, tupD, int2F, eq_int, ne_int, intF0, negF, notF, nilS, brD, fnD, addE, subE, ix0, ix1, dropS, asgG, tupG, consG, nameG, nilG, lstD, andD, orD, tstD, ownS, appS, len_tup, len_lst, tup_tup, wipeE, set1, set2, typ_int, typ_tup, typ_non, typ_lst, isF, chainD, asT, truD, len_row, typ_row, q3, ltb, decide_eq_true q1]) (.inr ⟨_, rfl, .inr ⟨_, rfl, ?_, [], by simp⟩⟩)
                  rw [bad fun ⟨a', b'', e, z, _⟩ => by cases e; omega]
                · obtain ⟨G, hG, g1, lo⟩ := low_gen (a := a) (b := b') q3 (by omega) (Nat.lt_of_le_of_lt (of_decide_eq_true oq) hB)
                  obtain ⟨P, hP⟩ : ∃ P, P = a / G := ⟨_, rfl⟩
                  obtain ⟨Q2, hQ2⟩ : ∃ P, P = b' / G := ⟨_, rfl⟩
                  rw [← hP, ← hQ2] at lo
                  have ne : ∀ M, neF (.tup [.int P, .int Q2]) (.tup [.int a, .int b']) M = ok (.bl (!decide (G = 1))) M := fun M => by
                    rw [show neF = eqvF true from rfl, eq_pair, t_ne]
                    congr 3
                    refine decide_eq_decide.mpr ⟨fun ⟨_, z⟩ => ?_, fun z => ?_⟩
                    · have dv : G ∣ b' := by
                        rw [hG]
                        exact Int.natAbs_dvd_natAbs.mp (by simpa using Nat.gcd_dvd_right _ _)
                      have m := Int.ediv_mul_cancel dv
                      rw [← hQ2, z] at m
                      have m2 : b' * G = b' * 1 := by rw [m, Int.mul_one]
                      exact Int.eq_of_mul_eq_mul_left (by omega) m2
                    · rw [hP, hQ2, z]
                      exact ⟨Int.ediv_one a, Int.ediv_one b'⟩
                  by_cases q2 : G = 1
                  · refine wp_of (.nx [some R, some Q, some (.tup [.int a, .int b'])]) (M' := M2) (by simp [seqS, ifS, retS, raiseF, raiseS, consA, nilA, binD, callD, nameD, cD, bindE_v, thenS_v, bindE_x, thenS_x, unD, parS, asgS, tupD, int2F, eq_int, ne_int, intF0, negF, notF, nilS, brD, fnD, addE, subE, ix0, ix1, dropS, asgG, tupG, consG, nameG, nilG, lstD, andD, orD, tstD, ownS, appS, len_tup, len_lst, tup_tup, wipeE, set1, set2, typ_int, typ_tup, typ_non, typ_lst, isF, chainD, asT, truD, len_row, typ_row, q3, ltb, decide_eq_false q1, lo, ne, decide_eq_true q2]) (.inl ⟨_, .inl rfl, rfl, ⟨_, rfl⟩, step ⟨a, b', rfl, by omega, by omega, q3⟩⟩)
                  · refine wp_of (.rt (.bl false)) (M' := M2) (by simp [seqS, ifS, retS, raiseF, raiseS, consA, nilA, binD, callD, nameD, cD, bindE_v, thenS_v, bindE_x, thenS_x, unD, parS, asgS, tupD, int2F, eq_int, ne_int, intF0, negF, notF, nilS, brD, fnD, addE, subE, ix0, ix1, dropS, asgG, tupG, consG, nameG, nilG, lstD, andD, orD, tstD, ownS, appS, len_tup, len_lst, tup_tup, wipeE, set1, set2, typ_int, typ_tup, typ_non, typ_lst, isF, chainD, asT, truD, len_row, typ_row, q3, ltb, decide_eq_false q1, lo, ne, decide_eq_false q2]) (.inr ⟨_, rfl, .inr ⟨_, rfl, ?_, [], by simp⟩⟩)
                    rw [bad fun ⟨a', b'', e, _, z, _⟩ => by cases e; exact q2 (by omega)]
        · obtain ⟨V, hV⟩ : ∃ V, V = D.tup ds := ⟨_, rfl⟩
          obtain ⟨N, hN⟩ : ∃ N : Int, N = (ds.length : Int) := ⟨_, rfl⟩
          have lV : ∀ M, lenF [V] M = ok (.int N) M := fun M => by rw [hV, hN]; rfl
          have nN : ¬ N = 2 := by omega
          rw [← hV] at s1 ht ⊢
          refine wp_seq (wp_of (.rt (.bl false)) (M' := M2) (by simp [seqS, ifS, retS, raiseF, raiseS, consA, nilA, binD, callD, nameD, cD, bindE_v, thenS_v, bindE_x, thenS_x, unD, parS, asgS, tupD, int2F, eq_int, ne_int, intF0, negF, notF, nilS, brD, fnD, addE, subE, ix0, ix1, dropS, asgG, tupG, consG, nameG, nilG, lstD, andD, orD, tstD, ownS, appS, len_tup, len_lst, tup_tup, wipeE, set1, set2, typ_int, typ_tup, typ_non, typ_lst, isF, chainD, asT, truD, len_row, typ_row, s1, ht, lV, nN]) (.inr ⟨(fun _ z => nomatch z), .inr ⟨_, rfl, .inr ⟨_, rfl, ?_, [], by simp⟩⟩⟩))
          rw [bad fun ⟨a, b, e, _⟩ => by cases e; exact hl rfl]
    · obtain ⟨rfl, ⟨c, rfl⟩, hq2⟩ := hi2
      rw [List.length_map, List.length_range] at hq2
      refine .inl ⟨_, .inl rfl, rfl, ⟨_, _, rfl⟩, fun y' hy' x' hx' => ?_⟩
      rcases Nat.lt_succ_iff_lt_or_eq.mp hy' with hy' | rfl
      · exact hq y' hy' x' hx'
      · exact hq2 x' hx'
  · obtain ⟨rfl, ⟨a, c, rfl⟩, hq⟩ := hi
    rw [List.length_map, List.length_range] at hq
    refine wp_of (.rt (.bl true)) (M' := M') (by simp [seqS, ifS, retS, raiseF, raiseS, consA, nilA, binD, callD, nameD, cD, bindE_v, thenS_v, bindE_x, thenS_x, unD, parS, asgS, tupD, int2F, eq_int, ne_int, intF0, negF, notF, nilS, brD, fnD, addE, subE, ix0, ix1, dropS, asgG, tupG, consG, nameG, nilG, lstD, andD, orD, tstD, ownS, appS, len_tup, len_lst, tup_tup, wipeE, set1, set2, typ_int, typ_tup, typ_non, typ_lst, isF, chainD, asT, truD, len_row, typ_row]) ⟨?_, [], by simp⟩
    rw [hb.mpr fun x y hx' hy => hq y hy x hx']
end
end K02
namespace K02
open PySem L2 DL
/-- good heights -/
structure VH (w h : Nat) (H : Nat → Nat → Int) : Prop where
  w1 : 1 ≤ w
  w2 : w ≤ 11
  h1 : 1 ≤ h
  h2 : h ≤ 11
  par : ∀ x y, x < w → y < h → ((x : Int) + (y : Int) + H x y) % 2 = 0
  sx : ∀ x y, x + 1 < w → y < h → (H (x + 1) y - H x y).natAbs = 1
  sy : ∀ x y, x < w → y + 1 < h → (H x (y + 1) - H x y).natAbs = 1
  rim : ∀ x y, x < w → y < h → rimB w h x y = true → (H x y).natAbs ≤ 35
section
variable {B w h n : Nat} {x : D} {M : Store} {H : Nat → Nat → Int}
/-- good heights, as data -/
def Good (x : D) : Prop := ∃ w h H, VH w h H ∧ x = tabD w h (hD H)
theorem isn_int (h : okB B x = true) : bindE (typF [x] M) (fun t M => isF true t (.ty "int") M) = ok (.bl (!isWh x)) M := by
  cases x with
  | scr _ => cases h
  | loc _ => cases h
  | exc _ _ => cases h
  | ty _ => cases h
  | cls _ => cases h
  | clo _ _ _ _ _ _ => cases h
  | ktp _ => cases h
  | _ => rfl
theorem isn_tup (h : okB B x = true) : bindE (typF [x] M) (fun t M => isF true t (.ty "tuple") M) = ok (.bl (!isTp x)) M := by
  cases x with
  | scr _ => cases h
  | loc _ => cases h
  | exc _ _ => cases h
  | ty _ => cases h
  | cls _ => cases h
  | clo _ _ _ _ _ _ => cases h
  | ktp _ => cases h
  | _ => rfl
/-- type(a) is not t -/
theorem tn_int {da : DenE} {e : DL.Env} (h : okB B x = true) (hd : da e M = ok x M) : binD (isF true) (callD (typF) (consA da (nilA))) (cD (.ty "int")) e M = ok (.bl (!isWh x)) M := by
  show bindE (bindE (bindE (da e M) fun d M1 => bindE (ok [] M1) fun ds M2 => ok (d :: ds) M2) typF) (fun a M1 => bindE (ok (D.ty "int") M1) fun b M2 => isF true a b M2) = _
  rw [hd]
  exact isn_int h
theorem tn_tup {da : DenE} {e : DL.Env} (h : okB B x = true) (hd : da e M = ok x M) : binD (isF true) (callD (typF) (consA da (nilA))) (cD (.ty "tuple")) e M = ok (.bl (!isTp x)) M := by
  show bindE (bindE (bindE (da e M) fun d M1 => bindE (ok [] M1) fun ds M2 => ok (d :: ds) M2) typF) (fun a M1 => bindE (ok (D.ty "tuple") M1) fun b M2 => isF true a b M2) = _
  rw [hd]
  exact isn_tup h
/-- whether a number is one more or less -/
theorem nin_b {a : Int} : ∃ b : Bool, (∀ M, inF true (.int a) (.tup [.int 1, .int (-1)]) M = ok (.bl b) M) ∧ (b = false ↔ a.natAbs = 1) := by
  by_cases h : a.natAbs = 1
  · exact ⟨false, fun M => nin_pm h, fun _ => h, fun _ => rfl⟩
  · refine ⟨true, fun M => ?_, (fun z => nomatch z), fun z => absurd z h⟩
    have h1 : ¬ a = 1 := fun z => h (by rw [z]; rfl)
    have h2 : ¬ a = -1 := fun z => h (by rw [z]; rfl)
    have h1' : ¬ (1 : Int) = a := fun z => h1 z.symm
    have h2' : ¬ (-1 : Int) = a := fun z => h2 z.symm
    simp [inF, flD, sqD, flDs, inV, eqV, h1, h2, h1', h2']
    have e1 : ((1 : Int) == a) = false := beq_eq_false_iff_ne.mpr h1'
    have e2 : ((-1 : Int) == a) = false := beq_eq_false_iff_ne.mpr h2'
    rw [e1, e2]
    rfl
/-- a row of steps, or not -/
theorem bsteps_b {ds : List D} {i : Int} (hd : okBs B ds = true) (hl : ds.length ≤ 11) (h0 : ds[0]? = some (.int i)) : ∃ b, m_are_steps_beside [.tup ds] M = ok (.bl b) M ∧ (b = true ↔ ∃ G : Nat → Int, (∀ k, k < ds.length → ds[k]? = some (.int (G k))) ∧ ∀ k, k + 1 < ds.length → (G (k + 1) - G k).natAbs = 1) := by
  have i0 : ∀ M, ixF (.tup ds) (.int 0) M = ok (.int i) M := fun M => ix_tup (at_nat (n := 0) h0)
  have it : ∀ (e : DL.Env) M, e[0]? = some (some (.tup ds)) → itD (nameD 0) e M = ok (ds, fun _ => True) M := fun e M he => it_tup (by
    unfold nameD
    rw [he])
  obtain ⟨R, hR⟩ : ∃ R, R = D.tup ds := ⟨_, rfl⟩
  rw [← hR] at i0 it ⊢
  have key : Wp (den_are_steps_beside [some R, none, none] M) fun f M' => M' = M ∧ ∃ b, f = .rt (.bl b) ∧ (b = true ↔ ∃ G : Nat → Int, (∀ k, k < ds.length → ds[k]? = some (.int (G k))) ∧ ∀ k, k + 1 < ds.length → (G (k + 1) - G k).natAbs = 1) := by
    unfold den_are_steps_beside
    refine wp_nx (e' := [some R, some (.int (i - 1)), none]) (M' := M) (by simp [seqS, ifS, retS, raiseF, raiseS, consA, nilA, binD, callD, nameD, cD, bindE_v, thenS_v, bindE_x, thenS_x, unD, parS, asgS, tupD, int2F, eq_int, ne_int, intF0, negF, notF, nilS, brD, fnD, addE, subE, ix0, ix1, dropS, asgG, tupG, consG, nameG, nilG, lstD, andD, orD, tstD, ownS, appS, len_tup, len_lst, tup_tup, wipeE, set1, set2, typ_int, typ_tup, typ_non, typ_lst, isF, chainD, asT, truD, len_row, typ_row, i0]) ?_
    refine wp_forR_nx ds (fun j e M' => M' = M ∧ ∃ (G : Nat → Int) (a : Option D), (∀ k, k < j → ds[k]? = some (.int (G k))) ∧ (∀ k, k + 1 < j → (G (k + 1) - G k).natAbs = 1) ∧ e = [some R, some (.int (if j = 0 then i - 1 else G (j - 1))), a]) (it _ _ rfl) (fun j d e M' hj hi => ?_) (fun _ _ _ => trivial) ⟨rfl, fun _ => 0, none, fun _ z => absurd z (Nat.not_lt_zero _), fun _ z => absurd z (Nat.not_lt_zero _), rfl⟩ (fun e' M' hi => ?_)
    · obtain ⟨rfl, G, a, g1, g2, rfl⟩ := hi
      have od : okB B d = true := okBs_all.mp hd d (List.mem_of_getElem? hj)
      obtain ⟨W, hW⟩ : ∃ W : Int, W = if j = 0 then i - 1 else G (j - 1) := ⟨_, rfl⟩
      rw [← hW]
      refine ⟨trivial, [some R, some (.int W), some d], M', rfl, ?_⟩
      have t := tn_int (M := M') (da := nameD 2) (e := [some R, some (.int W), some d]) od rfl
      cases hw : isWh d with
      | false =>
        rw [hw] at t
        refine wp_seq (wp_of (.rt (.bl false)) (M' := M') (by
          unfold ifS orD brD
          rw [t, bindE_v]
          rfl) (.inr ⟨(fun _ z => nomatch z), .inr ⟨_, rfl, rfl, false, rfl, (fun z => nomatch z), fun ⟨G', q1, _⟩ => by
          have := q1 j (get_lt hj)
          rw [hj] at this
          rw [Option.some.inj this] at hw
          cases hw⟩⟩))
      | true =>
        obtain ⟨c, rfl⟩ : ∃ c, d = .int c := by
          cases d with
          | int c => exact ⟨c, rfl⟩
          | _ => cases hw
        rw [hw] at t
        obtain ⟨b, b1, b2⟩ := nin_b (a := c - W)
        have cnd : orD (binD (isF true) (callD (typF) (consA (nameD 2) (nilA))) (cD (.ty "int"))) (binD (inF true) (binD subF (nameD 2) (nameD 1)) (tupD (consA (cD (.int 1)) (consA (unD negF (cD (.int 1))) (nilA))))) [some R, some (.int W), some (.int c)] M' = ok (.bl b) M' := by
          unfold orD brD
          rw [t, bindE_v]
          show binD (inF true) _ _ _ _ = _
          exact (bin_v (a := .int (c - W)) (b := .tup [.int 1, .int (-1)]) (M1 := M') (M2 := M') rfl rfl).trans (b1 M')
        cases b with
        | true =>
          refine wp_seq (wp_of (.rt (.bl false)) (M' := M') (by
            unfold ifS
            rw [cnd]
            rfl) (.inr ⟨(fun _ z => nomatch z), .inr ⟨_, rfl, rfl, false, rfl, (fun z => nomatch z), fun ⟨G', q1, q2⟩ => by
            have e1 := q1 j (get_lt hj)
            rw [hj] at e1
            have e1 := D.int.inj (Option.some.inj e1)
            have n1 : ¬ (c - W).natAbs = 1 := fun z => by
              have := b2.mpr z
              cases this
            by_cases q : j = 0
            · rw [hW, if_pos q] at n1
              have e2 := q1 0 (by have := get_lt hj; omega)
              rw [h0] at e2
              have e2 := D.int.inj (Option.some.inj e2)
              rw [q, ← e2] at e1
              exact absurd (by omega) n1
            · have e3 := g1 (j - 1) (by omega)
              rw [q1 (j - 1) (by have := get_lt hj; omega)] at e3
              have e3 := D.int.inj (Option.some.inj e3)
              have e4 := q2 (j - 1) (by have := get_lt hj; omega)
              rw [show j - 1 + 1 = j by omega, ← e1, e3] at e4
              rw [hW, if_neg q] at n1
              exact absurd e4 n1⟩⟩))
        | false =>
          refine wp_nx (e' := [some R, some (.int W), some (.int c)]) (M' := M') (by
            unfold ifS
            rw [cnd]
            rfl) ?_
          refine wp_of (.nx [some R, some (.int c), some (.int c)]) (M' := M') rfl (.inl ⟨_, .inl rfl, rfl, fun k => if k = j then c else G k, some (.int c), fun k hk => ?_, fun k hk => ?_, ?_⟩)
          · show ds[k]? = some (D.int (if k = j then c else G k))
            by_cases e : k = j
            · rw [if_pos e, e]
              exact hj
            · rw [if_neg e]
              exact g1 k (by omega)
          · show ((if k + 1 = j then c else G (k + 1)) - (if k = j then c else G k)).natAbs = 1
            by_cases e : k + 1 = j
            · rw [if_pos e, if_neg (by omega)]
              have := b2.mp rfl
              rw [hW, if_neg (by omega), show j - 1 = k by omega] at this
              exact this
            · rw [if_neg e, if_neg (by omega)]
              exact g2 k (by omega)
          · show [some R, some (D.int c), some (D.int c)] = [some R, some (D.int (if j + 1 = 0 then i - 1 else if j + 1 - 1 = j then c else G (j + 1 - 1))), some (D.int c)]
            rw [if_neg (Nat.succ_ne_zero j), Nat.add_sub_cancel, if_pos rfl]
    · obtain ⟨rfl, G, a, g1, g2, rfl⟩ := hi
      exact wp_of (.rt (.bl true)) (M' := M') rfl ⟨rfl, true, rfl, (fun _ => ⟨G, g1, g2⟩), fun _ => rfl⟩
  obtain ⟨f, M', h1, rfl, b, rfl, h2⟩ := key
  exact ⟨b, fv_rt0 (e0 := [some R, none, none]) rfl h1 rfl, h2⟩
end
section
variable {B w h n : Nat} {x : D} {M : Store} {H : Nat → Nat → Int}
theorem rimlow_b (w1 : 1 ≤ w) (w2 : w ≤ 11) (h1 : 1 ≤ h) (h2 : h ≤ 11) : ∃ b, m_is_rim_low [tabD w h (hD H)] M = ok (.bl b) M ∧ (b = true ↔ ∀ x y, x < w → y < h → rimB w h x y = true → (H x y).natAbs ≤ 35) := by
  let R0 : List Int := (List.range w).map fun x => H x 0
  let R1 : List Int := (List.range w).map fun x => H x (h - 1)
  let C0 : List Int := (List.range h).map fun y => H 0 y
  let C1 : List Int := (List.range h).map fun y => H (w - 1) y
  have ix0 : ∀ M, ixF (tabD w h (hD H)) (.int 0) M = ok (.tup (R0.map D.int)) M := fun M => by
    rw [ix_row0 h1]
    show ok (rowD w fun x => hD H x 0) M = _
    unfold rowD
    rw [List.map_map]
    rfl
  have ix1 : ∀ M, ixF (tabD w h (hD H)) (.int (-1)) M = ok (.tup (R1.map D.int)) M := fun M => by
    refine (ix_tup (d := rowD w fun x => hD H x (h - 1)) (at_last (n := h - 1) (by rw [List.length_map, List.length_range]; omega) ?_)).trans ?_
    · rw [List.getElem?_map, List.getElem?_range (by omega)]
      rfl
    · unfold rowD
      rw [List.map_map]
      rfl
  have hr : ∀ y M, ixF (rowD w fun x => hD H x y) (.int 0) M = ok (.int (H 0 y)) M := fun y M => ix_row0 w1
  have hl : ∀ y M, ixF (rowD w fun x => hD H x y) (.int (-1)) M = ok (.int (H (w - 1) y)) M := fun y M => ix_tup (at_last (n := w - 1) (by rw [List.length_map, List.length_range]; omega) (by
    rw [List.getElem?_map, List.getElem?_range (by omega)]
    rfl))
  have it : ∀ (e : DL.Env) M, e[0]? = some (some (tabD w h (hD H))) → itD (nameD 0) e M = ok ((List.range h).map fun y => rowD w fun x => hD H x y, fun _ => True) M := fun e M he => it_row (by
    unfold nameD
    rw [he])
  have ln : (R0 ++ R1 ++ C0 ++ C1).length = w + w + h + h := by simp [R0, R1, C0, C1]; omega
  obtain ⟨a, xs, hE⟩ : ∃ a xs, R0 ++ R1 ++ C0 ++ C1 = a :: xs := by
    cases hc : R0 ++ R1 ++ C0 ++ C1 with
    | nil =>
      rw [hc] at ln
      simp at ln
      omega
    | cons a xs => exact ⟨a, xs, rfl⟩
  obtain ⟨mn, n1, n3, n2⟩ : ∃ m : Int, (∀ z ∈ R0 ++ R1 ++ C0 ++ C1, m ≤ z) ∧ m ∈ R0 ++ R1 ++ C0 ++ C1 ∧ ∀ M, minLF [.lst ((R0 ++ R1 ++ C0 ++ C1).map D.int)] M = ok (.int m) M := by
    rw [hE]
    refine ⟨mnI a xs, fun z hz => (List.mem_cons.mp hz).elim (fun e => e ▸ (mnI_le a xs).1) ((mnI_le a xs).2 z), mnI_mem a xs, fun M => ?_⟩
    have e : intsL M (.lst ((a :: xs).map D.int)) = some (a :: xs) := ints_map
    show (match intsL M (.lst ((a :: xs).map D.int)) with
      | some (n :: ns) => ok (D.int (mnI n ns)) M
      | _ => none) = _
    rw [e]
  obtain ⟨mx, x1, x3, x2⟩ : ∃ m : Int, (∀ z ∈ R0 ++ R1 ++ C0 ++ C1, z ≤ m) ∧ m ∈ R0 ++ R1 ++ C0 ++ C1 ∧ ∀ M, maxLF [.lst ((R0 ++ R1 ++ C0 ++ C1).map D.int)] M = ok (.int m) M := by
    rw [hE]
    refine ⟨mxI a xs, fun z hz => (List.mem_cons.mp hz).elim (fun e => e ▸ (mxI_ge a xs).1) ((mxI_ge a xs).2 z), mxI_mem a xs, fun M => ?_⟩
    have e : intsL M (.lst ((a :: xs).map D.int)) = some (a :: xs) := ints_map
    show (match intsL M (.lst ((a :: xs).map D.int)) with
      | some (n :: ns) => ok (D.int (mxI n ns)) M
      | _ => none) = _
    rw [e]
  have bnd : (-35 ≤ mn ∧ mx ≤ 35) → ∀ x y, x < w → y < h → rimB w h x y = true → (H x y).natAbs ≤ 35 := fun ⟨q1, q2⟩ x y hx hy hr => by
    have mem : H x y ∈ R0 ++ R1 ++ C0 ++ C1 := by
      unfold rimB at hr
      simp only [Bool.or_eq_true, decide_eq_true_eq] at hr
      simp only [List.mem_append]
      rcases hr with (e | e) | (e | e)
      · exact .inl (.inr (List.mem_map.mpr ⟨y, List.mem_range.mpr hy, by rw [e]⟩))
      · exact .inr (List.mem_map.mpr ⟨y, List.mem_range.mpr hy, by rw [show w - 1 = x by omega]⟩)
      · exact .inl (.inl (.inl (List.mem_map.mpr ⟨x, List.mem_range.mpr hx, by rw [e]⟩)))
      · exact .inl (.inl (.inr (List.mem_map.mpr ⟨x, List.mem_range.mpr hx, by rw [show h - 1 = y by omega]⟩)))
    have := n1 _ mem
    have := x1 _ mem
    omega
  have cnv : (∀ x y, x < w → y < h → rimB w h x y = true → (H x y).natAbs ≤ 35) → -35 ≤ mn ∧ mx ≤ 35 := fun q => by
    have bd : ∀ z ∈ R0 ++ R1 ++ C0 ++ C1, -35 ≤ z ∧ z ≤ 35 := fun z hz => by
      have key : ∀ x y, x < w → y < h → (x = 0 ∨ x + 1 = w ∨ y = 0 ∨ y + 1 = h) → -35 ≤ H x y ∧ H x y ≤ 35 := fun x y hx hy c => by
        have := q x y hx hy (by
          unfold rimB
          rcases c with c | c | c | c <;> simp [c])
        omega
      simp only [List.mem_append] at hz
      rcases hz with ((hz | hz) | hz) | hz
      · obtain ⟨x, hx, rfl⟩ := List.mem_map.mp hz
        exact key x 0 (List.mem_range.mp hx) (by omega) (by omega)
      · obtain ⟨x, hx, rfl⟩ := List.mem_map.mp hz
        exact key x (h - 1) (List.mem_range.mp hx) (by omega) (by omega)
      · obtain ⟨x, hx, rfl⟩ := List.mem_map.mp hz
        exact key 0 x (by omega) (List.mem_range.mp hx) (by omega)
      · obtain ⟨x, hx, rfl⟩ := List.mem_map.mp hz
        exact key (w - 1) x (by omega) (List.mem_range.mp hx) (by omega)
    exact ⟨(bd _ n3).1, (bd _ x3).2⟩
  have cat : ∀ M, addF (.tup (R0.map D.int)) (.tup (R1.map D.int)) M = ok (.tup ((R0 ++ R1).map D.int)) M := fun M => by
    have hne : R0.map D.int ≠ [] := by
      intro z
      have := congrArg List.length z
      simp [R0] at this
      omega
    show (if (R0.map D.int).length + (R1.map D.int).length ≤ sizeLine ∧ R0.map D.int ≠ [] then ok (D.tup (R0.map D.int ++ R1.map D.int)) M else none) = _
    rw [if_pos ⟨sz_ok (by simp [R0, R1]; omega), hne⟩, List.map_append]
  have lst : ∀ M, lstcF [.tup ((R0 ++ R1).map D.int)] M = ok (.lst ((R0 ++ R1).map D.int)) M := fun _ => rfl
  have addl : ∀ (xs ys : List Int) M, xs.length + ys.length ≤ 1000 → addF (.lst (xs.map D.int)) (.lst (ys.map D.int)) M = ok (.lst ((xs ++ ys).map D.int)) M := fun xs ys M hz => by
    show (if (xs.map D.int).length + (ys.map D.int).length ≤ sizeLine then ok (D.lst (xs.map D.int ++ ys.map D.int)) M else none) = _
    rw [if_pos (sz_ok (by simp; omega)), List.map_append]
  have l0 : (R0 ++ R1).length + C0.length ≤ 1000 := by simp [R0, R1, C0]; omega
  have l1 : (R0 ++ R1 ++ C0).length + C1.length ≤ 1000 := by simp [R0, R1, C0, C1]; omega
  have ad1 := fun M => addl (R0 ++ R1) C0 M l0
  have ad2 := fun M => addl (R0 ++ R1 ++ C0) C1 M l1
  obtain ⟨R, hR⟩ : ∃ R, R = tabD w h (hD H) := ⟨_, rfl⟩
  rw [← hR] at ix0 ix1 it ⊢
  have c0 : ∀ M, cutE (compD (set1 2) (cD (.bl true)) (binD ixF (nameD 2) (cD (.int 0))) [2] (itD (nameD 0))) [some R, none, none] M = ok (.lst (C0.map D.int)) M := fun M => by
    have q := comp_v (set := set1 2) (vs := [2]) (g := fun y : Nat => rowD w fun x => hD H x y) (f := fun y : Nat => D.int (H 0 y)) (de := binD ixF (nameD 2) (cD (.int 0))) (di := itD (nameD 0)) (e := [some R, none, none]) (M := M) (List.range h) (it _ _ rfl) (by simp; omega) (fun y hy => ⟨_, rfl, fun M => by
      have q1 := hr y
      generalize (rowD w fun x => hD H x y) = Q at *
      simp [seqS, ifS, retS, raiseF, raiseS, consA, nilA, binD, callD, nameD, cD, bindE_v, thenS_v, bindE_x, thenS_x, unD, parS, asgS, tupD, int2F, eq_int, ne_int, intF0, negF, notF, nilS, brD, fnD, addE, subE, ix0, ix1, dropS, asgG, tupG, consG, nameG, nilG, lstD, andD, orD, tstD, ownS, appS, len_tup, len_lst, tup_tup, wipeE, set1, set2, typ_int, typ_tup, typ_non, typ_lst, isF, chainD, asT, truD, len_row, typ_row, wipeE, q1]⟩) (fun _ _ => rfl)
    rw [List.map_map]
    exact q
  have c1 : ∀ M, cutE (compD (set1 2) (cD (.bl true)) (binD ixF (nameD 2) (unD negF (cD (.int 1)))) [2] (itD (nameD 0))) [some R, none, none] M = ok (.lst (C1.map D.int)) M := fun M => by
    have q := comp_v (set := set1 2) (vs := [2]) (g := fun y : Nat => rowD w fun x => hD H x y) (f := fun y : Nat => D.int (H (w - 1) y)) (de := binD ixF (nameD 2) (unD negF (cD (.int 1)))) (di := itD (nameD 0)) (e := [some R, none, none]) (M := M) (List.range h) (it _ _ rfl) (by simp; omega) (fun y hy => ⟨_, rfl, fun M => by
      have q1 := hl y
      generalize (rowD w fun x => hD H x y) = Q at *
      simp [seqS, ifS, retS, raiseF, raiseS, consA, nilA, binD, callD, nameD, cD, bindE_v, thenS_v, bindE_x, thenS_x, unD, parS, asgS, tupD, int2F, eq_int, ne_int, intF0, negF, notF, nilS, brD, fnD, addE, subE, ix0, ix1, dropS, asgG, tupG, consG, nameG, nilG, lstD, andD, orD, tstD, ownS, appS, len_tup, len_lst, tup_tup, wipeE, set1, set2, typ_int, typ_tup, typ_non, typ_lst, isF, chainD, asT, truD, len_row, typ_row, wipeE, q1]⟩) (fun _ _ => rfl)
    rw [List.map_map]
    exact q
  generalize C0.map D.int = c0l at *
  generalize C1.map D.int = c1l at *
  generalize (R0 ++ R1).map D.int = rr at *
  generalize R0.map D.int = r0 at *
  generalize R1.map D.int = r1 at *
  generalize (R0 ++ R1 ++ C0 ++ C1).map D.int = ee at *
  generalize (R0 ++ R1 ++ C0).map D.int = e3 at *
  refine ⟨decide ((-35 : Int) ≤ mn) && decide (mx ≤ (35 : Int)), ?_, (fun z => bnd (by
    rw [Bool.and_eq_true] at z
    exact ⟨of_decide_eq_true z.1, of_decide_eq_true z.2⟩)), fun z => by
    obtain ⟨z1, z2⟩ := cnv z
    rw [Bool.and_eq_true]
    exact ⟨decide_eq_true z1, decide_eq_true z2⟩⟩
  clear bnd cnv n1 x1 n3 x3
  refine fv_rt0 (e0 := [some R, none, none]) rfl ?_ rfl
  unfold den_is_rim_low
  rw [seq_nx (e' := [some R, some (.lst ee), none]) (M' := M) (by simp [seqS, ifS, retS, raiseF, raiseS, consA, nilA, binD, callD, nameD, cD, bindE_v, thenS_v, bindE_x, thenS_x, unD, parS, asgS, tupD, int2F, eq_int, ne_int, intF0, negF, notF, nilS, brD, fnD, addE, subE, ix0, ix1, dropS, asgG, tupG, consG, nameG, nilG, lstD, andD, orD, tstD, ownS, appS, len_tup, len_lst, tup_tup, wipeE, set1, set2, typ_int, typ_tup, typ_non, typ_lst, isF, chainD, asT, truD, len_row, typ_row, ix0, ix1, cat, lst, c0, c1, ad1, ad2])]
  by_cases t1 : (-35 : Int) ≤ mn
  · have t1' : decide ((-35 : Int) ≤ mn) = true := decide_eq_true t1
    simp [seqS, ifS, retS, raiseF, raiseS, consA, nilA, binD, callD, nameD, cD, bindE_v, thenS_v, bindE_x, thenS_x, unD, parS, asgS, tupD, int2F, eq_int, ne_int, intF0, negF, notF, nilS, brD, fnD, addE, subE, ix0, ix1, dropS, asgG, tupG, consG, nameG, nilG, lstD, andD, orD, tstD, ownS, appS, len_tup, len_lst, tup_tup, wipeE, set1, set2, typ_int, typ_tup, typ_non, typ_lst, isF, chainD, asT, truD, len_row, typ_row, n2, x2, le_int, t1']
  · have t1' : decide ((-35 : Int) ≤ mn) = false := decide_eq_false t1
    simp [seqS, ifS, retS, raiseF, raiseS, consA, nilA, binD, callD, nameD, cD, bindE_v, thenS_v, bindE_x, thenS_x, unD, parS, asgS, tupD, int2F, eq_int, ne_int, intF0, negF, notF, nilS, brD, fnD, addE, subE, ix0, ix1, dropS, asgG, tupG, consG, nameG, nilG, lstD, andD, orD, tstD, ownS, appS, len_tup, len_lst, tup_tup, wipeE, set1, set2, typ_int, typ_tup, typ_non, typ_lst, isF, chainD, asT, truD, len_row, typ_row, n2, x2, le_int, t1']
end
end K02
namespace K02
open PySem L2 DL
section
variable {B w h n : Nat} {x : D} {M : Store} {H : Nat → Nat → Int} {rows : List D}
theorem isWh_iff : isWh x = true ↔ ∃ i, x = .int i := by
  cases x with
  | int i => exact ⟨fun _ => ⟨i, rfl⟩, fun _ => rfl⟩
  | _ => exact ⟨(fun z => nomatch (show false = true from z)), (fun ⟨i, e⟩ => nomatch e)⟩
theorem isTp_iff : isTp x = true ↔ ∃ ds, x = .tup ds := by
  cases x with
  | tup ds => exact ⟨fun _ => ⟨ds, rfl⟩, fun _ => rfl⟩
  | _ => exact ⟨(fun z => nomatch (show false = true from z)), (fun ⟨i, e⟩ => nomatch e)⟩
/-- what stands in rows of numbers -/
def cellI (rows : List D) (x y : Nat) : Int := match rows[y]? with
  | some (.tup es) => (match es[x]? with
    | some (.int i) => i
    | _ => 0)
  | _ => 0
theorem cellI_at {es : List D} {y x : Nat} {i : Int} (h1 : rows[y]? = some (.tup es)) (h2 : es[x]? = some (.int i)) : cellI rows x y = i := by
  unfold cellI
  rw [h1]
  dsimp only
  rw [h2]
theorem tab_ints (hr : ∀ (y : Nat) (r : D), rows[y]? = some r → ∃ es, r = .tup es ∧ es.length = w ∧ ∀ (x : Nat) (d : D), es[x]? = some d → isWh d = true) : (.tup rows : D) = tabD w rows.length (hD (cellI rows)) := by
  show D.tup rows = D.tup ((List.range rows.length).map fun y => rowD w fun x => hD (cellI rows) x y)
  congr 1
  apply List.ext_getElem?
  intro y
  rw [List.getElem?_map]
  by_cases hy : y < rows.length
  · rw [List.getElem?_range hy]
    have hy2 : rows[y]? = some rows[y] := List.getElem?_eq_getElem hy
    obtain ⟨es, e1, e2, e3⟩ := hr y _ hy2
    rw [e1] at hy2
    rw [hy2]
    show some (D.tup es) = some (D.tup ((List.range w).map fun x => D.int (cellI rows x y)))
    congr 2
    apply List.ext_getElem?
    intro x
    rw [List.getElem?_map]
    by_cases hx : x < es.length
    · rw [List.getElem?_range (by omega)]
      have hx2 : es[x]? = some es[x] := List.getElem?_eq_getElem hx
      obtain ⟨i, hi⟩ := isWh_iff.mp (e3 x _ hx2)
      rw [hi] at hx2
      rw [hx2]
      show some (D.int i) = some (D.int (cellI rows x y))
      rw [cellI_at hy2 hx2]
    · rw [List.getElem?_eq_none (by omega), List.getElem?_eq_none (by rw [List.length_range]; omega)]
      rfl
  · rw [List.getElem?_eq_none (by omega), List.getElem?_eq_none (by rw [List.length_range]; omega)]
    rfl
/-- a table of numbers, low at the rim -/
def GH (x : D) : Prop := ∃ w h H, 1 ≤ w ∧ w ≤ 11 ∧ 1 ≤ h ∧ h ≤ 11 ∧ (∀ x y, x < w → y < h → rimB w h x y = true → ((H : Nat → Nat → Int) x y).natAbs ≤ 35) ∧ x = tabD w h (hD H)
theorem gh_of (g : Good x) : GH x := by
  obtain ⟨w, h, H, v, e⟩ := g
  exact ⟨w, h, H, v.w1, v.w2, v.h1, v.h2, v.rim, e⟩
theorem gh_rows (g : GH (.tup rows)) : ∃ (w : Nat) (H : Nat → Nat → Int), (1 ≤ w ∧ w ≤ 11) ∧ (1 ≤ rows.length ∧ rows.length ≤ 11) ∧ (∀ x y, x < w → y < rows.length → rimB w rows.length x y = true → (H x y).natAbs ≤ 35) ∧ ∀ y, y < rows.length → rows[y]? = some (rowD w fun x => hD H x y) := by
  obtain ⟨w, h, H, w1, w2, h1, h2, rim, e⟩ := g
  have e : D.tup rows = D.tup ((List.range h).map fun y => rowD w fun x => hD H x y) := e
  have e2 := D.tup.inj e
  have hl : rows.length = h := by rw [e2, List.length_map, List.length_range]
  subst hl
  refine ⟨w, H, ⟨w1, w2⟩, ⟨h1, h2⟩, rim, fun y hy => ?_⟩
  rw [e2, List.getElem?_map, List.getElem?_range hy]
  rfl
theorem gh_row {y : Nat} {d : D} (g : GH (.tup rows)) (hd : rows[y]? = some d) : ∃ (w : Nat) (H : Nat → Nat → Int), (∀ k, k < rows.length → rows[k]? = some (rowD w fun x => hD H x k)) ∧ d = rowD w fun x => hD H x y := by
  obtain ⟨w, H, _, _, _, hr⟩ := gh_rows g
  have := hr y (get_lt hd)
  rw [hd] at this
  exact ⟨w, H, hr, Option.some.inj this⟩
theorem row_at {w : Nat} {f : Nat → D} {es : List D} (e : D.tup es = rowD w f) : es.length = w ∧ ∀ x, x < w → es[x]? = some (f x) := by
  have e : D.tup es = D.tup ((List.range w).map f) := e
  have e2 := D.tup.inj e
  refine ⟨by rw [e2, List.length_map, List.length_range], fun x hx => ?_⟩
  rw [e2, List.getElem?_map, List.getElem?_range hx]
  rfl
theorem hrows_b (hx : okBs B rows = true) (h1 : 1 ≤ rows.length) (h2 : rows.length ≤ 11) {ds : List D} (h0 : rows[0]? = some (.tup ds)) (w1 : 1 ≤ ds.length) (w2 : ds.length ≤ 11) : ∃ b, m_are_height_rows [.tup rows] M = ok (.bl b) M ∧ (b = true ↔ GH (.tup rows)) := by
  have i0 : ∀ M, ixF (.tup rows) (.int 0) M = ok (.tup ds) M := fun M => ix_tup (at_nat (n := 0) h0)
  have it : ∀ (e : DL.Env) M, e[0]? = some (some (.tup rows)) → itD (nameD 0) e M = ok (rows, fun _ => True) M := fun e M he => it_tup (by
    unfold nameD
    rw [he])
  have rl : (.tup rows : D) = tabD ds.length rows.length (hD (cellI rows)) → ∃ b, m_is_rim_low [.tup rows] M = ok (.bl b) M ∧ (b = true ↔ GH (.tup rows)) := fun e => by
    obtain ⟨b, q, q2⟩ := rimlow_b (M := M) (H := cellI rows) w1 w2 h1 h2
    refine ⟨b, by rw [e]; exact q, q2.trans ⟨fun z => ⟨_, _, _, w1, w2, h1, h2, z, e⟩, fun g => ?_⟩⟩
    obtain ⟨w, H, _, _, rim, hr⟩ := gh_rows g
    have e0 := hr 0 (by omega)
    rw [h0] at e0
    have hl := (row_at (Option.some.inj e0)).1
    intro x y hx hy hb
    rw [cellI_at (hr y hy) (show ((List.range w).map fun x => D.int (H x y))[x]? = some (D.int (H x y)) by
      rw [List.getElem?_map, List.getElem?_range (by omega)]
      rfl)]
    rw [hl] at hx hb
    exact rim x y hx hy hb
  have gr := fun {y : Nat} {d : D} (g : GH (.tup rows)) (hd : rows[y]? = some d) => gh_row g hd
  obtain ⟨X, hX⟩ : ∃ X : Prop, X = GH (.tup rows) := ⟨_, rfl⟩
  rw [← hX] at gr rl ⊢
  obtain ⟨R, hR⟩ : ∃ R, R = D.tup rows := ⟨_, rfl⟩
  obtain ⟨W, hW⟩ : ∃ W : Int, W = (ds.length : Int) := ⟨_, rfl⟩
  have lW : ∀ M, lenF [.tup ds] M = ok (.int W) M := fun M => by rw [hW]; rfl
  rw [← hR] at i0 it ⊢
  have key : Wp (den_are_height_rows [some R, none, none, none] M) fun f M' => M' = M ∧ ∃ b, f = .rt (.bl b) ∧ (b = true ↔ X) := by
    unfold den_are_height_rows
    refine wp_nx (e' := [some R, some (.int W), none, none]) (M' := M) (by
      generalize D.tup ds = T at *
      simp [seqS, ifS, retS, raiseF, raiseS, consA, nilA, binD, callD, nameD, cD, bindE_v, thenS_v, bindE_x, thenS_x, unD, parS, asgS, tupD, int2F, eq_int, ne_int, intF0, negF, notF, nilS, brD, fnD, addE, subE, ix0, ix1, dropS, asgG, tupG, consG, nameG, nilG, lstD, andD, orD, tstD, ownS, appS, len_tup, len_lst, tup_tup, wipeE, set1, set2, typ_int, typ_tup, typ_non, typ_lst, isF, chainD, asT, truD, len_row, typ_row, i0, lW]) ?_
    refine wp_forR_nx rows (fun j e M' => M' = M ∧ (∃ a b, e = [some R, some (.int W), a, b]) ∧ ∀ (y : Nat) (r : D), y < j → rows[y]? = some r → ∃ es, r = .tup es ∧ es.length = ds.length ∧ ∀ (x : Nat) (d : D), es[x]? = some d → isWh d = true) (it _ _ rfl) (fun j d e M' hj hi => ?_) (fun _ _ _ => trivial) ⟨rfl, ⟨_, _, rfl⟩, fun y r z => absurd z (Nat.not_lt_zero _)⟩ (fun e' M' hi => ?_)
    · obtain ⟨rfl, ⟨a, b, rfl⟩, hall⟩ := hi
      have od : okB B d = true := okBs_all.mp hx d (List.mem_of_getElem? hj)
      refine ⟨trivial, [some R, some (.int W), some d, b], M', rfl, ?_⟩
      have t := tn_tup (M := M') (da := nameD 2) (e := [some R, some (.int W), some d, b]) od rfl
      cases hw : isTp d with
      | false =>
        rw [hw] at t
        refine wp_seq (wp_of (.rt (.bl false)) (M' := M') (by
          unfold ifS orD brD
          rw [t, bindE_v]
          rfl) (.inr ⟨(fun _ z => nomatch z), .inr ⟨_, rfl, rfl, false, rfl, (fun z => nomatch z), fun g => by
          obtain ⟨w, H, _, e⟩ := gr g hj
          rw [e] at hw
          cases hw⟩⟩))
      | true =>
        obtain ⟨es, rfl⟩ := isTp_iff.mp hw
        rw [hw] at t
        have cnd : orD (binD (isF true) (callD (typF) (consA (nameD 2) (nilA))) (cD (.ty "tuple"))) (binD (neF) (callD (lenF) (consA (nameD 2) (nilA))) (nameD 1)) [some R, some (.int W), some (.tup es), b] M' = ok (.bl (!decide ((es.length : Int) = W))) M' := by
          unfold orD brD
          rw [t, bindE_v]
          show binD (neF) _ _ _ _ = _
          exact (bin_v (a := .int (es.length : Int)) (b := .int W) (M1 := M') (M2 := M') rfl rfl).trans ne_int
        by_cases hl : es.length = ds.length
        · have e1 : (!decide ((es.length : Int) = W)) = false := by rw [decide_eq_true (by omega)]; rfl
          rw [e1] at cnd
          refine wp_nx (e' := [some R, some (.int W), some (.tup es), b]) (M' := M') (by
            unfold ifS
            rw [cnd]
            rfl) ?_
          refine wp_forR es (fun j e M2 => M2 = M' ∧ (∃ b, e = [some R, some (.int W), some (.tup es), b]) ∧ ∀ (x : Nat) (d : D), x < j → es[x]? = some d → isWh d = true) (it_tup rfl) (fun i c e M2 hi2 hi => ?_) (fun _ _ _ => trivial) ⟨rfl, ⟨_, rfl⟩, fun x d z => absurd z (Nat.not_lt_zero _)⟩ (fun e' M2 hi => ?_)
          · obtain ⟨rfl, ⟨b, rfl⟩, hin⟩ := hi
            have oc : okB B c = true := okBs_all.mp od c (List.mem_of_getElem? hi2)
            refine ⟨trivial, [some R, some (.int W), some (.tup es), some c], M2, rfl, ?_⟩
            have t2 := tn_int (M := M2) (da := nameD 3) (e := [some R, some (.int W), some (.tup es), some c]) oc rfl
            cases hc : isWh c with
            | false =>
              rw [hc] at t2
              exact wp_of (.rt (.bl false)) (M' := M2) (by
                unfold ifS
                rw [t2]
                rfl) (.inr ⟨_, rfl, .inr ⟨_, rfl, rfl, false, rfl, (fun z => nomatch z), fun g => by
                obtain ⟨w, H, _, e⟩ := gr g hj
                obtain ⟨q1, q2⟩ := row_at e
                have := q2 i (by have := get_lt hi2; omega)
                rw [hi2] at this
                rw [Option.some.inj this] at hc
                cases hc⟩⟩)
            | true =>
              rw [hc] at t2
              exact wp_of (.nx [some R, some (.int W), some (.tup es), some c]) (M' := M2) (by
                unfold ifS
                rw [t2]
                rfl) (.inl ⟨_, .inl rfl, rfl, ⟨_, rfl⟩, fun x d hx2 hxd => by
                by_cases e : x = i
                · rw [e, hi2] at hxd
                  cases hxd
                  exact hc
                · exact hin x d (by omega) hxd⟩)
          · obtain ⟨rfl, ⟨b, rfl⟩, hin⟩ := hi
            refine .inl ⟨_, .inl rfl, rfl, ⟨_, _, rfl⟩, fun y r hy hr => ?_⟩
            by_cases e : y = j
            · rw [e, hj] at hr
              cases hr
              exact ⟨es, rfl, hl, fun x d hxd => hin x d (get_lt hxd) hxd⟩
            · exact hall y r (by omega) hr
        · have e1 : (!decide ((es.length : Int) = W)) = true := by rw [decide_eq_false (by omega)]; rfl
          rw [e1] at cnd
          refine wp_seq (wp_of (.rt (.bl false)) (M' := M') (by
            unfold ifS
            rw [cnd]
            rfl) (.inr ⟨(fun _ z => nomatch z), .inr ⟨_, rfl, rfl, false, rfl, (fun z => nomatch z), fun g => by
            obtain ⟨w, H, hr, e⟩ := gr g hj
            have e0 := hr 0 (by omega)
            rw [h0] at e0
            exact absurd ((row_at e).1.trans (row_at (Option.some.inj e0)).1.symm) hl⟩⟩))
    · obtain ⟨rfl, ⟨a, b, rfl⟩, hall⟩ := hi
      obtain ⟨c, hc, hc2⟩ := rl (tab_ints fun y r hr => hall y r (get_lt hr) hr)
      rw [← hR] at hc
      refine wp_of (.rt (.bl c)) (M' := M') ?_ ⟨rfl, c, rfl, hc2⟩
      show thenS (fnD m_is_rim_low 1 [] (consA (nameD 0) (nilA)) [some R, some (.int W), a, b] M') _ _ = _
      rw [show fnD m_is_rim_low 1 [] (consA (nameD 0) (nilA)) [some R, some (.int W), a, b] M' = m_is_rim_low [R] M' from rfl, hc]
      rfl
  obtain ⟨f, M', q, rfl, b, rfl, q2⟩ := key
  exact ⟨b, fv_rt0 (e0 := [some R, none, none, none]) rfl q rfl, q2⟩
/-- what is said of heights -/
def Out (x r : D) : Prop := (r = .non ∧ Good x) ∨ (r = .str "heights" ∧ ¬ GH x) ∨ (r = .str "steps" ∧ GH x ∧ ¬ Good x)
theorem wos_b (hx : okBs B rows = true) (h1 : 1 ≤ rows.length) (h2 : rows.length ≤ 11) {ds : List D} (h0 : rows[0]? = some (.tup ds)) (w1 : 1 ≤ ds.length) (w2 : ds.length ≤ 11) : ∃ s, m__wrong_or_steps [.tup rows] M = ok (.str s) M ∧ (¬ Good (.tup rows) → Out (.tup rows) (.str s)) := by
  obtain ⟨b, q, qb⟩ := hrows_b (M := M) hx h1 h2 h0 w1 w2
  have q2 : fnD m_are_height_rows 1 [] (consA (nameD 0) (nilA)) [some (.tup rows)] M = ok (.bl b) M := q
  cases b with
  | true => exact ⟨"steps", fv_rt0 (e0 := [some (.tup rows)]) rfl (by
      unfold den__wrong_or_steps
      refine seq_rt ?_
      unfold ifS tstD
      rw [q2]
      rfl) rfl, fun ng => .inr (.inr ⟨rfl, qb.mp rfl, ng⟩)⟩
  | false => exact ⟨"heights", fv_rt0 (e0 := [some (.tup rows)]) rfl (by
      unfold den__wrong_or_steps
      rw [seq_nx (e' := [some (.tup rows)]) (M' := M) (by
        unfold ifS tstD
        rw [q2]
        rfl)]
      rfl) rfl, fun _ => .inr (.inl ⟨rfl, fun g => by
        have := qb.mpr g
        cases this⟩)⟩
end
end K02
namespace K02
open PySem L2 DL
section
variable {B w h n : Nat} {x : D} {M : Store} {H : Nat → Nat → Int} {rows : List D}
theorem mul_one {a b : Int} (h : (a * b).natAbs = 1) : a.natAbs = 1 ∧ b.natAbs = 1 := by
  rw [Int.natAbs_mul] at h
  exact ⟨Nat.eq_one_of_mul_eq_one_right h, Nat.eq_one_of_mul_eq_one_left h⟩
theorem bd_sub {a b : Int} (hB : B < 2 ^ 99) (ha : a.natAbs ≤ B) (hb : b.natAbs ≤ B) : Bd 100 (a - b) := by
  unfold Bd
  have : (2 : Nat) ^ 100 = 2 ^ 99 + 2 ^ 99 := by decide
  omega
/-- the rows that were gone over -/
structure Up (w j : Nat) (rows : List D) (H : Nat → Nat → Int) : Prop where
  at_ : ∀ y, y < j → rows[y]? = some (rowD w fun x => hD H x y)
  sx : ∀ x y, x + 1 < w → y < j → (H (x + 1) y - H x y).natAbs = 1
  sy : ∀ x y, x < w → y + 1 < j → (H x (y + 1) - H x y).natAbs = 1
theorem Up.tab {j : Nat} (u : Up w j rows H) (hj : j = rows.length) : (.tup rows : D) = tabD w j (hD H) := by
  show D.tup rows = D.tup ((List.range j).map fun y => rowD w fun x => hD H x y)
  congr 1
  apply List.ext_getElem?
  intro y
  rw [List.getElem?_map]
  by_cases hy : y < j
  · rw [List.getElem?_range hy, u.at_ y hy]
    rfl
  · rw [List.getElem?_eq_none (by omega), List.getElem?_eq_none (by rw [List.length_range]; omega)]
    rfl
theorem Up.col {j : Nat} (u : Up w j rows H) (w1 : 1 ≤ w) : ∀ y, y < j → (H 0 y - H 0 0).natAbs ≤ y ∧ (H 0 y - H 0 0 + (y : Int)) % 2 = 0
  | 0, _ => by constructor <;> omega
  | y + 1, hy => by
    obtain ⟨h1, h2⟩ := u.col w1 y (by omega)
    have := u.sy 0 y (by omega) hy
    constructor <;> omega
theorem Up.all {j : Nat} (u : Up w j rows H) (w1 : 1 ≤ w) (y : Nat) (hy : y < j) : ∀ x, x < w → (H x y - H 0 0).natAbs ≤ x + y ∧ (H x y - H 0 0 + (x : Int) + (y : Int)) % 2 = 0
  | 0, _ => by
    obtain ⟨h1, h2⟩ := u.col w1 y hy
    constructor <;> omega
  | x + 1, hx => by
    obtain ⟨h1, h2⟩ := u.all w1 y hy x (by omega)
    have := u.sx x y hx hy
    constructor <;> omega
theorem Up.good {j : Nat} (u : Up w j rows H) (hj : j = rows.length) (w1 : 1 ≤ w) (w2 : w ≤ 11) (h1 : 1 ≤ j) (h2 : j ≤ 11) (ev : H 0 0 % 2 = 0) (rim : ∀ x y, x < w → y < j → rimB w j x y = true → (H x y).natAbs ≤ 35) : Good (.tup rows) :=
  ⟨w, j, H, ⟨w1, w2, h1, h2, fun x y hx hy => by
    have := (u.all w1 y hy x hx).2
    omega, u.sx, u.sy, rim⟩, u.tab hj⟩
theorem row_ints {es : List D} {G : Nat → Int} (hl : es.length = w) (hg : ∀ k, k < w → es[k]? = some (.int (G k))) : (.tup es : D) = rowD w fun x => .int (G x) := by
  show D.tup es = D.tup _
  congr 1
  apply List.ext_getElem?
  intro k
  rw [List.getElem?_map]
  by_cases hk : k < w
  · rw [List.getElem?_range hk, hg k hk]
    rfl
  · rw [List.getElem?_eq_none (by omega), List.getElem?_eq_none (by rw [List.length_range]; omega)]
    rfl
abbrev WP (x : D) (M : Store) (f : Flw) (M' : Store) : Prop := M' = M ∧ ∃ r, f = .rt r ∧ Out x r ∧ (r = .non ∨ ∃ s, r = .str s)
theorem wp_str {s : Str} (o : Out x (.str s)) : WP x M (.rt (.str s)) M := ⟨rfl, _, rfl, o, .inr ⟨s, rfl⟩⟩
theorem zipI_map {f1 f2 : Nat → D} : zipI ((List.range n).map f1) ((List.range n).map f2) = (List.range n).map fun x => .tup [f1 x, f2 x] := by
  unfold zipI
  rw [List.zipWith_map]
  rw [List.zipWith_self]
theorem good_two {es : List D} {S : Nat → Int} {y0 : Nat} (g : Good (.tup rows)) (hy0 : rows[y0]? = some (rowD w fun x => .int (S x))) (hy1 : rows[y0 + 1]? = some (.tup es)) : ∃ H : Nat → Nat → Int, (∀ k, k < w → S k = H k y0) ∧ (∀ k, k < w → es[k]? = some (.int (H k (y0 + 1)))) ∧ (∀ k, k + 1 < w → (H (k + 1) (y0 + 1) - H k (y0 + 1)).natAbs = 1) ∧ ∀ k, k < w → (H k (y0 + 1) - H k y0).natAbs = 1 := by
  obtain ⟨w', h, H, v, e⟩ := g
  have e : D.tup rows = D.tup ((List.range h).map fun y => rowD w' fun x => hD H x y) := e
  have e2 := D.tup.inj e
  have hl : rows.length = h := by rw [e2, List.length_map, List.length_range]
  have at_ : ∀ y, y < h → rows[y]? = some (rowD w' fun x => hD H x y) := fun y hy => by
    rw [e2, List.getElem?_map, List.getElem?_range hy]
    rfl
  have l1 := get_lt hy1
  have r0 := at_ y0 (by omega)
  rw [hy0] at r0
  have r0 : D.tup ((List.range w).map fun x => D.int (S x)) = rowD w' fun x => hD H x y0 := Option.some.inj r0
  obtain ⟨q1, q2⟩ := row_at r0
  rw [List.length_map, List.length_range] at q1
  subst q1
  have r1 := at_ (y0 + 1) (by omega)
  rw [hy1] at r1
  obtain ⟨q3, q4⟩ := row_at (Option.some.inj r1)
  refine ⟨H, fun k hk => ?_, fun k hk => q4 k hk, fun k hk => v.sx k (y0 + 1) hk (by omega), fun k hk => v.sy k y0 hk (by omega)⟩
  have := q2 k hk
  rw [List.getElem?_map, List.getElem?_range hk] at this
  exact D.int.inj (Option.some.inj this)
noncomputable abbrev wBody : DenS := seqS (ifS (binD (isF true) (callD (typF) (consA (nameD 6) (nilA))) (cD (.ty "int"))) (retS (cD (.str "heights"))) (nilS)) (seqS (ifS (binD (inF true) (binD mulF (binD subF (nameD 6) (nameD 5)) (binD subF (nameD 6) (nameD 7))) (tupD (consA (cD (.int 1)) (consA (unD negF (cD (.int 1))) (nilA))))) (retS (fnD m__wrong_or_steps 1 [] (consA (nameD 0) (nilA)))) (nilS)) (asgS 5 (nameD 6)))
theorem wrow {ds es : List D} {F : Int} {y0 : Nat} {a6 a7 : Option D} {S : Nat → Int} (hB : B < 2 ^ 99) (hx : okBs B rows = true) (oe : okBs B es = true) (h1 : 1 ≤ rows.length) (h2 : rows.length ≤ 11) (h0 : rows[0]? = some (.tup ds)) (w1 : 1 ≤ w) (w2 : w ≤ 11) (hw : ds.length = w) (hl : es.length = w) (hS : ∀ k, k < w → (S k).natAbs ≤ B) (hy0 : rows[y0]? = some (rowD w fun x => .int (S x))) (hy1 : rows[y0 + 1]? = some (.tup es)) :
    Wp (forI (tupG 2 (consG (nameG 6) (consG (nameG 7) (nilG)))) (zipD (consA (nameD 4) (consA (nameD 3) nilA))) wBody [some (.tup rows), some (.int F), some (.int (w : Int)), some (rowD w fun x => .int (S x)), some (.tup es), some (.int (S 0)), a6, a7] M) fun f M' => M' = M ∧ ((∃ a5 a6 a7, f = .nx [some (.tup rows), some (.int F), some (.int (w : Int)), some (rowD w fun x => .int (S x)), some (.tup es), a5, a6, a7] ∧ ∃ G : Nat → Int, (∀ k, k < w → es[k]? = some (.int (G k))) ∧ (∀ k, k < w → (G k - S k).natAbs = 1) ∧ ∀ k, k + 1 < w → (G (k + 1) - G k).natAbs = 1) ∨ WP (.tup rows) M f M') := by
  obtain ⟨s, hs, os⟩ := wos_b (M := M) hx h1 h2 h0 (by omega) (by omega)
  have gr := fun {y : Nat} {d : D} (g : GH (.tup rows)) (hd : rows[y]? = some d) => gh_row g hd
  have gd := fun (g : Good (.tup rows)) => good_two g hy0 hy1
  have he : es = (List.range w).map fun i => es[i]?.getD .non := row_of hl
  have hz : zipD (consA (nameD 4) (consA (nameD 3) nilA)) [some (.tup rows), some (.int F), some (.int (w : Int)), some (rowD w fun x => .int (S x)), some (.tup es), some (.int (S 0)), a6, a7] M = ok ((List.range w).map fun k => .tup [es[k]?.getD .non, .int (S k)], fun _ => True) M := by
    have q := zip_rows (n := w) (f1 := fun k => es[k]?.getD .non) (f2 := fun k => D.int (S k)) (da := nameD 4) (db := nameD 3) (e := [some (.tup rows), some (.int F), some (.int (w : Int)), some (rowD w fun x => .int (S x)), some (.tup es), some (.int (S 0)), a6, a7]) (fun M => by
      show ok (D.tup es) M = ok (rowD w _) M
      unfold rowD
      rw [← he]) (fun M => rfl) M
    rw [zipI_map] at q
    exact q
  have hw' : (rowD w fun x => D.int (S x)) = rowD w fun x => D.int (S x) := rfl
  clear hw'
  obtain ⟨V, hV⟩ : ∃ V, V = rowD w fun x => D.int (S x) := ⟨_, rfl⟩
  obtain ⟨R, hR⟩ : ∃ R, R = D.tup rows := ⟨_, rfl⟩
  rw [← hV] at hz ⊢
  rw [← hR] at hs hz ⊢
  refine wp_forR ((List.range w).map fun k => .tup [es[k]?.getD .non, .int (S k)]) (fun j e M' => M' = M ∧ ∃ (G : Nat → Int) (a6 a7 : Option D), (∀ k, k < j → es[k]? = some (.int (G k))) ∧ (∀ k, k < j → (G k - S k).natAbs = 1) ∧ (∀ k, k + 1 < j → (G (k + 1) - G k).natAbs = 1) ∧ e = [some R, some (.int F), some (.int (w : Int)), some V, some (.tup es), some (.int (if j = 0 then S 0 else G (j - 1))), a6, a7]) hz (fun j d e M' hj hi => ?_) (fun _ _ _ => trivial) ⟨rfl, fun _ => 0, _, _, fun _ z => absurd z (Nat.not_lt_zero _), fun _ z => absurd z (Nat.not_lt_zero _), fun _ z => absurd z (Nat.not_lt_zero _), rfl⟩ (fun e' M' hi => ?_)
  · obtain ⟨rfl, G, a6, a7, g1, g2, g3, rfl⟩ := hi
    obtain ⟨hjw, rfl⟩ := rng_get hj
    have hjl : j < es.length := by omega
    obtain ⟨c, hc⟩ : ∃ c, es[j]? = some c := ⟨_, List.getElem?_eq_getElem hjl⟩
    have oc : okB B c = true := okBs_all.mp oe c (List.mem_of_getElem? hc)
    have wb : (if j = 0 then S 0 else G (j - 1)).natAbs ≤ B := by
      by_cases q : j = 0
      · rw [if_pos q]
        exact hS 0 (by omega)
      · rw [if_neg q]
        exact of_decide_eq_true (okBs_all.mp oe _ (List.mem_of_getElem? (g1 (j - 1) (by omega))))
    obtain ⟨W, hW⟩ : ∃ W : Int, W = if j = 0 then S 0 else G (j - 1) := ⟨_, rfl⟩
    rw [← hW] at wb ⊢
    rw [hc]
    refine ⟨trivial, [some R, some (.int F), some (.int (w : Int)), some V, some (.tup es), some (.int W), some c, some (.int (S j))], M', rfl, ?_⟩
    have t := tn_int (M := M') (da := nameD 6) (e := [some R, some (.int F), some (.int (w : Int)), some V, some (.tup es), some (.int W), some c, some (.int (S j))]) oc rfl
    cases hwh : isWh c with
    | false =>
      rw [hwh] at t
      refine wp_seq (wp_of (.rt (.str "heights")) (M' := M') (by
        unfold ifS
        rw [t]
        rfl) (.inr ⟨(fun _ z => nomatch z), .inr ⟨_, rfl, rfl, .inr ?_⟩⟩))
      refine wp_str (.inr (.inl ⟨rfl, fun g => ?_⟩))
      rw [hR] at g
      obtain ⟨w', H, _, e⟩ := gr g hy1
      obtain ⟨q1, q2⟩ := row_at e
      have := q2 j (by omega)
      rw [hc] at this
      rw [Option.some.inj this] at hwh
      cases hwh
    | true =>
      obtain ⟨i, rfl⟩ := isWh_iff.mp hwh
      rw [hwh] at t
      have ib : i.natAbs ≤ B := of_decide_eq_true oc
      obtain ⟨b, b1, b2⟩ := nin_b (a := (i - W) * (i - S j))
      have mu : mulF (.int (i - W)) (.int (i - S j)) M' = ok (.int ((i - W) * (i - S j))) M' := mulB (k := 100) (l := 100) (bd_sub hB ib wb) (bd_sub hB ib (hS j hjw)) (by decide)
      have cnd : binD (inF true) (binD mulF (binD subF (nameD 6) (nameD 5)) (binD subF (nameD 6) (nameD 7))) (tupD (consA (cD (.int 1)) (consA (unD negF (cD (.int 1))) (nilA)))) [some R, some (.int F), some (.int (w : Int)), some V, some (.tup es), some (.int W), some (.int i), some (.int (S j))] M' = ok (.bl b) M' :=
        (bin_v (a := .int ((i - W) * (i - S j))) (b := .tup [.int 1, .int (-1)]) (M1 := M') (M2 := M') ((bin_v (a := .int (i - W)) (b := .int (i - S j)) (M1 := M') (M2 := M') rfl rfl).trans mu) rfl).trans (b1 M')
      refine wp_nx (e' := [some R, some (.int F), some (.int (w : Int)), some V, some (.tup es), some (.int W), some (.int i), some (.int (S j))]) (M' := M') (by
        unfold ifS
        rw [t]
        rfl) ?_
      cases b with
      | true =>
        refine wp_seq (wp_of (.rt (.str s)) (M' := M') (by
          unfold ifS
          rw [cnd]
          show thenS (m__wrong_or_steps [R] M') _ _ = _
          rw [hs]
          rfl) (.inr ⟨(fun _ z => nomatch z), .inr ⟨_, rfl, rfl, .inr ?_⟩⟩))
        refine wp_str ?_
        rw [hR]
        refine os fun g => ?_
        obtain ⟨H, p1, p2, p3, p4⟩ := gd g
        have n1 : ¬ ((i - W) * (i - S j)).natAbs = 1 := fun z => by
          have := b2.mpr z
          cases this
        have c1 : i = H j (y0 + 1) := by
          have := p2 j hjw
          rw [hc] at this
          exact D.int.inj (Option.some.inj this)
        have c2 := p1 j hjw
        have c3 := p4 j hjw
        rw [Int.natAbs_mul] at n1
        have m2 : (i - S j).natAbs = 1 := by
          rw [c1, c2]
          exact c3
        have m1 : (i - W).natAbs = 1 := by
          by_cases q : j = 0
          · rw [hW, if_pos q]
            subst q
            exact m2
          · rw [hW, if_neg q]
            have e1 := g1 (j - 1) (by omega)
            rw [p2 (j - 1) (by omega)] at e1
            have e1 := D.int.inj (Option.some.inj e1)
            rw [← e1, c1]
            have := p3 (j - 1) (by omega)
            rwa [show j - 1 + 1 = j by omega] at this
        rw [m1, m2] at n1
        exact n1 rfl
      | false =>
        obtain ⟨q1, q2⟩ := mul_one (b2.mp rfl)
        refine wp_nx (e' := [some R, some (.int F), some (.int (w : Int)), some V, some (.tup es), some (.int W), some (.int i), some (.int (S j))]) (M' := M') (by
          unfold ifS
          rw [cnd]
          rfl) ?_
        refine wp_of (.nx [some R, some (.int F), some (.int (w : Int)), some V, some (.tup es), some (.int i), some (.int i), some (.int (S j))]) (M' := M') rfl (.inl ⟨_, .inl rfl, rfl, fun k => if k = j then i else G k, some (.int i), some (.int (S j)), fun k hk => ?_, fun k hk => ?_, fun k hk => ?_, ?_⟩)
        · show es[k]? = some (D.int (if k = j then i else G k))
          by_cases e : k = j
          · rw [if_pos e, e]
            exact hc
          · rw [if_neg e]
            exact g1 k (by omega)
        · show ((if k = j then i else G k) - S k).natAbs = 1
          by_cases e : k = j
          · rw [if_pos e, e]
            exact q2
          · rw [if_neg e]
            exact g2 k (by omega)
        · show ((if k + 1 = j then i else G (k + 1)) - (if k = j then i else G k)).natAbs = 1
          by_cases e : k + 1 = j
          · rw [if_pos e, if_neg (by omega)]
            rw [hW, if_neg (by omega), show j - 1 = k by omega] at q1
            exact q1
          · rw [if_neg e, if_neg (by omega)]
            exact g3 k (by omega)
        · show [some R, some (.int F), some (.int (w : Int)), some V, some (.tup es), some (D.int i), some (.int i), some (.int (S j))] = [some R, some (.int F), some (.int (w : Int)), some V, some (.tup es), some (D.int (if j + 1 = 0 then S 0 else if j + 1 - 1 = j then i else G (j + 1 - 1))), some (.int i), some (.int (S j))]
          rw [if_neg (Nat.succ_ne_zero j), Nat.add_sub_cancel, if_pos rfl]
  · obtain ⟨rfl, G, a6, a7, g1, g2, g3, rfl⟩ := hi
    rw [List.length_map, List.length_range] at g1 g2 g3
    exact ⟨rfl, .inl ⟨_, _, _, rfl, G, g1, g2, g3⟩⟩
end
end K02
namespace K02
open PySem L2 DL
section
variable {B w h n : Nat} {x : D} {M : Store} {H : Nat → Nat → Int} {rows : List D}
theorem wrong_b (hB : B < 2 ^ 99) (hx : okB B x = true) : ∃ r, m_wrong_with_heights [x] M = ok r M ∧ Out x r := by
  have key : Wp (den_wrong_with_heights [some x, none, none, none, none, none, none, none] M) (WP x M) := by
    unfold den_wrong_with_heights
    have s1 : m_is_side_long [x] M = ok (.bl (sl x)) M := side_b hx
    have c1 : tstD (fnD m_is_side_long 1 [] (consA (nameD 0) (nilA))) [some x, none, none, none, none, none, none, none] M = ok (.bl (sl x)) M := by
      unfold tstD
      rw [show fnD m_is_side_long 1 [] (consA (nameD 0) (nilA)) [some x, none, none, none, none, none, none, none] M = m_is_side_long [x] M from rfl, s1]
      rfl
    cases hs : sl x with
    | false =>
      rw [hs] at c1
      exact wp_seq (wp_of (.rt (.str "heights")) (M' := M) (by
        unfold ifS orD brD unD
        rw [c1]
        rfl) (.inr ⟨(fun _ z => nomatch z), wp_str (.inr (.inl ⟨rfl, fun g => by
        obtain ⟨w, h, H, w1, w2, h1, h2, rim, e⟩ := g
        rw [e] at hs
        have : sl (tabD w h (hD H)) = true := decide_eq_true ⟨by rw [List.length_map, List.length_range]; exact h1, by rw [List.length_map, List.length_range]; exact h2⟩
        rw [this] at hs
        cases hs⟩))⟩))
    | true =>
      rw [hs] at c1
      obtain ⟨rows, rfl, h1, h2⟩ := sl_iff.mp hs
      obtain ⟨r0, h0⟩ : ∃ r0, rows[0]? = some r0 := ⟨rows[0], List.getElem?_eq_getElem (by omega)⟩
      have hx' : okBs B rows = true := hx
      have o0 : okB B r0 = true := okBs_all.mp hx' _ (List.mem_of_getElem? h0)
      have i0 : ixF (.tup rows) (.int 0) M = ok r0 M := ix_tup (at_nat (n := 0) h0)
      have s2 : m_is_side_long [r0] M = ok (.bl (sl r0)) M := side_b o0
      have b0 : ∀ e : DL.Env, e[0]? = some (some (D.tup rows)) → binD ixF (nameD 0) (cD (.int 0)) e M = ok r0 M := fun e he => (bin_v (a := .tup rows) (b := .int 0) (M1 := M) (M2 := M) (by
        unfold nameD
        rw [he]) rfl).trans i0
      have c2 : tstD (fnD m_is_side_long 1 [] (consA (binD ixF (nameD 0) (cD (.int 0))) (nilA))) [some (.tup rows), none, none, none, none, none, none, none] M = ok (.bl (sl r0)) M := by
        have q : fnD m_is_side_long 1 [] (consA (binD ixF (nameD 0) (cD (.int 0))) (nilA)) [some (.tup rows), none, none, none, none, none, none, none] M = ok (.bl (sl r0)) M := by
          unfold fnD consA nilA
          rw [b0 _ rfl]
          exact s2
        unfold tstD
        rw [q]
        rfl
      have cnd : orD (unD notF (tstD (fnD m_is_side_long 1 [] (consA (nameD 0) (nilA))))) (unD notF (tstD (fnD m_is_side_long 1 [] (consA (binD ixF (nameD 0) (cD (.int 0))) (nilA))))) [some (.tup rows), none, none, none, none, none, none, none] M = ok (.bl (!sl r0)) M := by
        unfold orD brD unD
        rw [c1]
        show bindE (tstD _ _ M) notF = _
        rw [c2]
        rfl
      cases hs2 : sl r0 with
      | false =>
        rw [hs2] at cnd
        exact wp_seq (wp_of (.rt (.str "heights")) (M' := M) (by
          unfold ifS
          rw [cnd]
          rfl) (.inr ⟨(fun _ z => nomatch z), wp_str (.inr (.inl ⟨rfl, fun g => by
          obtain ⟨w, H, ww, hh, rim, hr⟩ := gh_rows g
          have e0 := hr 0 (by omega)
          rw [h0] at e0
          rw [Option.some.inj e0] at hs2
          have : sl (rowD w fun x => hD H x 0) = true := decide_eq_true ⟨by rw [List.length_map, List.length_range]; exact ww.1, by rw [List.length_map, List.length_range]; exact ww.2⟩
          rw [this] at hs2
          cases hs2⟩))⟩))
      | true =>
        rw [hs2] at cnd
        obtain ⟨ds, rfl, w1, w2⟩ := sl_iff.mp hs2
        have od : okBs B ds = true := o0
        obtain ⟨f0, hf⟩ : ∃ f0, ds[0]? = some f0 := ⟨ds[0], List.getElem?_eq_getElem (by omega)⟩
        have of : okB B f0 = true := okBs_all.mp od _ (List.mem_of_getElem? hf)
        have i1 : ixF (.tup ds) (.int 0) M = ok f0 M := ix_tup (at_nat (n := 0) hf)
        obtain ⟨s, ws, os⟩ := wos_b (M := M) hx' h1 h2 h0 w1 w2
        refine wp_nx (e' := [some (.tup rows), none, none, none, none, none, none, none]) (M' := M) (by
          unfold ifS
          rw [cnd]
          rfl) ?_
        refine wp_nx (e' := [some (.tup rows), some f0, none, none, none, none, none, none]) (M' := M) (asg_v ((bin_v (b0 _ rfl) rfl).trans i1)) ?_
        have t := tn_int (M := M) (da := nameD 1) (e := [some (.tup rows), some f0, none, none, none, none, none, none]) of rfl
        have bad : ∀ (b : DenS) (dt : DenE), dt [some (.tup rows), some f0, none, none, none, none, none, none] M = ok (.bl true) M → ¬ Good (.tup rows) → Wp (seqS (ifS dt (retS (fnD m__wrong_or_steps 1 [] (consA (nameD 0) (nilA)))) (nilS)) b [some (.tup rows), some f0, none, none, none, none, none, none] M) (WP (.tup rows) M) := fun b dt q ng => wp_seq (wp_of (.rt (.str s)) (M' := M) (by
          unfold ifS
          rw [q]
          show thenS (m__wrong_or_steps [.tup rows] M) _ _ = _
          rw [ws]
          rfl) (.inr ⟨(fun _ z => nomatch z), wp_str (os ng)⟩))
        have g0' : Good (.tup rows) → ∃ (w : Nat) (H : Nat → Nat → Int), VH w rows.length H ∧ ds.length = w ∧ ∀ k, k < w → ds[k]? = some (.int (H k 0)) := fun g => by
          obtain ⟨w, h, H, v, e⟩ := g
          have e : D.tup rows = D.tup ((List.range h).map fun y => rowD w fun x => hD H x y) := e
          have e2 := D.tup.inj e
          have hl : rows.length = h := by rw [e2, List.length_map, List.length_range]
          have r0 : rows[0]? = some (rowD w fun x => hD H x 0) := by
            rw [e2, List.getElem?_map, List.getElem?_range (by have := v.h1; omega)]
            rfl
          rw [h0] at r0
          obtain ⟨q1, q2⟩ := row_at (Option.some.inj r0)
          rw [hl]
          exact ⟨w, H, v, q1, q2⟩
        cases hw : isWh f0 with
        | false =>
          rw [hw] at t
          exact bad _ _ (by
            unfold orD brD
            rw [t]
            rfl) fun g => by
            obtain ⟨w, H, v, q1, q2⟩ := g0' g
            have := q2 0 v.w1
            rw [hf] at this
            rw [Option.some.inj this] at hw
            cases hw
        | true =>
          obtain ⟨i, rfl⟩ := isWh_iff.mp hw
          rw [hw] at t
          obtain ⟨b, sb, sb2⟩ := bsteps_b (M := M) od w2 hf
          have md : binD (eqF) (binD fmodF (nameD 1) (cD (.int 2))) (cD (.int 1)) [some (.tup rows), some (.int i), none, none, none, none, none, none] M = ok (.bl (decide (i % 2 = 1))) M :=
            (bin_v (a := .int (i % 2)) (b := .int 1) (M1 := M) (M2 := M) ((bin_v (a := .int i) (b := .int 2) (M1 := M) (M2 := M) rfl rfl).trans (fmd (by decide))) rfl).trans eq_int
          have sb' : unD notF (tstD (fnD m_are_steps_beside 1 [] (consA (binD ixF (nameD 0) (cD (.int 0))) (nilA)))) [some (.tup rows), some (.int i), none, none, none, none, none, none] M = ok (.bl (!b)) M := by
            have q : fnD m_are_steps_beside 1 [] (consA (binD ixF (nameD 0) (cD (.int 0))) (nilA)) [some (.tup rows), some (.int i), none, none, none, none, none, none] M = ok (.bl b) M := by
              unfold fnD consA nilA
              rw [b0 _ rfl]
              exact sb
            unfold unD tstD
            rw [q]
            rfl
          by_cases ev : i % 2 = 1
          · rw [decide_eq_true ev] at md
            exact bad _ _ (by
              unfold orD brD
              rw [t, bindE_v]
              show brD _ _ _ _ _ = _
              unfold brD
              rw [md]
              rfl) fun g => by
              obtain ⟨w, H, v, q1, q2⟩ := g0' g
              have := q2 0 v.w1
              rw [hf] at this
              have e1 := D.int.inj (Option.some.inj this)
              have p := v.par 0 0 v.w1 v.h1
              omega
          · rw [decide_eq_false ev] at md
            have cn3 : orD (binD (isF true) (callD (typF) (consA (nameD 1) (nilA))) (cD (.ty "int"))) (orD (binD (eqF) (binD fmodF (nameD 1) (cD (.int 2))) (cD (.int 1))) (unD notF (tstD (fnD m_are_steps_beside 1 [] (consA (binD ixF (nameD 0) (cD (.int 0))) (nilA)))))) [some (.tup rows), some (.int i), none, none, none, none, none, none] M = ok (.bl (!b)) M := by
              unfold orD brD
              rw [t, bindE_v]
              show brD _ _ _ _ _ = _
              unfold brD
              rw [md]
              exact sb'
            cases b with
            | false =>
              exact bad _ _ cn3 fun g => by
                obtain ⟨w, H, v, q1, q2⟩ := g0' g
                have := sb2.mpr ⟨fun k => H k 0, fun k hk => q2 k (by omega), fun k hk => v.sx k 0 (by omega) v.h1⟩
                cases this
            | true =>
              obtain ⟨G, gG, gs⟩ := sb2.mp rfl
              have g0 : G 0 = i := by
                have := gG 0 (by omega)
                rw [hf] at this
                exact (D.int.inj (Option.some.inj this)).symm
              obtain ⟨wd, hwd⟩ : ∃ wd, wd = ds.length := ⟨_, rfl⟩
              have er0 : (.tup ds : D) = rowD wd fun x => .int (G x) := row_ints hwd.symm (by rw [hwd]; exact gG)
              refine wp_nx (e' := [some (.tup rows), some (.int i), none, none, none, none, none, none]) (M' := M) (by
                unfold ifS
                rw [cn3]
                rfl) ?_
              refine wp_nx (e' := [some (.tup rows), some (.int i), some (.int (wd : Int)), none, none, none, none, none]) (M' := M) (asg_v (by
                show bindE (bindE (binD ixF (nameD 0) (cD (.int 0)) _ M) fun d M1 => bindE (ok [] M1) fun ds M2 => ok (d :: ds) M2) lenF = _
                rw [b0 _ rfl, hwd]
                rfl)) ?_
              refine wp_nx (e' := [some (.tup rows), some (.int i), some (.int (wd : Int)), some (.tup ds), none, none, none, none]) (M' := M) (asg_v (b0 _ rfl)) ?_
              have sd : slpD (nameD 0) (someO (cD (.int 1))) (noneO) (noneO) [some (.tup rows), some (.int i), some (.int (wd : Int)), some (.tup ds), none, none, none, none] M = ok (.tup (rows.drop 1)) M := slp_dropT (k := 1) (K := 1) rfl rfl rfl h1 (by omega)
              refine wp_forR_nx (rows.drop 1) (fun j e M' => M' = M ∧ ∃ (H : Nat → Nat → Int) (a4 a5 a6 a7 : Option D), Up wd (j + 1) rows H ∧ H 0 0 = i ∧ e = [some (.tup rows), some (.int i), some (.int (wd : Int)), some (rowD wd fun x => .int (H x j)), a4, a5, a6, a7]) (it_tup sd) (fun j d e M' hj hi => ?_) (fun _ _ _ => trivial) ⟨rfl, fun x _ => G x, _, _, _, _, ⟨fun y hy => by
                  obtain rfl : y = 0 := by omega
                  rw [h0, er0], fun x y hx hy => gs x (by omega), fun x y hx hy => by omega⟩, g0, by rw [er0]⟩ (fun e' M' hi => ?_)
              · obtain ⟨rfl, H, a4, a5, a6, a7, up, hh0, rfl⟩ := hi
                rw [List.getElem?_drop] at hj
                rw [Nat.add_comm] at hj
                have od2 : okB B d = true := okBs_all.mp hx' d (List.mem_of_getElem? hj)
                refine ⟨trivial, [some (.tup rows), some (.int i), some (.int (wd : Int)), some (rowD wd fun x => .int (H x j)), some d, a5, a6, a7], M', rfl, ?_⟩
                have t2 := tn_tup (M := M') (da := nameD 4) (e := [some (.tup rows), some (.int i), some (.int (wd : Int)), some (rowD wd fun x => .int (H x j)), some d, a5, a6, a7]) od2 rfl
                cases hw2 : isTp d with
                | false =>
                  rw [hw2] at t2
                  refine wp_seq (wp_of (.rt (.str "heights")) (M' := M') (by
                    unfold ifS orD brD
                    rw [t2]
                    rfl) (.inr ⟨(fun _ z => nomatch z), .inr ⟨_, rfl, wp_str (.inr (.inl ⟨rfl, fun g => by
                    obtain ⟨w, H, _, e⟩ := gh_row g hj
                    rw [e] at hw2
                    cases hw2⟩))⟩⟩))
                | true =>
                  obtain ⟨es, rfl⟩ := isTp_iff.mp hw2
                  rw [hw2] at t2
                  have cn4 : orD (binD (isF true) (callD (typF) (consA (nameD 4) (nilA))) (cD (.ty "tuple"))) (binD (neF) (callD (lenF) (consA (nameD 4) (nilA))) (nameD 2)) [some (.tup rows), some (.int i), some (.int (wd : Int)), some (rowD wd fun x => .int (H x j)), some (.tup es), a5, a6, a7] M' = ok (.bl (!decide ((es.length : Int) = (wd : Int)))) M' := by
                    unfold orD brD
                    rw [t2, bindE_v]
                    exact (bin_v (a := .int (es.length : Int)) (b := .int (wd : Int)) (M1 := M') (M2 := M') rfl rfl).trans ne_int
                  by_cases hl : es.length = wd
                  · have e1 : (!decide ((es.length : Int) = (wd : Int))) = false := by rw [decide_eq_true (by omega)]; rfl
                    rw [e1] at cn4
                    refine wp_nx (e' := [some (.tup rows), some (.int i), some (.int (wd : Int)), some (rowD wd fun x => .int (H x j)), some (.tup es), a5, a6, a7]) (M' := M') (by
                      unfold ifS
                      rw [cn4]
                      rfl) ?_
                    have hw1 : 1 ≤ wd := by omega
                    refine wp_nx (e' := [some (.tup rows), some (.int i), some (.int (wd : Int)), some (rowD wd fun x => .int (H x j)), some (.tup es), some (.int (H 0 j)), a6, a7]) (M' := M') (asg_v ((bin_v (a := rowD wd fun x => .int (H x j)) (b := .int 0) (M1 := M') (M2 := M') rfl rfl).trans (ix_row0 (by omega)))) ?_
                    have orow : okBs B ((List.range wd).map fun x => D.int (H x j)) = true := by
                      have q := okBs_all.mp hx' _ (List.mem_of_getElem? (up.at_ j (by omega)))
                      exact q
                    obtain ⟨f, M2, r1, rfl, r2⟩ := wrow (w := wd) (F := i) (a6 := a6) (a7 := a7) (S := fun x => H x j) hB hx' (show okBs B es = true from od2) h1 h2 h0 hw1 (by omega) hwd.symm hl (fun k hk => by
                      have := okBs_all.mp orow (.int (H k j)) (List.mem_map.mpr ⟨k, List.mem_range.mpr hk, rfl⟩)
                      exact of_decide_eq_true this) (up.at_ j (by omega)) hj (M := M')
                    rcases r2 with ⟨c5, c6, c7, rfl, Gn, n1, n2, n3⟩ | ⟨_, r, rfl, r3, r4⟩
                    · refine wp_nx r1 ?_
                      have er : (.tup es : D) = rowD wd fun x => .int (Gn x) := row_ints hl n1
                      refine wp_of (.nx [some (.tup rows), some (.int i), some (.int (wd : Int)), some (.tup es), some (.tup es), c5, c6, c7]) (M' := M2) rfl (.inl ⟨_, .inl rfl, rfl, fun x y => if y = j + 1 then Gn x else H x y, some (.tup es), c5, c6, c7, ⟨fun y hy => ?_, fun x y hx hy => ?_, fun x y hx hy => ?_⟩, ?_, ?_⟩)
                      · by_cases e : y = j + 1
                        · rw [e, hj, er]
                          congr 2
                          funext x
                          show D.int (Gn x) = D.int (if j + 1 = j + 1 then Gn x else H x (j + 1))
                          rw [if_pos rfl]
                        · rw [up.at_ y (by omega)]
                          congr 2
                          funext x
                          show D.int (H x y) = D.int (if y = j + 1 then Gn x else H x y)
                          rw [if_neg e]
                      · show ((if y = j + 1 then Gn (x + 1) else H (x + 1) y) - (if y = j + 1 then Gn x else H x y)).natAbs = 1
                        by_cases e : y = j + 1
                        · rw [if_pos e, if_pos e]
                          exact n3 x hx
                        · rw [if_neg e, if_neg e]
                          exact up.sx x y hx (by omega)
                      · show ((if y + 1 = j + 1 then Gn x else H x (y + 1)) - (if y = j + 1 then Gn x else H x y)).natAbs = 1
                        rw [if_neg (by omega : ¬ y = j + 1)]
                        by_cases e : y + 1 = j + 1
                        · rw [if_pos e]
                          obtain rfl : y = j := by omega
                          exact n2 x hx
                        · rw [if_neg e]
                          exact up.sy x y hx (by omega)
                      · show (if 0 = j + 1 then Gn 0 else H 0 0) = i
                        rw [if_neg (by omega)]
                        exact hh0
                      · show _ = [some (D.tup rows), some (.int i), some (.int (wd : Int)), some (rowD wd fun x => D.int (if j + 1 = j + 1 then Gn x else H x (j + 1))), some (.tup es), c5, c6, c7]
                        simp only [if_true]
                        rw [er]
                    · exact wp_seq ⟨_, _, r1, .inr ⟨(fun _ z => nomatch z), .inr ⟨r, rfl, rfl, r, rfl, r3, r4⟩⟩⟩
                  · have e1 : (!decide ((es.length : Int) = (wd : Int))) = true := by rw [decide_eq_false (by omega)]; rfl
                    rw [e1] at cn4
                    refine wp_seq (wp_of (.rt (.str "heights")) (M' := M') (by
                      unfold ifS
                      rw [cn4]
                      rfl) (.inr ⟨(fun _ z => nomatch z), .inr ⟨_, rfl, wp_str (.inr (.inl ⟨rfl, fun g => by
                      obtain ⟨w, H, hr, e⟩ := gh_row g hj
                      have e0 := hr 0 (by omega)
                      rw [h0] at e0
                      exact absurd ((row_at e).1.trans ((row_at (Option.some.inj e0)).1.symm.trans hwd.symm)) hl⟩))⟩⟩))
              · obtain ⟨rfl, H, a4, a5, a6, a7, up, hh0, rfl⟩ := hi
                have hln : (rows.drop 1).length + 1 = rows.length := by rw [List.length_drop]; omega
                rw [hln] at up
                have hw1 : 1 ≤ wd := by omega
                have hw2 : wd ≤ 11 := by omega
                have ev0 : H 0 0 % 2 = 0 := by omega
                obtain ⟨A, hA⟩ : ∃ A : Int, A = (i.natAbs : Int) := ⟨_, rfl⟩
                obtain ⟨E, hE⟩ : ∃ E : DL.Env, E = [some (.tup rows), some (.int i), some (.int (wd : Int)), some (rowD wd fun x => .int (H x (rows.drop 1).length)), a4, a5, a6, a7] := ⟨_, rfl⟩
                have le1 : binD (leF) (binD subF (binD addF (binD addF (callD (absF) (consA (nameD 1) (nilA))) (nameD 2)) (callD (lenF) (consA (nameD 0) (nilA)))) (cD (.int 2))) (cD (.int (35))) E M' = ok (.bl (decide (A + (wd : Int) + (rows.length : Int) - 2 ≤ 35))) M' := by
                  have q1 : callD (absF) (consA (nameD 1) (nilA)) E M' = ok (.int A) M' := by
                    rw [hE]
                    exact abs_is hA
                  have q2 : binD addF (callD (absF) (consA (nameD 1) (nilA))) (nameD 2) E M' = ok (.int (A + (wd : Int))) M' := (bin_v q1 (by rw [hE]; rfl)).trans rfl
                  have q3 : callD (lenF) (consA (nameD 0) (nilA)) E M' = ok (.int (rows.length : Int)) M' := by
                    rw [hE]
                    rfl
                  have q4 := (bin_v (f := addF) q2 q3).trans (show addF _ _ M' = ok (.int (A + (wd : Int) + (rows.length : Int))) M' from rfl)
                  have q5 := (bin_v (f := subF) q4 (show cD (.int 2) E M' = ok (.int 2) M' from rfl)).trans (show subF _ _ M' = ok (.int (A + (wd : Int) + (rows.length : Int) - 2)) M' from rfl)
                  exact (bin_v (f := leF) q5 (show cD (.int 35) E M' = ok (.int 35) M' from rfl)).trans le_int
                rw [← hE]
                by_cases lo : A + (wd : Int) + (rows.length : Int) - 2 ≤ 35
                · rw [decide_eq_true lo] at le1
                  refine wp_seq (wp_of (.rt .non) (M' := M') (by
                    unfold ifS orD brD
                    rw [le1]
                    rfl) (.inr ⟨(fun _ z => nomatch z), rfl, .non, rfl, .inl ⟨rfl, ?_⟩, .inl rfl⟩))
                  exact up.good rfl hw1 hw2 h1 h2 ev0 fun x y hx hy _ => by
                    have := (up.all hw1 y hy x hx).1
                    omega
                · rw [decide_eq_false lo] at le1
                  obtain ⟨b, rb, rb2⟩ := rimlow_b (M := M') (H := H) hw1 hw2 h1 h2
                  rw [← up.tab rfl] at rb
                  have cn5 : orD (binD (leF) (binD subF (binD addF (binD addF (callD (absF) (consA (nameD 1) (nilA))) (nameD 2)) (callD (lenF) (consA (nameD 0) (nilA)))) (cD (.int 2))) (cD (.int (35)))) (tstD (fnD m_is_rim_low 1 [] (consA (nameD 0) (nilA)))) E M' = ok (.bl b) M' := by
                    unfold orD brD
                    rw [le1, bindE_v]
                    show tstD _ E M' = _
                    unfold tstD
                    rw [show fnD m_is_rim_low 1 [] (consA (nameD 0) (nilA)) E M' = m_is_rim_low [.tup rows] M' by rw [hE]; rfl, rb]
                    rfl
                  cases b with
                  | true =>
                    refine wp_seq (wp_of (.rt .non) (M' := M') (by
                      unfold ifS
                      rw [cn5]
                      rfl) (.inr ⟨(fun _ z => nomatch z), rfl, .non, rfl, .inl ⟨rfl, ?_⟩, .inl rfl⟩))
                    exact up.good rfl hw1 hw2 h1 h2 ev0 (rb2.mp rfl)
                  | false =>
                    refine wp_nx (e' := E) (M' := M') (by
                      unfold ifS
                      rw [cn5]
                      rfl) ?_
                    exact wp_of (.rt (.str "heights")) (M' := M') rfl (wp_str (.inr (.inl ⟨rfl, fun g => by
                      have utab := up.tab rfl
                      obtain ⟨w, H', ww, hh, rim, hr⟩ := gh_rows g
                      have := rb2.mpr fun x y hx hy hb => by
                        have a1 := up.at_ y hy
                        rw [hr y hy] at a1
                        have a1 : D.tup ((List.range w).map fun x => D.int (H' x y)) = rowD wd fun x => hD H x y := Option.some.inj a1
                        obtain ⟨q1, q2⟩ := row_at a1
                        rw [List.length_map, List.length_range] at q1
                        have := q2 x hx
                        rw [List.getElem?_map, List.getElem?_range (by omega)] at this
                        have := D.int.inj (Option.some.inj this)
                        rw [← this]
                        exact rim x y (by omega) hy (by rw [q1]; exact hb)
                      cases this⟩)))
  obtain ⟨f, M', q, rfl, r, rfl, h1, h2⟩ := key
  exact ⟨r, fv_rt0 (e0 := [some x, none, none, none, none, none, none, none]) rfl q (by rcases h2 with rfl | ⟨s, rfl⟩ <;> rfl), h1⟩
end
end K02
namespace K02
open PySem L2 DL
section
variable {B w h n : Nat} {q : D} {M : Store} {rows : List D} {e : DL.Env} {da db : DenE} {a b : Bool}
theorem or_v (h1 : da e M = ok (.bl a) M) (h2 : a = false → db e M = ok (.bl b) M) : orD da db e M = ok (.bl (a || b)) M := by
  unfold orD brD
  rw [h1, bindE_v]
  cases a with
  | true => rfl
  | false => exact h2 rfl
theorem if_t {d1 d2 : DenS} (h1 : da e M = ok (.bl true) M) : ifS da d1 d2 e M = d1 e M := by
  unfold ifS
  rw [h1]
  rfl
theorem if_f {d1 d2 : DenS} (h1 : da e M = ok (.bl false) M) : ifS da d1 d2 e M = d2 e M := by
  unfold ifS
  rw [h1]
  rfl
noncomputable abbrev worB : DenS := seqS (ifS (orD (binD (isF true) (callD (typF) (consA (nameD 5) (nilA))) (cD (.ty "tuple"))) (binD (neF) (callD (lenF) (consA (nameD 5) (nilA))) (cD (.int 2)))) (retS (cD (.bl false))) (nilS)) (seqS (asgG (nameD 5) (tupG 2 (consG (nameG 6) (consG (nameG 7) (nilG))))) (seqS (ifS (orD (binD (isF true) (callD (typF) (consA (nameD 6) (nilA))) (cD (.ty "int"))) (binD (isF true) (callD (typF) (consA (nameD 7) (nilA))) (cD (.ty "int")))) (retS (cD (.bl false))) (nilS)) (ifS (binD (eqF) (nameD 7) (cD (.int 1))) (ifS (binD (eqF) (nameD 6) (cD (.int 0))) (retS (cD (.bl false))) (nilS)) (ifS (orD (binD (ltF) (nameD 7) (cD (.int 1))) (binD (neF) (callD gcdF (consA (nameD 6) (consA (nameD 7) (nilA)))) (cD (.int 1)))) (retS (cD (.bl false))) (nilS)))))
theorem wor_b {d : D} {a0 a1 a2 a3 a4 a6 a7 : Option D} (od : okB B d = true) : Wp (worB [a0, a1, a2, a3, a4, some d, a6, a7] M) fun f M' => M' = M ∧ ((goodW d ∧ ∃ a6 a7, f = .nx [a0, a1, a2, a3, a4, some d, a6, a7]) ∨ (f = .rt (.bl false) ∧ ¬ goodW d)) := by
  have bad : ∀ {b : DenS} {dt : DenE} {E : DL.Env} {P : Flw → Store → Prop}, dt E M = ok (.bl true) M → P (.rt (.bl false)) M → Wp (seqS (ifS dt (retS (cD (.bl false))) (nilS)) b E M) P := fun q p => wp_seq (wp_of (.rt (.bl false)) (M' := M) ((if_t q).trans rfl) (.inr ⟨(fun _ z => nomatch z), p⟩))
  have t := tn_tup (M := M) (da := nameD 5) (e := [a0, a1, a2, a3, a4, some d, a6, a7]) od rfl
  cases hw : isTp d with
  | false =>
    rw [hw] at t
    refine bad (or_v (b := true) t (fun z => nomatch z)) ⟨rfl, .inr ⟨rfl, fun ⟨x, y, e, _⟩ => ?_⟩⟩
    rw [e] at hw
    cases hw
  | true =>
    obtain ⟨ds, rfl⟩ := isTp_iff.mp hw
    rw [hw] at t
    have ln := (bin_v (f := neF) (a := .int (ds.length : Int)) (b := .int 2) (M := M) (M1 := M) (M2 := M) (e := [a0, a1, a2, a3, a4, some (.tup ds), a6, a7]) (da := callD (lenF) (consA (nameD 5) (nilA))) (db := cD (.int 2)) rfl rfl).trans ne_int
    have cn := or_v t (fun _ => ln)
    by_cases hl : ds.length = 2
    · rw [decide_eq_true (by omega : (ds.length : Int) = 2)] at cn
      obtain ⟨p, r, rfl⟩ : ∃ p r, ds = [p, r] := by
        match ds, hl with
        | [p, r], _ => exact ⟨p, r, rfl⟩
      have op : okB B p = true := okBs_all.mp od p (by simp)
      have or : okB B r = true := okBs_all.mp od r (by simp)
      refine wp_nx (e' := [a0, a1, a2, a3, a4, some (.tup [p, r]), a6, a7]) (M' := M) ((if_f cn).trans rfl) ?_
      refine wp_nx (e' := [a0, a1, a2, a3, a4, some (.tup [p, r]), some p, some r]) (M' := M) rfl ?_
      have t1 := tn_int (M := M) (da := nameD 6) (e := [a0, a1, a2, a3, a4, some (.tup [p, r]), some p, some r]) op rfl
      have t2 := tn_int (M := M) (da := nameD 7) (e := [a0, a1, a2, a3, a4, some (.tup [p, r]), some p, some r]) or rfl
      have c2 := or_v t1 (fun _ => t2)
      by_cases hi : isWh p = true ∧ isWh r = true
      · obtain ⟨i, rfl⟩ := isWh_iff.mp hi.1
        obtain ⟨j, rfl⟩ := isWh_iff.mp hi.2
        refine wp_nx (e' := [a0, a1, a2, a3, a4, some (.tup [.int i, .int j]), some (.int i), some (.int j)]) (M' := M) ((if_f c2).trans rfl) ?_
        have e7 := (bin_v (f := eqF) (a := .int j) (b := .int 1) (M := M) (M1 := M) (M2 := M) (e := [a0, a1, a2, a3, a4, some (.tup [.int i, .int j]), some (.int i), some (.int j)]) (da := nameD 7) (db := cD (.int 1)) rfl rfl).trans eq_int
        have e6 := (bin_v (f := eqF) (a := .int i) (b := .int 0) (M := M) (M1 := M) (M2 := M) (e := [a0, a1, a2, a3, a4, some (.tup [.int i, .int j]), some (.int i), some (.int j)]) (da := nameD 6) (db := cD (.int 0)) rfl rfl).trans eq_int
        have l7 := (bin_v (f := ltF) (a := .int j) (b := .int 1) (M := M) (M1 := M) (M2 := M) (e := [a0, a1, a2, a3, a4, some (.tup [.int i, .int j]), some (.int i), some (.int j)]) (da := nameD 7) (db := cD (.int 1)) rfl rfl).trans lt_int
        have gc := (bin_v (f := neF) (a := .int ((Nat.gcd i.natAbs j.natAbs : Nat) : Int)) (b := .int 1) (M := M) (M1 := M) (M2 := M) (e := [a0, a1, a2, a3, a4, some (.tup [.int i, .int j]), some (.int i), some (.int j)]) (da := callD gcdF (consA (nameD 6) (consA (nameD 7) (nilA)))) (db := cD (.int 1)) rfl rfl).trans ne_int
        have gw : goodW (.tup [.int i, .int j]) ↔ 1 ≤ j ∧ Nat.gcd i.natAbs j.natAbs = 1 ∧ i ≠ 0 := ⟨fun ⟨a, b, e, q⟩ => by
          have e1 := List.cons.inj (D.tup.inj e)
          have e2 := List.cons.inj e1.2
          rw [D.int.inj e1.1, D.int.inj e2.1]
          exact q, fun q => ⟨i, j, rfl, q⟩⟩
        by_cases j1 : j = 1
        · rw [decide_eq_true j1] at e7
          by_cases i0 : i = 0
          · rw [decide_eq_true i0] at e6
            refine wp_of (.rt (.bl false)) (M' := M) ((if_t e7).trans ((if_t e6).trans rfl)) ⟨rfl, .inr ⟨rfl, fun g => (gw.mp g).2.2 i0⟩⟩
          · rw [decide_eq_false i0] at e6
            refine wp_of (.nx _) (M' := M) ((if_t e7).trans ((if_f e6).trans rfl)) ⟨rfl, .inl ⟨gw.mpr ⟨by omega, by rw [j1]; exact Nat.gcd_one_right _, i0⟩, _, _, rfl⟩⟩
        · rw [decide_eq_false j1] at e7
          have c3 := or_v l7 (fun _ => gc)
          by_cases lo : j < 1
          · rw [decide_eq_true lo] at c3
            refine wp_of (.rt (.bl false)) (M' := M) ((if_f e7).trans ((if_t c3).trans rfl)) ⟨rfl, .inr ⟨rfl, fun g => ?_⟩⟩
            have := (gw.mp g).1
            omega
          · rw [decide_eq_false lo] at c3
            by_cases g1 : Nat.gcd i.natAbs j.natAbs = 1
            · rw [decide_eq_true (by omega : ((Nat.gcd i.natAbs j.natAbs : Nat) : Int) = 1)] at c3
              refine wp_of (.nx _) (M' := M) ((if_f e7).trans ((if_f c3).trans rfl)) ⟨rfl, .inl ⟨gw.mpr ⟨by omega, g1, fun z => ?_⟩, _, _, rfl⟩⟩
              rw [z] at g1
              have : Nat.gcd (0 : Int).natAbs j.natAbs = j.natAbs := Nat.gcd_zero_left _
              omega
            · rw [decide_eq_false (by omega : ¬ ((Nat.gcd i.natAbs j.natAbs : Nat) : Int) = 1)] at c3
              exact wp_of (.rt (.bl false)) (M' := M) ((if_f e7).trans ((if_t c3).trans rfl)) ⟨rfl, .inr ⟨rfl, fun g => g1 (gw.mp g).2.1⟩⟩
      · have c2' : (!isWh p || !isWh r) = true := by
          cases h1 : isWh p with
          | false => rfl
          | true =>
            cases h2 : isWh r with
            | false => rfl
            | true => exact absurd ⟨h1, h2⟩ hi
        rw [c2'] at c2
        refine bad c2 ⟨rfl, .inr ⟨rfl, fun ⟨x, y, e, _⟩ => ?_⟩⟩
        have e1 := List.cons.inj (D.tup.inj e)
        have e2 := List.cons.inj e1.2
        rw [e1.1, e2.1] at hi
        exact hi ⟨rfl, rfl⟩
    · rw [decide_eq_false (by omega : ¬ (ds.length : Int) = 2)] at cn
      refine bad cn ⟨rfl, .inr ⟨rfl, fun ⟨x, y, e, _⟩ => ?_⟩⟩
      rw [D.tup.inj e] at hl
      exact hl rfl
/-- worths of this board -/
def GW (w h : Nat) (q : D) : Prop := ∃ g, q = tabD w h g ∧ goodU w h g
theorem gw_row {y : Nat} {d : D} (g : GW w h (.tup rows)) (hd : rows[y]? = some d) : ∃ es, d = .tup es ∧ es.length = w ∧ ∀ (x : Nat) (c : D), es[x]? = some c → goodW c := by
  obtain ⟨g, e, gu⟩ := g
  have e : D.tup rows = D.tup ((List.range h).map fun y => rowD w fun x => g x y) := e
  have e2 := D.tup.inj e
  have hl : rows.length = h := by rw [e2, List.length_map, List.length_range]
  have lt := get_lt hd
  have := hd
  rw [e2, List.getElem?_map, List.getElem?_range (by omega)] at this
  refine ⟨_, (Option.some.inj this).symm, by rw [List.length_map, List.length_range], fun x c hc => ?_⟩
  have lx := get_lt hc
  rw [List.length_map, List.length_range] at lx
  rw [List.getElem?_map, List.getElem?_range lx] at hc
  rw [← Option.some.inj hc]
  exact gu x y lx (by omega)
theorem wrows_b (hq : okB B q = true) : ∃ b, m_are_worth_rows [q, szD w h] M = ok (.bl b) M ∧ (b = true ↔ GW w h q) := by
  have tq := tupof_b (n := h) (M := M) hq
  have key : Wp (den_are_worth_rows [some q, some (szD w h), none, none, none, none, none, none] M) fun f M' => M' = M ∧ ∃ b, f = .rt (.bl b) ∧ (b = true ↔ GW w h q) := by
    unfold den_are_worth_rows
    refine wp_nx (e' := [some q, some (szD w h), some (.int (w : Int)), some (.int (h : Int)), none, none, none, none]) (M' := M) rfl ?_
    have bad : ∀ {b : DenS} {dt : DenE} {E : DL.Env} {P : Flw → Store → Prop}, dt E M = ok (.bl true) M → P (.rt (.bl false)) M → Wp (seqS (ifS dt (retS (cD (.bl false))) (nilS)) b E M) P := fun q p => wp_seq (wp_of (.rt (.bl false)) (M' := M) ((if_t q).trans rfl) (.inr ⟨(fun _ z => nomatch z), p⟩))
    have c1 : unD notF (tstD (fnD m_is_tuple_of 2 [] (consA (nameD 0) (consA (nameD 3) (nilA))))) [some q, some (szD w h), some (.int (w : Int)), some (.int (h : Int)), none, none, none, none] M = ok (.bl (!tupN h q)) M := by
      unfold unD tstD
      rw [show fnD m_is_tuple_of 2 [] (consA (nameD 0) (consA (nameD 3) (nilA))) [some q, some (szD w h), some (.int (w : Int)), some (.int (h : Int)), none, none, none, none] M = m_is_tuple_of [q, .int (h : Int)] M from rfl, tq]
      rfl
    cases ht : tupN h q with
    | false =>
      rw [ht] at c1
      refine bad c1 ⟨rfl, false, rfl, (fun z => nomatch z), fun ⟨g, e, _⟩ => ?_⟩
      have : tupN h q = true := tupN_iff.mpr ⟨_, e, by rw [List.length_map, List.length_range]⟩
      rw [ht] at this
      cases this
    | true =>
      rw [ht] at c1
      obtain ⟨rows, rfl, hl⟩ := tupN_iff.mp ht
      have hx' : okBs B rows = true := hq
      refine wp_nx (e' := [some (.tup rows), some (szD w h), some (.int (w : Int)), some (.int (h : Int)), none, none, none, none]) (M' := M) ((if_f c1).trans rfl) ?_
      refine wp_forR_nx rows (fun j e M' => M' = M ∧ (∃ a4 a5 a6 a7, e = [some (.tup rows), some (szD w h), some (.int (w : Int)), some (.int (h : Int)), a4, a5, a6, a7]) ∧ ∀ (y : Nat) (d : D), y < j → rows[y]? = some d → ∃ es, d = .tup es ∧ es.length = w ∧ ∀ (x : Nat) (c : D), es[x]? = some c → goodW c) (it_tup rfl) (fun j d e M' hj hi => ?_) (fun _ _ _ => trivial) ⟨rfl, ⟨_, _, _, _, rfl⟩, fun _ _ z => absurd z (Nat.not_lt_zero _)⟩ (fun e' M' hi => ?_)
      · obtain ⟨rfl, ⟨a4, a5, a6, a7, rfl⟩, hall⟩ := hi
        have od : okB B d = true := okBs_all.mp hx' d (List.mem_of_getElem? hj)
        refine ⟨trivial, [some (.tup rows), some (szD w h), some (.int (w : Int)), some (.int (h : Int)), some d, a5, a6, a7], M', rfl, ?_⟩
        have t := tn_tup (M := M') (da := nameD 4) (e := [some (.tup rows), some (szD w h), some (.int (w : Int)), some (.int (h : Int)), some d, a5, a6, a7]) od rfl
        cases hw : isTp d with
        | false =>
          rw [hw] at t
          refine bad (or_v (b := true) t (fun z => nomatch z)) (.inr ⟨_, rfl, rfl, false, rfl, (fun z => nomatch z), fun g => ?_⟩)
          obtain ⟨es, e1, _⟩ := gw_row g hj
          rw [e1] at hw
          cases hw
        | true =>
          obtain ⟨es, rfl⟩ := isTp_iff.mp hw
          rw [hw] at t
          have ln := (bin_v (f := neF) (a := .int (es.length : Int)) (b := .int (w : Int)) (M := M') (M1 := M') (M2 := M') (e := [some (.tup rows), some (szD w h), some (.int (w : Int)), some (.int (h : Int)), some (.tup es), a5, a6, a7]) (da := callD (lenF) (consA (nameD 4) (nilA))) (db := nameD 2) rfl rfl).trans ne_int
          have cn := or_v t (fun _ => ln)
          by_cases hle : es.length = w
          · rw [decide_eq_true (by omega : (es.length : Int) = (w : Int))] at cn
            refine wp_nx (e' := [some (.tup rows), some (szD w h), some (.int (w : Int)), some (.int (h : Int)), some (.tup es), a5, a6, a7]) (M' := M') ((if_f cn).trans rfl) ?_
            refine wp_forR es (fun x e M2 => M2 = M' ∧ (∃ a5 a6 a7, e = [some (.tup rows), some (szD w h), some (.int (w : Int)), some (.int (h : Int)), some (.tup es), a5, a6, a7]) ∧ ∀ (x' : Nat) (c : D), x' < x → es[x']? = some c → goodW c) (it_tup rfl) (fun x c e M2 hc hi => ?_) (fun _ _ _ => trivial) ⟨rfl, ⟨_, _, _, rfl⟩, fun _ _ z => absurd z (Nat.not_lt_zero _)⟩ (fun e' M2 hi => ?_)
            · obtain ⟨rfl, ⟨a5, a6, a7, rfl⟩, hpre⟩ := hi
              have oc : okB B c = true := okBs_all.mp (show okBs B es = true from od) c (List.mem_of_getElem? hc)
              refine ⟨trivial, [some (.tup rows), some (szD w h), some (.int (w : Int)), some (.int (h : Int)), some (.tup es), some c, a6, a7], M2, rfl, ?_⟩
              obtain ⟨f, M3, q1, rfl, q2⟩ := wor_b (M := M2) (a0 := some (.tup rows)) (a1 := some (szD w h)) (a2 := some (.int (w : Int))) (a3 := some (.int (h : Int))) (a4 := some (.tup es)) (a6 := a6) (a7 := a7) oc
              rcases q2 with ⟨gw, b6, b7, rfl⟩ | ⟨rfl, ng⟩
              · exact ⟨_, _, q1, .inl ⟨_, .inl rfl, rfl, ⟨_, _, _, rfl⟩, fun x' c' hx' hc' => by
                  by_cases e : x' = x
                  · rw [e, hc] at hc'
                    rw [← Option.some.inj hc']
                    exact gw
                  · exact hpre x' c' (by omega) hc'⟩⟩
              · refine ⟨_, _, q1, .inr ⟨_, rfl, .inr ⟨_, rfl, rfl, false, rfl, (fun z => nomatch z), fun g => ?_⟩⟩⟩
                obtain ⟨es', e1, _, e3⟩ := gw_row g hj
                rw [← D.tup.inj e1] at e3
                exact absurd (e3 x c hc) ng
            · obtain ⟨rfl, ⟨a5, a6, a7, rfl⟩, hpre⟩ := hi
              refine .inl ⟨_, .inl rfl, rfl, ⟨_, _, _, _, rfl⟩, fun y d hy hd => ?_⟩
              by_cases e : y = j
              · rw [e, hj] at hd
                exact ⟨es, (Option.some.inj hd).symm, hle, fun x c hc => hpre x c (get_lt hc) hc⟩
              · exact hall y d (by omega) hd
          · rw [decide_eq_false (by omega : ¬ (es.length : Int) = (w : Int))] at cn
            refine bad cn (.inr ⟨_, rfl, rfl, false, rfl, (fun z => nomatch z), fun g => ?_⟩)
            obtain ⟨es', e1, e2, _⟩ := gw_row g hj
            rw [← D.tup.inj e1] at e2
            exact absurd e2 hle
      · obtain ⟨rfl, ⟨a4, a5, a6, a7, rfl⟩, hall⟩ := hi
        refine wp_of (.rt (.bl true)) (M' := M') rfl ⟨rfl, true, rfl, (fun _ => ⟨cellE rows, tab_of hl fun r hr => ?_, fun x y hx hy => ?_⟩), fun _ => rfl⟩
        · obtain ⟨y, hy⟩ := List.mem_iff_getElem?.mp hr
          obtain ⟨es, e1, e2, _⟩ := hall y r (get_lt hy) hy
          exact tupN_iff.mpr ⟨es, e1, e2⟩
        · have hy2 : rows[y]? = some rows[y] := List.getElem?_eq_getElem (by omega)
          obtain ⟨es, e1, e2, e3⟩ := hall y _ (by omega) hy2
          have hx2 : es[x]? = some es[x] := List.getElem?_eq_getElem (by omega)
          have := e3 x _ hx2
          unfold cellE
          rw [hy2, e1]
          show goodW (es[x]?.getD .non)
          rw [hx2]
          exact this
  obtain ⟨f, M', q1, rfl, b, rfl, q2⟩ := key
  exact ⟨b, fv_rt0 (e0 := [some q, some (szD w h), none, none, none, none, none, none]) rfl q1 rfl, q2⟩
end
end K02
namespace K02
open PySem L2 DL
section
variable {B w h n : Nat} {M : Store} {x r : D} {f g : Nat → Nat → D}
theorem tab_congr (q : ∀ x y, x < w → y < h → f x y = g x y) : tabD w h f = tabD w h g := by
  show D.tup ((List.range h).map fun y => rowD w fun x => f x y) = D.tup ((List.range h).map fun y => rowD w fun x => g x y)
  congr 1
  refine List.map_congr_left fun y hy => ?_
  show D.tup ((List.range w).map fun x => f x y) = D.tup ((List.range w).map fun x => g x y)
  congr 1
  exact List.map_congr_left fun x hx => q x y (List.mem_range.mp hx) (List.mem_range.mp hy)
theorem tab_inj {w' h' : Nat} {f g : Nat → Nat → D} (h1 : 1 ≤ h) (e : tabD w h f = tabD w' h' g) : w = w' ∧ h = h' ∧ ∀ x y, x < w → y < h → f x y = g x y := by
  have e : D.tup ((List.range h).map fun y => rowD w fun x => f x y) = D.tup ((List.range h').map fun y => rowD w' fun x => g x y) := e
  have e2 := D.tup.inj e
  have hl : h = h' := by
    have := congrArg List.length e2
    rwa [List.length_map, List.length_range, List.length_map, List.length_range] at this
  subst hl
  have row : ∀ y, y < h → (rowD w fun x => f x y) = rowD w' fun x => g x y := fun y hy => by
    have := congrArg (fun l : List D => l[y]?) e2
    have a : ((List.range h).map fun y => rowD w fun x => f x y)[y]? = some (rowD w fun x => f x y) := by
      rw [List.getElem?_map, List.getElem?_range hy]
      rfl
    have b : ((List.range h).map fun y => rowD w' fun x => g x y)[y]? = some (rowD w' fun x => g x y) := by
      rw [List.getElem?_map, List.getElem?_range hy]
      rfl
    rw [e2, b] at a
    exact (Option.some.inj a).symm
  have hw : w = w' := by
    have r := D.tup.inj (row 0 (by omega))
    have := congrArg List.length r
    rwa [List.length_map, List.length_range, List.length_map, List.length_range] at this
  subst hw
  refine ⟨rfl, rfl, fun x y hx hy => ?_⟩
  obtain ⟨_, q⟩ := row_at (w := w) (f := fun x => g x y) (row y hy)
  have := q x hx
  rw [List.getElem?_map, List.getElem?_range hx] at this
  exact Option.some.inj this
theorem out_no (o : Out x r) (g : ¬ GH x) : r = .str "heights" := by
  rcases o with ⟨_, q⟩ | ⟨e, _⟩ | ⟨_, q, _⟩
  · exact absurd (gh_of q) g
  · exact e
  · exact absurd q g
theorem out_st (o : Out x r) (g : GH x) (ng : ¬ Good x) : r = .str "steps" := by
  rcases o with ⟨_, q⟩ | ⟨_, q⟩ | ⟨e, _, _⟩
  · exact absurd q ng
  · exact absurd g q
  · exact e
theorem out_ok (o : Out x r) (g : Good x) : r = .non := by
  rcases o with ⟨e, _⟩ | ⟨_, q⟩ | ⟨_, _, q⟩
  · exact e
  · exact absurd (gh_of g) q
  · exact absurd g q
theorem wr_no (hB : B < 2 ^ 99) (hx : okB B x = true) (g : ¬ GH x) : m_wrong_with_heights [x] M = ok (.str "heights") M := by
  obtain ⟨r, q, o⟩ := wrong_b (M := M) hB hx
  rw [q, out_no o g]
theorem wr_st (hB : B < 2 ^ 99) (hx : okB B x = true) (g : GH x) (ng : ¬ Good x) : m_wrong_with_heights [x] M = ok (.str "steps") M := by
  obtain ⟨r, q, o⟩ := wrong_b (M := M) hB hx
  rw [q, out_st o g ng]
theorem wr_ok (hB : B < 2 ^ 99) (hx : okB B x = true) (g : Good x) : m_wrong_with_heights [x] M = ok .non M := by
  obtain ⟨r, q, o⟩ := wrong_b (M := M) hB hx
  rw [q, out_ok o g]
theorem wo_t (hx : okB B x = true) (g : GW w h x) : m_are_worth_rows [x, szD w h] M = ok (.bl true) M := by
  obtain ⟨b, q, o⟩ := wrows_b (w := w) (h := h) (M := M) hx
  rw [q, o.mpr g]
theorem wo_f (hx : okB B x = true) (g : ¬ GW w h x) : m_are_worth_rows [x, szD w h] M = ok (.bl false) M := by
  obtain ⟨b, q, o⟩ := wrows_b (w := w) (h := h) (M := M) hx
  cases b with
  | true => exact absurd (o.mp rfl) g
  | false => exact q
/-- the place of the first thing that is wrong -/
inductive Plc
  | fine | none | heights | steps | worths
def Plc.place : Plc → D
  | .fine => .non
  | .none => .non
  | .heights => .str "heights"
  | .steps => .str "steps"
  | .worths => .str "worths"
def Plc.lst : Plc → List D
  | .fine => []
  | p => [p.place]
def Plc.need (p : Plc) (M : Store) : RE := match p with
  | .fine => ok .non M
  | p => some (.exc "BadField" [("place", p.place)], M)
theorem fault_both (hB : B < 2 ^ 99) (hx : okB B x = true) : ∃ p : Plc, (∀ M, m_need_field [x] M = p.need M) ∧ ∀ M, m__law_fault [x] M = ok (.lst p.lst) M := by
  have s1 := fun M => isi_tup (M := M) hx
  have t := fun M => tupof_b (n := 2) (M := M) hx
  cases ht : tupN 2 x with
  | false =>
    refine ⟨.none, fun M => ?_, fun M => ?_⟩
    · have t' : ∀ M, m_is_tuple_of [x, .int 2] M = ok (.bl (tupN 2 x)) M := t
      exact fv_ex (e0 := [some x, none, none, none]) (e' := [some x, none, none, none]) [] rfl (by rw [List.append_nil]; simp [seqS, ifS, retS, raiseF, raiseS, consA, nilA, binD, callD, nameD, cD, bindE_v, thenS_v, bindE_x, thenS_x, unD, parS, asgS, tupD, int2F, eq_int, ne_int, intF0, negF, notF, nilS, brD, fnD, addE, subE, ix0, ix1, dropS, asgG, tupG, consG, nameG, nilG, lstD, andD, orD, tstD, ownS, appS, len_tup, len_lst, tup_tup, wipeE, set1, set2, typ_int, typ_tup, typ_non, typ_lst, isF, chainD, asT, truD, len_row, typ_row, den_need_field, t', ht]; rfl) rfl
    · cases hi : isTp x with
      | false => exact fv_rt0 (e0 := [some x, none]) rfl (by simp [seqS, ifS, retS, raiseF, raiseS, consA, nilA, binD, callD, nameD, cD, bindE_v, thenS_v, bindE_x, thenS_x, unD, parS, asgS, tupD, int2F, eq_int, ne_int, intF0, negF, notF, nilS, brD, fnD, addE, subE, ix0, ix1, dropS, asgG, tupG, consG, nameG, nilG, lstD, andD, orD, tstD, ownS, appS, len_tup, len_lst, tup_tup, wipeE, set1, set2, typ_int, typ_tup, typ_non, typ_lst, isF, chainD, asT, truD, len_row, typ_row, den__law_fault, s1, hi]; rfl) rfl
      | true =>
        obtain ⟨ds, rfl⟩ : ∃ ds, x = .tup ds := by
          cases x with
          | tup ds => exact ⟨ds, rfl⟩
          | _ => cases hi
        obtain ⟨V, hV⟩ : ∃ V, V = D.tup ds := ⟨_, rfl⟩
        obtain ⟨N, hN⟩ : ∃ N : Int, N = (ds.length : Int) := ⟨_, rfl⟩
        have lV : ∀ M, lenF [V] M = ok (.int N) M := fun M => by rw [hV, hN]; rfl
        have nN : ¬ N = 2 := fun z => of_decide_eq_false ht (by omega)
        rw [← hV] at s1 hi ⊢
        exact fv_rt0 (e0 := [some V, none]) rfl (by simp [seqS, ifS, retS, raiseF, raiseS, consA, nilA, binD, callD, nameD, cD, bindE_v, thenS_v, bindE_x, thenS_x, unD, parS, asgS, tupD, int2F, eq_int, ne_int, intF0, negF, notF, nilS, brD, fnD, addE, subE, ix0, ix1, dropS, asgG, tupG, consG, nameG, nilG, lstD, andD, orD, tstD, ownS, appS, len_tup, len_lst, tup_tup, wipeE, set1, set2, typ_int, typ_tup, typ_non, typ_lst, isF, chainD, asT, truD, len_row, typ_row, den__law_fault, s1, hi, lV, nN]; rfl) rfl
  | true =>
    obtain ⟨p, q, rfl⟩ := pair_of ht
    have op : okB B p = true := okBs_all.mp hx p (by simp)
    have oq : okB B q = true := okBs_all.mp hx q (by simp)
    have t' : ∀ M, m_is_tuple_of [.tup [p, q], .int 2] M = ok (.bl true) M := fun M => by rw [tupof_tup]; rfl
    have s1 : ∀ M, isiB subT [.tup [p, q], .ty "tuple"] M = ok (.bl true) M := s1
    by_cases hp : isTab p
    · obtain ⟨w, h, f, w1, w2, h1, h2, e⟩ := hp
      obtain ⟨S, hS⟩ : ∃ S, S = D.lst [.int (w : Int), .int (h : Int)] := ⟨_, rfl⟩
      obtain ⟨Z, hZ⟩ : ∃ Z, Z = szD w h := ⟨_, rfl⟩
      have l1 : ∀ M, m__law_sides [p] M = ok S M := fun M => by rw [hS, e]; exact lsides_tab w1 w2 h1 h2 (e ▸ op)
      have ne0 : ∀ M, eqF S (.lst []) M = ok (.bl false) M := fun M => by
        have := eq_ints (n := false) (l1 := [(w : Int), (h : Int)]) (l2 := []) (M := M)
        rw [f_ne, decide_eq_false (fun z => nomatch z)] at this
        rw [hS]
        exact this
      by_cases hg : goodH w h f
      · have a2 : ∀ M, m__law_are_numbers [p, S] M = ok (.bl true) M := fun M => by rw [e, hS]; exact numbers_b (e ▸ op) ⟨fun _ => hg, fun _ => rfl⟩
        let H : Nat → Nat → Int := fun x y => match f x y with | .int i => i | _ => 0
        have eH : tabD w h f = tabD w h (hD H) := tab_congr fun x y hx' hy => by
          obtain ⟨i, hi, _⟩ := hg x y hx' hy
          show f x y = .int (match f x y with | .int i => i | _ => 0)
          rw [hi]
        have rim : ∀ x y, x < w → y < h → rimB w h x y = true → (H x y).natAbs ≤ 35 := fun x y hx' hy hb => by
          obtain ⟨i, hi, q⟩ := hg x y hx' hy
          show (match f x y with | .int i => i | _ => 0 : Int).natAbs ≤ 35
          rw [hi]
          exact q hb
        have gh : GH p := ⟨w, h, H, w1, w2, h1, h2, rim, by rw [e, eH]⟩
        by_cases hs : stepsG w h H
        · have b1 : ∀ M, m_wrong_with_heights [p] M = ok .non M := fun M => wr_ok hB op ⟨w, h, H, ⟨w1, w2, h1, h2, fun x y hx' hy => (hs x y hx' hy).1, fun x y hx' hy => (hs (x + 1) y hx' hy).2.1 x rfl, fun x y hx' hy => (hs x (y + 1) hx' hy).2.2 y rfl, rim⟩, by rw [e, eH]⟩
          have b2 : ∀ M, m__law_are_steps [p] M = ok (.bl true) M := fun M => by rw [e, eH]; exact lsteps_b w2 h2 ⟨fun _ => hs, fun _ => rfl⟩
          have sz : ∀ M, m_sides [p] M = ok Z M := fun M => by rw [e, hZ]; exact sides_ok h1
          by_cases hq : ∃ g, q = tabD w h g
          · obtain ⟨g, eq⟩ := hq
            have l2 : ∀ M, m__law_sides [q] M = ok S M := fun M => by rw [hS, eq]; exact lsides_tab w1 w2 h1 h2 (eq ▸ oq)
            have eS : ∀ M, eqF S S M = ok (.bl true) M := fun M => by
              have := eq_ints (n := false) (l1 := [(w : Int), (h : Int)]) (l2 := [(w : Int), (h : Int)]) (M := M)
              rw [f_ne, decide_eq_true rfl] at this
              rw [hS]
              exact this
            by_cases hu : goodU w h g
            · have c1 : ∀ M, m_are_worth_rows [q, Z] M = ok (.bl true) M := fun M => by rw [hZ]; exact wo_t oq ⟨g, eq, hu⟩
              have c2 : ∀ M, m__law_are_worths [q] M = ok (.bl true) M := fun M => by rw [eq]; exact lworths_b hB (eq ▸ oq) ⟨fun _ => hu, fun _ => rfl⟩
              refine ⟨.fine, fun M => ?_, fun M => ?_⟩
              · exact fv_nx (e0 := [some (.tup [p, q]), none, none, none]) (e' := [some (.tup [p, q]), some p, some q, some .non]) [] rfl (by rw [List.append_nil]; simp [seqS, ifS, retS, raiseF, raiseS, consA, nilA, binD, callD, nameD, cD, bindE_v, thenS_v, bindE_x, thenS_x, unD, parS, asgS, tupD, int2F, eq_int, ne_int, intF0, negF, notF, nilS, brD, fnD, addE, subE, ix0, ix1, dropS, asgG, tupG, consG, nameG, nilG, lstD, andD, orD, tstD, ownS, appS, len_tup, len_lst, tup_tup, wipeE, set1, set2, typ_int, typ_tup, typ_non, typ_lst, isF, chainD, asT, truD, len_row, typ_row, den_need_field, t', b1, sz, c1, isNone])
              · exact fv_rt0 (e0 := [some (.tup [p, q]), none]) rfl (by simp [seqS, ifS, retS, raiseF, raiseS, consA, nilA, binD, callD, nameD, cD, bindE_v, thenS_v, bindE_x, thenS_x, unD, parS, asgS, tupD, int2F, eq_int, ne_int, intF0, negF, notF, nilS, brD, fnD, addE, subE, ix0, ix1, dropS, asgG, tupG, consG, nameG, nilG, lstD, andD, orD, tstD, ownS, appS, len_tup, len_lst, tup_tup, wipeE, set1, set2, typ_int, typ_tup, typ_non, typ_lst, isF, chainD, asT, truD, len_row, typ_row, den__law_fault, s1, l1, ne0, a2, b2, l2, eS, c2]; rfl) rfl
            · have c1 : ∀ M, m_are_worth_rows [q, Z] M = ok (.bl false) M := fun M => by rw [hZ]; exact wo_f oq fun ⟨g', e', u'⟩ => hu fun x y hx' hy => (tab_inj h1 (eq.symm.trans e')).2.2 x y hx' hy ▸ u' x y hx' hy
              have c2 : ∀ M, m__law_are_worths [q] M = ok (.bl false) M := fun M => by rw [eq]; exact lworths_b hB (eq ▸ oq) ⟨(fun z => nomatch z), fun z => absurd z hu⟩
              refine ⟨.worths, fun M => ?_, fun M => ?_⟩
              · exact fv_ex (e0 := [some (.tup [p, q]), none, none, none]) (e' := [some (.tup [p, q]), some p, some q, some .non]) [] rfl (by rw [List.append_nil]; simp [seqS, ifS, retS, raiseF, raiseS, consA, nilA, binD, callD, nameD, cD, bindE_v, thenS_v, bindE_x, thenS_x, unD, parS, asgS, tupD, int2F, eq_int, ne_int, intF0, negF, notF, nilS, brD, fnD, addE, subE, ix0, ix1, dropS, asgG, tupG, consG, nameG, nilG, lstD, andD, orD, tstD, ownS, appS, len_tup, len_lst, tup_tup, wipeE, set1, set2, typ_int, typ_tup, typ_non, typ_lst, isF, chainD, asT, truD, len_row, typ_row, den_need_field, t', b1, sz, c1, isNone]; rfl) rfl
              · exact fv_rt0 (e0 := [some (.tup [p, q]), none]) rfl (by simp [seqS, ifS, retS, raiseF, raiseS, consA, nilA, binD, callD, nameD, cD, bindE_v, thenS_v, bindE_x, thenS_x, unD, parS, asgS, tupD, int2F, eq_int, ne_int, intF0, negF, notF, nilS, brD, fnD, addE, subE, ix0, ix1, dropS, asgG, tupG, consG, nameG, nilG, lstD, andD, orD, tstD, ownS, appS, len_tup, len_lst, tup_tup, wipeE, set1, set2, typ_int, typ_tup, typ_non, typ_lst, isF, chainD, asT, truD, len_row, typ_row, den__law_fault, s1, l1, ne0, a2, b2, l2, eS, c2]; rfl) rfl
          · have c1 : ∀ M, m_are_worth_rows [q, Z] M = ok (.bl false) M := fun M => by rw [hZ]; exact wo_f oq fun ⟨g', e', _⟩ => hq ⟨g', e'⟩
            obtain ⟨S2, e2, e3⟩ : ∃ S2, (∀ M, m__law_sides [q] M = ok S2 M) ∧ ∀ M, eqF S2 S M = ok (.bl false) M := by
              by_cases hq2 : isTab q
              · obtain ⟨w', h', g, w1', w2', h1', h2', eq⟩ := hq2
                refine ⟨.lst [.int (w' : Int), .int (h' : Int)], fun M => by rw [eq]; exact lsides_tab w1' w2' h1' h2' (eq ▸ oq), fun M => ?_⟩
                have := eq_ints (n := false) (l1 := [(w' : Int), (h' : Int)]) (l2 := [(w : Int), (h : Int)]) (M := M)
                rw [f_ne, decide_eq_false (fun z => hq (by
                  have z1 := (List.cons.inj z).1
                  have z2 := (List.cons.inj (List.cons.inj z).2).1
                  obtain rfl : w' = w := by omega
                  obtain rfl : h' = h := by omega
                  exact ⟨g, eq⟩))] at this
                rw [hS]
                exact this
              · refine ⟨.lst [], fun M => lsides_no oq hq2, fun M => ?_⟩
                have := eq_ints (n := false) (l1 := []) (l2 := [(w : Int), (h : Int)]) (M := M)
                rw [f_ne, decide_eq_false (fun z => nomatch z)] at this
                rw [hS]
                exact this
            refine ⟨.worths, fun M => ?_, fun M => ?_⟩
            · exact fv_ex (e0 := [some (.tup [p, q]), none, none, none]) (e' := [some (.tup [p, q]), some p, some q, some .non]) [] rfl (by rw [List.append_nil]; simp [seqS, ifS, retS, raiseF, raiseS, consA, nilA, binD, callD, nameD, cD, bindE_v, thenS_v, bindE_x, thenS_x, unD, parS, asgS, tupD, int2F, eq_int, ne_int, intF0, negF, notF, nilS, brD, fnD, addE, subE, ix0, ix1, dropS, asgG, tupG, consG, nameG, nilG, lstD, andD, orD, tstD, ownS, appS, len_tup, len_lst, tup_tup, wipeE, set1, set2, typ_int, typ_tup, typ_non, typ_lst, isF, chainD, asT, truD, len_row, typ_row, den_need_field, t', b1, sz, c1, isNone]; rfl) rfl
            · exact fv_rt0 (e0 := [some (.tup [p, q]), none]) rfl (by simp [seqS, ifS, retS, raiseF, raiseS, consA, nilA, binD, callD, nameD, cD, bindE_v, thenS_v, bindE_x, thenS_x, unD, parS, asgS, tupD, int2F, eq_int, ne_int, intF0, negF, notF, nilS, brD, fnD, addE, subE, ix0, ix1, dropS, asgG, tupG, consG, nameG, nilG, lstD, andD, orD, tstD, ownS, appS, len_tup, len_lst, tup_tup, wipeE, set1, set2, typ_int, typ_tup, typ_non, typ_lst, isF, chainD, asT, truD, len_row, typ_row, den__law_fault, s1, l1, ne0, a2, b2, e2, e3]; rfl) rfl
        · have b1 : ∀ M, m_wrong_with_heights [p] M = ok (.str "steps") M := fun M => wr_st hB op gh fun ⟨w', h', H', v, e'⟩ => hs fun x y hx' hy => by
            have ee : tabD w h (hD H) = tabD w' h' (hD H') := by rw [← eH, ← e, e']
            obtain ⟨rfl, rfl, q⟩ := tab_inj h1 ee
            have q : ∀ x y, x < w → y < h → H x y = H' x y := fun x y a b => D.int.inj (q x y a b)
            refine ⟨?_, fun x' hx2 => ?_, fun y' hy2 => ?_⟩
            · rw [q x y hx' hy]
              exact v.par x y hx' hy
            · subst hx2
              rw [q _ y hx' hy, q x' y (by omega) hy]
              exact v.sx x' y hx' hy
            · subst hy2
              rw [q x _ hx' hy, q x y' hx' (by omega)]
              exact v.sy x y' hx' hy
          have b2 : ∀ M, m__law_are_steps [p] M = ok (.bl false) M := fun M => by rw [e, eH]; exact lsteps_b w2 h2 ⟨(fun z => nomatch z), fun z => absurd z hs⟩
          refine ⟨.steps, fun M => ?_, fun M => ?_⟩
          · exact fv_ex (e0 := [some (.tup [p, q]), none, none, none]) (e' := [some (.tup [p, q]), some p, some q, some (.str "steps")]) [] rfl (by rw [List.append_nil]; simp [seqS, ifS, retS, raiseF, raiseS, consA, nilA, binD, callD, nameD, cD, bindE_v, thenS_v, bindE_x, thenS_x, unD, parS, asgS, tupD, int2F, eq_int, ne_int, intF0, negF, notF, nilS, brD, fnD, addE, subE, ix0, ix1, dropS, asgG, tupG, consG, nameG, nilG, lstD, andD, orD, tstD, ownS, appS, len_tup, len_lst, tup_tup, wipeE, set1, set2, typ_int, typ_tup, typ_non, typ_lst, isF, chainD, asT, truD, len_row, typ_row, den_need_field, t', b1, isNone]; rfl) rfl
          · exact fv_rt0 (e0 := [some (.tup [p, q]), none]) rfl (by simp [seqS, ifS, retS, raiseF, raiseS, consA, nilA, binD, callD, nameD, cD, bindE_v, thenS_v, bindE_x, thenS_x, unD, parS, asgS, tupD, int2F, eq_int, ne_int, intF0, negF, notF, nilS, brD, fnD, addE, subE, ix0, ix1, dropS, asgG, tupG, consG, nameG, nilG, lstD, andD, orD, tstD, ownS, appS, len_tup, len_lst, tup_tup, wipeE, set1, set2, typ_int, typ_tup, typ_non, typ_lst, isF, chainD, asT, truD, len_row, typ_row, den__law_fault, s1, l1, ne0, a2, b2]; rfl) rfl
      · have a1 : ∀ M, m_wrong_with_heights [p] M = ok (.str "heights") M := fun M => wr_no hB op fun ⟨w', h', H', _, _, _, _, rim, e'⟩ => hg fun x y hx' hy => by
          obtain ⟨rfl, rfl, q⟩ := tab_inj h1 (e.symm.trans e')
          exact ⟨H' x y, q x y hx' hy, rim x y hx' hy⟩
        have a2 : ∀ M, m__law_are_numbers [p, S] M = ok (.bl false) M := fun M => by rw [e, hS]; exact numbers_b (e ▸ op) ⟨(fun z => nomatch z), fun z => absurd z hg⟩
        refine ⟨.heights, fun M => ?_, fun M => ?_⟩
        · exact fv_ex (e0 := [some (.tup [p, q]), none, none, none]) (e' := [some (.tup [p, q]), some p, some q, some (.str "heights")]) [] rfl (by rw [List.append_nil]; simp [seqS, ifS, retS, raiseF, raiseS, consA, nilA, binD, callD, nameD, cD, bindE_v, thenS_v, bindE_x, thenS_x, unD, parS, asgS, tupD, int2F, eq_int, ne_int, intF0, negF, notF, nilS, brD, fnD, addE, subE, ix0, ix1, dropS, asgG, tupG, consG, nameG, nilG, lstD, andD, orD, tstD, ownS, appS, len_tup, len_lst, tup_tup, wipeE, set1, set2, typ_int, typ_tup, typ_non, typ_lst, isF, chainD, asT, truD, len_row, typ_row, den_need_field, t', a1, isNone]; rfl) rfl
        · exact fv_rt0 (e0 := [some (.tup [p, q]), none]) rfl (by simp [seqS, ifS, retS, raiseF, raiseS, consA, nilA, binD, callD, nameD, cD, bindE_v, thenS_v, bindE_x, thenS_x, unD, parS, asgS, tupD, int2F, eq_int, ne_int, intF0, negF, notF, nilS, brD, fnD, addE, subE, ix0, ix1, dropS, asgG, tupG, consG, nameG, nilG, lstD, andD, orD, tstD, ownS, appS, len_tup, len_lst, tup_tup, wipeE, set1, set2, typ_int, typ_tup, typ_non, typ_lst, isF, chainD, asT, truD, len_row, typ_row, den__law_fault, s1, l1, ne0, a2]; rfl) rfl
    · have a1 : ∀ M, m_wrong_with_heights [p] M = ok (.str "heights") M := fun M => wr_no hB op fun ⟨w', h', H', w1, w2, h1, h2, _, e'⟩ => hp ⟨w', h', _, w1, w2, h1, h2, e'⟩
      have l1 : ∀ M, m__law_sides [p] M = ok (.lst []) M := fun M => lsides_no op hp
      have e0 : ∀ M, eqF (.lst []) (.lst []) M = ok (.bl true) M := fun M => by
        have := eq_ints (n := false) (l1 := []) (l2 := []) (M := M)
        rw [f_ne, decide_eq_true rfl] at this
        exact this
      refine ⟨.heights, fun M => ?_, fun M => ?_⟩
      · exact fv_ex (e0 := [some (.tup [p, q]), none, none, none]) (e' := [some (.tup [p, q]), some p, some q, some (.str "heights")]) [] rfl (by rw [List.append_nil]; simp [seqS, ifS, retS, raiseF, raiseS, consA, nilA, binD, callD, nameD, cD, bindE_v, thenS_v, bindE_x, thenS_x, unD, parS, asgS, tupD, int2F, eq_int, ne_int, intF0, negF, notF, nilS, brD, fnD, addE, subE, ix0, ix1, dropS, asgG, tupG, consG, nameG, nilG, lstD, andD, orD, tstD, ownS, appS, len_tup, len_lst, tup_tup, wipeE, set1, set2, typ_int, typ_tup, typ_non, typ_lst, isF, chainD, asT, truD, len_row, typ_row, den_need_field, t', a1, isNone]; rfl) rfl
      · exact fv_rt0 (e0 := [some (.tup [p, q]), none]) rfl (by simp [seqS, ifS, retS, raiseF, raiseS, consA, nilA, binD, callD, nameD, cD, bindE_v, thenS_v, bindE_x, thenS_x, unD, parS, asgS, tupD, int2F, eq_int, ne_int, intF0, negF, notF, nilS, brD, fnD, addE, subE, ix0, ix1, dropS, asgG, tupG, consG, nameG, nilG, lstD, andD, orD, tstD, ownS, appS, len_tup, len_lst, tup_tup, wipeE, set1, set2, typ_int, typ_tup, typ_non, typ_lst, isF, chainD, asT, truD, len_row, typ_row, den__law_fault, s1, l1, e0]; rfl) rfl
end
end K02
namespace K02
open PySem L2 DL
section
variable {B : Nat} {M : Store} {x : D} {p : Plc}
def Plc.isFine : Plc → Bool
  | .fine => true
  | _ => false
theorem isf (hn : ∀ M, m_need_field [x] M = p.need M) : m_is_field [x] M = ok (.bl p.isFine) M := by
  have c1 : catT_BadField "BadField" = true := rfl
  cases p with
  | fine =>
    have n1 : ∀ M, m_need_field [x] M = ok .non M := hn
    exact fv_rt0 (e0 := [some x]) rfl (by simp [seqS, ifS, retS, raiseF, raiseS, consA, nilA, binD, callD, nameD, cD, bindE_v, thenS_v, bindE_x, thenS_x, unD, parS, asgS, tupD, int2F, eq_int, ne_int, intF0, negF, notF, nilS, brD, fnD, addE, subE, ix0, ix1, dropS, asgG, tupG, consG, nameG, nilG, lstD, andD, orD, tstD, ownS, appS, len_tup, len_lst, tup_tup, wipeE, set1, set2, typ_int, typ_tup, typ_non, typ_lst, isF, chainD, asT, truD, len_row, typ_row, den_is_field, n1, tryS0]; rfl) rfl
  | none =>
    have n1 : ∀ M, m_need_field [x] M = some (.exc "BadField" [("place", Plc.none.place)], M) := hn
    exact fv_rt0 (e0 := [some x]) rfl (by simp [seqS, ifS, retS, raiseF, raiseS, consA, nilA, binD, callD, nameD, cD, bindE_v, thenS_v, bindE_x, thenS_x, unD, parS, asgS, tupD, int2F, eq_int, ne_int, intF0, negF, notF, nilS, brD, fnD, addE, subE, ix0, ix1, dropS, asgG, tupG, consG, nameG, nilG, lstD, andD, orD, tstD, ownS, appS, len_tup, len_lst, tup_tup, wipeE, set1, set2, typ_int, typ_tup, typ_non, typ_lst, isF, chainD, asT, truD, len_row, typ_row, den_is_field, n1, tryS0, sufS0, c1]; rfl) rfl
  | heights =>
    have n1 : ∀ M, m_need_field [x] M = some (.exc "BadField" [("place", Plc.heights.place)], M) := hn
    exact fv_rt0 (e0 := [some x]) rfl (by simp [seqS, ifS, retS, raiseF, raiseS, consA, nilA, binD, callD, nameD, cD, bindE_v, thenS_v, bindE_x, thenS_x, unD, parS, asgS, tupD, int2F, eq_int, ne_int, intF0, negF, notF, nilS, brD, fnD, addE, subE, ix0, ix1, dropS, asgG, tupG, consG, nameG, nilG, lstD, andD, orD, tstD, ownS, appS, len_tup, len_lst, tup_tup, wipeE, set1, set2, typ_int, typ_tup, typ_non, typ_lst, isF, chainD, asT, truD, len_row, typ_row, den_is_field, n1, tryS0, sufS0, c1]; rfl) rfl
  | steps =>
    have n1 : ∀ M, m_need_field [x] M = some (.exc "BadField" [("place", Plc.steps.place)], M) := hn
    exact fv_rt0 (e0 := [some x]) rfl (by simp [seqS, ifS, retS, raiseF, raiseS, consA, nilA, binD, callD, nameD, cD, bindE_v, thenS_v, bindE_x, thenS_x, unD, parS, asgS, tupD, int2F, eq_int, ne_int, intF0, negF, notF, nilS, brD, fnD, addE, subE, ix0, ix1, dropS, asgG, tupG, consG, nameG, nilG, lstD, andD, orD, tstD, ownS, appS, len_tup, len_lst, tup_tup, wipeE, set1, set2, typ_int, typ_tup, typ_non, typ_lst, isF, chainD, asT, truD, len_row, typ_row, den_is_field, n1, tryS0, sufS0, c1]; rfl) rfl
  | worths =>
    have n1 : ∀ M, m_need_field [x] M = some (.exc "BadField" [("place", Plc.worths.place)], M) := hn
    exact fv_rt0 (e0 := [some x]) rfl (by simp [seqS, ifS, retS, raiseF, raiseS, consA, nilA, binD, callD, nameD, cD, bindE_v, thenS_v, bindE_x, thenS_x, unD, parS, asgS, tupD, int2F, eq_int, ne_int, intF0, negF, notF, nilS, brD, fnD, addE, subE, ix0, ix1, dropS, asgG, tupG, consG, nameG, nilG, lstD, andD, orD, tstD, ownS, appS, len_tup, len_lst, tup_tup, wipeE, set1, set2, typ_int, typ_tup, typ_non, typ_lst, isF, chainD, asT, truD, len_row, typ_row, den_is_field, n1, tryS0, sufS0, c1]; rfl) rfl
theorem eq_str1 {s : Str} (hs : PyData.strOk s = true) : eqvF false (.lst [.str s]) (.lst []) M = ok (.bl false) M := by
  have e1 : pyV M (.lst [.str s]) = some (.list [.str s]) := rfl
  have e2 : pyV M (.lst []) = some (.list []) := rfl
  have h1 : SeqAt.shaped (.list [.str s]) = true := by simp [SeqAt.shaped, PyData.canLay0, PyData.canLayAll0, PyData.depth, PyData.depthAll, hs]
  have h2 : SeqAt.shaped (.list []) = true := by simp [SeqAt.shaped, PyData.canLay0, PyData.canLayAll0, PyData.depth, PyData.depthAll]
  have e : PyData.eqv (.list [.str s]) (.list []) = false := by simp [PyData.eqv, PyData.eqvAll]
  unfold eqvF
  simp only [e1, e2, h1, h2, e, and_self, if_true]
  rfl
theorem eq_due (p : Plc) : eqF (.lst p.lst) (.lst []) M = ok (.bl p.isFine) M := by
  cases p with
  | fine => rfl
  | none => rfl
  | _ => exact eq_str1 (by decide +kernel)
/-- what is said of it -/
def Plc.said : Plc → D
  | .fine => .lst [.non]
  | p => .tup [.str "field", p.place]
theorem rep_bl {b : Bool} : reprGF [.bl b] M = ok (.str (rpe (.bl b))) M := repr_e (B := 0) (by decide) rfl (Nat.zero_le _) (Nat.zero_le _)
theorem said_ok (p : Plc) : okB 0 p.said = true ∧ szE p.said ≤ 100 ∧ dpE p.said ≤ 5 ∧ nlD 0 p.said = true := by
  cases p <;> exact ⟨by decide, by decide, by decide, rfl⟩
theorem ask_v {b : DenE} {e : DL.Env} (q : ∀ M, b e M = ok .non M) : lamD gd__law_asked b e M = ok (.lst [.non]) M := by
  show valOnly (gdAsk askedT (fun M' => b e M') M) = _
  rw [gdAsk_val (v := .non) (q M) rfl]
  rfl
theorem ask_x {b : DenE} {e : DL.Env} {d : D} (q : ∀ M, b e M = some (.exc "BadField" [("place", d)], M)) (hd : nlD 0 d = true) : lamD gd__law_asked b e M = ok (.tup [.str "field", d]) M := by
  show valOnly (gdAsk askedT (fun M' => b e M') M) = _
  rw [gdAsk_exc (T := askedT) (v := .tup [.str "field", d]) (q M) rfl (by
    show (nlD 0 (.str "field") && (nlD 0 d && true)) = true
    rw [hd]
    rfl)]
  rfl
theorem asked_ok (hn : ∀ M, m_need_field [x] M = p.need M) {a b c d : Option D} : lamD gd__law_asked (fnD m_need_field 1 [] (consA (nameD 0) (nilA))) [some x, a, b, c, d] M = ok p.said M := by
  cases p with
  | fine => exact ask_v fun M => hn M
  | none => exact ask_x (fun M => hn M) rfl
  | heights => exact ask_x (fun M => hn M) rfl
  | steps => exact ask_x (fun M => hn M) rfl
  | worths => exact ask_x (fun M => hn M) rfl
theorem looked_ok (hB : B < 2 ^ 99) (hx : okB B x = true) (hz : szE x ≤ 50000) (hd : dpE x ≤ 60) : m__law_looked_at [x] M = ok (.bl true) M := by
  obtain ⟨p, hn, hf⟩ := fault_both hB hx
  obtain ⟨K, hK⟩ : ∃ K, K = D.str (rpe x) := ⟨_, rfl⟩
  obtain ⟨L, hL⟩ : ∃ L, L = D.lst p.lst := ⟨_, rfl⟩
  obtain ⟨S, hS⟩ : ∃ S, S = p.said := ⟨_, rfl⟩
  obtain ⟨so1, so2, so3, so4⟩ := said_ok p
  have r1 : ∀ M, reprGF [x] M = ok K M := fun M => by rw [hK]; exact repr_e hB hx hz hd
  have f1 : ∀ M, m__law_fault [x] M = ok L M := fun M => by rw [hL]; exact hf M
  have e1 : ∀ M, eqF L (.lst []) M = ok (.bl p.isFine) M := fun M => by rw [hL]; exact eq_due p
  have i1 : ∀ M, m_is_field [x] M = ok (.bl p.isFine) M := fun M => isf hn
  have q1 : ∀ M, reprGF [.bl p.isFine] M = ok (.str (rpe (.bl p.isFine))) M := fun M => rep_bl
  have q2 : ∀ M, reprGF [S] M = ok (.str (rpe S)) M := fun M => by rw [hS]; exact repr_e (B := 0) (by decide) so1 (by omega) (by omega)
  have k1 : ∀ M, eqF K K M = ok (.bl true) M := fun M => by rw [hK, eq_str, decide_eq_true rfl]
  have n1 : ∀ (s : Str) M, neF (.str s) (.str s) M = ok (.bl false) M := fun s M => by rw [ne_str, decide_eq_true rfl]; rfl
  have a1 : ∀ (a b c d : Option D) M, lamD gd__law_asked (fnD m_need_field 1 [] (consA (nameD 0) (nilA))) [some x, a, b, c, d] M = ok S M := fun a b c d M => by rw [hS]; exact asked_ok hn
  refine fv_wp (e0 := [some x, none, none, none, none]) rfl ?_ rfl
  unfold den__law_looked_at
  refine wp_nx (e' := [some x, some L, some K, none, none]) (M' := M) (by simp [seqS, ifS, retS, raiseF, raiseS, consA, nilA, binD, callD, nameD, cD, bindE_v, thenS_v, bindE_x, thenS_x, unD, parS, asgS, tupD, int2F, eq_int, ne_int, intF0, negF, notF, nilS, brD, fnD, addE, subE, ix0, ix1, dropS, asgG, tupG, consG, nameG, nilG, lstD, andD, orD, tstD, ownS, appS, len_tup, len_lst, tup_tup, wipeE, set1, set2, typ_int, typ_tup, typ_non, typ_lst, isF, chainD, asT, truD, len_row, typ_row, f1, r1]) ?_
  refine wp_nx (e' := [some x, some L, some K, some S, none]) (M' := M) ?_ ?_
  · cases hp : p.isFine with
    | true =>
      have e : S = .lst [.non] := by
        rw [hS]
        cases p with
        | fine => rfl
        | _ => cases hp
      rw [e]
      simp [seqS, ifS, retS, raiseF, raiseS, consA, nilA, binD, callD, nameD, cD, bindE_v, thenS_v, bindE_x, thenS_x, unD, parS, asgS, tupD, int2F, eq_int, ne_int, intF0, negF, notF, nilS, brD, fnD, addE, subE, ix0, ix1, dropS, asgG, tupG, consG, nameG, nilG, lstD, andD, orD, tstD, ownS, appS, len_tup, len_lst, tup_tup, wipeE, set1, set2, typ_int, typ_tup, typ_non, typ_lst, isF, chainD, asT, truD, len_row, typ_row, e1, hp]
    | false =>
      have ix : ∃ d, S = .tup [.str "field", d] ∧ ∀ M, ixF L (.int 0) M = ok d M := by
        refine ⟨p.place, ?_, fun M => ?_⟩
        · rw [hS]
          cases p with
          | fine => cases hp
          | _ => rfl
        · rw [hL]
          refine ix_lst (at_nat (n := 0) ?_)
          cases p with
          | fine => cases hp
          | _ => rfl
      obtain ⟨d, e, ix⟩ := ix
      rw [e]
      simp [seqS, ifS, retS, raiseF, raiseS, consA, nilA, binD, callD, nameD, cD, bindE_v, thenS_v, bindE_x, thenS_x, unD, parS, asgS, tupD, int2F, eq_int, ne_int, intF0, negF, notF, nilS, brD, fnD, addE, subE, ix0, ix1, dropS, asgG, tupG, consG, nameG, nilG, lstD, andD, orD, tstD, ownS, appS, len_tup, len_lst, tup_tup, wipeE, set1, set2, typ_int, typ_tup, typ_non, typ_lst, isF, chainD, asT, truD, len_row, typ_row, e1, hp, ix]
  · refine wp_for_nx ((List.range 2).map fun (j : Nat) => D.int (j : Int)) (fun _ e M' => M' = M ∧ ∃ a, e = [some x, some L, some K, some S, a]) (it_rng (n := 2) rfl (by decide)) (fun j d e M' hd hi => ?_) (fun _ _ _ => trivial) ⟨rfl, _, rfl⟩ (fun e' M' hi => ?_)
    · obtain ⟨rfl, a, rfl⟩ := hi
      refine ⟨trivial, [some x, some L, some K, some S, some d], M', rfl, ?_⟩
      refine wp_nx (e' := [some x, some L, some K, some S, some d]) (M' := M') (by simp [seqS, ifS, retS, raiseF, raiseS, consA, nilA, binD, callD, nameD, cD, bindE_v, thenS_v, bindE_x, thenS_x, unD, parS, asgS, tupD, int2F, eq_int, ne_int, intF0, negF, notF, nilS, brD, fnD, addE, subE, ix0, ix1, dropS, asgG, tupG, consG, nameG, nilG, lstD, andD, orD, tstD, ownS, appS, len_tup, len_lst, tup_tup, wipeE, set1, set2, typ_int, typ_tup, typ_non, typ_lst, isF, chainD, asT, truD, len_row, typ_row, i1, e1, q1, n1]) ?_
      exact wp_of (.nx [some x, some L, some K, some S, some d]) (M' := M') (by simp [seqS, ifS, retS, raiseF, raiseS, consA, nilA, binD, callD, nameD, cD, bindE_v, thenS_v, bindE_x, thenS_x, unD, parS, asgS, tupD, int2F, eq_int, ne_int, intF0, negF, notF, nilS, brD, fnD, addE, subE, ix0, ix1, dropS, asgG, tupG, consG, nameG, nilG, lstD, andD, orD, tstD, ownS, appS, len_tup, len_lst, tup_tup, wipeE, set1, set2, typ_int, typ_tup, typ_non, typ_lst, isF, chainD, asT, truD, len_row, typ_row, a1, q2, n1]) ⟨_, .inl rfl, rfl, _, rfl⟩
    · obtain ⟨rfl, a, rfl⟩ := hi
      exact wp_of (.rt (.bl true)) (M' := M') (by simp [seqS, ifS, retS, raiseF, raiseS, consA, nilA, binD, callD, nameD, cD, bindE_v, thenS_v, bindE_x, thenS_x, unD, parS, asgS, tupD, int2F, eq_int, ne_int, intF0, negF, notF, nilS, brD, fnD, addE, subE, ix0, ix1, dropS, asgG, tupG, consG, nameG, nilG, lstD, andD, orD, tstD, ownS, appS, len_tup, len_lst, tup_tup, wipeE, set1, set2, typ_int, typ_tup, typ_non, typ_lst, isF, chainD, asT, truD, len_row, typ_row, r1, k1]) ⟨rfl, [], by simp⟩
end
end K02
namespace K02
open PySem L2 DL
section
variable {M : Store} {B : Nat} {d : D} {ds xs ys : List D}
theorem szEs_len : ∀ (ds : List D), ds.length ≤ szEs ds
  | [] => Nat.zero_le _
  | d :: ds => by
    have := szEs_len ds
    show ds.length + 1 ≤ szE d + 1 + szEs ds
    omega
theorem szEs_app : ∀ (xs ys : List D), szEs (xs ++ ys) = szEs xs + szEs ys
  | [], ys => (Nat.zero_add _).symm
  | x :: xs, ys => by
    show szE x + 1 + szEs (xs ++ ys) = szE x + 1 + szEs xs + szEs ys
    rw [szEs_app xs ys]
    omega
theorem dpEs_app : ∀ (xs ys : List D), dpEs (xs ++ ys) = max (dpEs xs) (dpEs ys)
  | [], ys => (Nat.zero_max _).symm
  | x :: xs, ys => by
    show max (dpE x) (dpEs (xs ++ ys)) = max (max (dpE x) (dpEs xs)) (dpEs ys)
    rw [dpEs_app xs ys, Nat.max_assoc]
theorem okBs_app {xs ys : List D} (h1 : okBs B xs = true) (h2 : okBs B ys = true) : okBs B (xs ++ ys) = true := okBs_all.mpr fun d hd => by
  rcases List.mem_append.mp hd with hd | hd
  · exact okBs_all.mp h1 d hd
  · exact okBs_all.mp h2 d hd
theorem okBs_take (k : Nat) (h : okBs B ds = true) : okBs B (ds.take k) = true := okBs_all.mpr fun d hd => okBs_all.mp h d (List.mem_of_mem_take hd)
theorem okBs_drop (k : Nat) (h : okBs B ds = true) : okBs B (ds.drop k) = true := okBs_all.mpr fun d hd => okBs_all.mp h d (List.mem_of_mem_drop hd)
theorem sz_split (k : Nat) (ds : List D) : szEs (ds.take k) + szEs (ds.drop k) = szEs ds := by rw [← szEs_app, List.take_append_drop]
theorem dp_split (k : Nat) (ds : List D) : max (dpEs (ds.take k)) (dpEs (ds.drop k)) = dpEs ds := by rw [← dpEs_app, List.take_append_drop]
theorem mid_split {k : Nat} {x : D} (h : ds[k]? = some x) : ds = ds.take k ++ x :: ds.drop (k + 1) := by
  obtain ⟨lt, e⟩ := List.getElem?_eq_some_iff.mp h
  rw [← e, ← List.drop_eq_getElem_cons lt, List.take_append_drop]
theorem add_tups (h : xs.length + ys.length ≤ 100000) : addBF (.tup xs) (.tup ys) M = ok (.tup (xs ++ ys)) M := by
  show addGF (.tup xs) (.tup ys) M = _
  cases xs with
  | nil => exact if_pos (by simpa using h)
  | cons x xs =>
    show addF (.tup (x :: xs)) (.tup ys) M = _
    have q3 : 100000 ≤ sizeLine := by decide
    exact if_pos ⟨by omega, by simp⟩
theorem add_lstB (h : xs.length + ys.length ≤ 100000) : addBF (.lst xs) (.lst ys) M = ok (.lst (xs ++ ys)) M := add_lst h
theorem odd_ok {n : Int} (hB : 10 ^ 20 ≤ B) (hd : okB B d = true) : ∃ y, okB B y = true ∧ szE y ≤ szE d + 10 ∧ dpE y ≤ dpE d + 1 ∧ ∀ M, m__law_odd [.int n, d] M = ok y M := by
  obtain ⟨A1, hA1⟩ : ∃ A1 : List D, A1 = [.non, .bl true, .bl false, .int (-1), .int 0, .int 1, .int 2, .int 36, .int (10 ^ 20), .str "1", .str "", .tup [], .lst [], .emp] := ⟨_, rfl⟩
  obtain ⟨A2, hA2⟩ : ∃ A2 : List D, A2 = [.tup [.int 0, .int 0], .tup [.int 1, .int 1], .tup [.int 0, .int 1], .tup [.int 2, .int 4], .tup [.int 1, .int (-1)], .tup [d], .lst [d]] := ⟨_, rfl⟩
  have hl1 : A1.length = 14 := by rw [hA1]; rfl
  have hl2 : A2.length = 7 := by rw [hA2]; rfl
  obtain ⟨k, hk⟩ : ∃ k : Nat, (k : Int) = n % 21 := ⟨(n % 21).toNat, Int.toNat_of_nonneg (by omega)⟩
  have hk2 : k < (A1 ++ A2).length := by rw [List.length_append, hl1, hl2]; omega
  obtain ⟨y, hy⟩ : ∃ y, (A1 ++ A2)[k]? = some y := ⟨_, List.getElem?_eq_getElem hk2⟩
  have bd : ∀ i : Int, i.natAbs ≤ 10 ^ 20 → okB B (.int i) = true := fun i h => decide_eq_true (Nat.le_trans h hB)
  have b2 : ∀ i j : Int, i.natAbs ≤ 10 ^ 20 → j.natAbs ≤ 10 ^ 20 → okB B (.tup [.int i, .int j]) = true := fun i j h1 h2 => by
    show (okB B (.int i) && (okB B (.int j) && true)) = true
    rw [bd i h1, bd j h2]
    rfl
  have good : okB B y = true ∧ szE y ≤ szE d + 10 ∧ dpE y ≤ dpE d + 1 := by
    have hm := List.mem_of_getElem? hy
    rcases (List.mem_append.mp hm) with hm | hm
    · rw [hA1] at hm
      simp only [List.not_mem_nil, or_false, List.mem_cons] at hm
      rcases hm with rfl | rfl | rfl | rfl | rfl | rfl | rfl | rfl | rfl | rfl | rfl | rfl | rfl | rfl
      · exact ⟨rfl, Nat.zero_le _, Nat.zero_le _⟩
      · exact ⟨rfl, Nat.zero_le _, Nat.zero_le _⟩
      · exact ⟨rfl, Nat.zero_le _, Nat.zero_le _⟩
      · exact ⟨bd _ (by decide), Nat.zero_le _, Nat.zero_le _⟩
      · exact ⟨bd _ (by decide), Nat.zero_le _, Nat.zero_le _⟩
      · exact ⟨bd _ (by decide), Nat.zero_le _, Nat.zero_le _⟩
      · exact ⟨bd _ (by decide), Nat.zero_le _, Nat.zero_le _⟩
      · exact ⟨bd _ (by decide), Nat.zero_le _, Nat.zero_le _⟩
      · exact ⟨bd _ (by decide), Nat.zero_le _, Nat.zero_le _⟩
      · have e : szE (.str "1") = 1 := by decide +kernel
        refine ⟨(by decide +kernel : okB 0 (.str "1") = true), by rw [e]; omega, Nat.zero_le _⟩
      · have e : szE (.str "") = 0 := by decide +kernel
        refine ⟨(by decide +kernel : okB 0 (.str "") = true), by rw [e]; omega, Nat.zero_le _⟩
      · exact ⟨rfl, Nat.zero_le _, Nat.succ_le_succ (Nat.zero_le _)⟩
      · exact ⟨rfl, Nat.zero_le _, Nat.succ_le_succ (Nat.zero_le _)⟩
      · exact ⟨rfl, Nat.zero_le _, Nat.succ_le_succ (Nat.zero_le _)⟩
    · rw [hA2] at hm
      simp only [List.not_mem_nil, or_false, List.mem_cons] at hm
      have p2 : ∀ i j : Int, szE (.tup [.int i, .int j]) ≤ szE d + 10 ∧ dpE (.tup [.int i, .int j]) ≤ dpE d + 1 := fun i j => by
        have e1 : szE (.tup [.int i, .int j]) = 2 := rfl
        have e2 : dpE (.tup [.int i, .int j]) = 1 := rfl
        omega
      rcases hm with rfl | rfl | rfl | rfl | rfl | rfl | rfl
      · exact ⟨b2 _ _ (by decide) (by decide), p2 _ _⟩
      · exact ⟨b2 _ _ (by decide) (by decide), p2 _ _⟩
      · exact ⟨b2 _ _ (by decide) (by decide), p2 _ _⟩
      · exact ⟨b2 _ _ (by decide) (by decide), p2 _ _⟩
      · exact ⟨b2 _ _ (by decide) (by decide), p2 _ _⟩
      · refine ⟨by show (okB B d && true) = true; rw [hd]; rfl, ?_, ?_⟩
        · show szE d + 1 + 0 ≤ szE d + 10
          omega
        · show max (dpE d) 0 + 1 ≤ dpE d + 1
          omega
      · refine ⟨by show (okB B d && true) = true; rw [hd]; rfl, ?_, ?_⟩
        · show szE d + 1 + 0 ≤ szE d + 10
          omega
        · show max (dpE d) 0 + 1 ≤ dpE d + 1
          omega
  refine ⟨y, good.1, good.2.1, good.2.2, fun M => ?_⟩
  have pw : ∀ M, powF (.int 10) (.int 20) M = ok (.int (10 ^ 20)) M := fun M => pow_nat (i := 10) (n := 20) (by decide)
  obtain ⟨T, hT⟩ : ∃ T : Int, T = 10 ^ 20 := ⟨_, rfl⟩
  rw [← hT] at pw hA1
  have fm : ∀ M, fmodF (.int n) (.int 21) M = ok (.int (k : Int)) M := fun M => by rw [fmd (by decide), hk]
  have iy : ∀ M, ixF (.lst (A1 ++ A2)) (.int (k : Int)) M = ok y M := fun M => ix_lst (at_nat hy)
  refine fv_rt0 (e0 := [some (.int n), some d, none]) rfl ?_ (okB_nl _ good.1)
  unfold den__law_odd
  rw [seq_nx (e' := [some (.int n), some d, some (.lst A1)]) (M' := M) (by simp [seqS, ifS, retS, raiseF, raiseS, consA, nilA, binD, callD, nameD, cD, bindE_v, thenS_v, bindE_x, thenS_x, unD, parS, asgS, tupD, int2F, eq_int, ne_int, intF0, negF, notF, nilS, brD, fnD, addE, subE, ix0, ix1, dropS, asgG, tupG, consG, nameG, nilG, lstD, andD, orD, tstD, ownS, appS, len_tup, len_lst, tup_tup, wipeE, set1, set2, typ_int, typ_tup, typ_non, typ_lst, isF, chainD, asT, truD, len_row, typ_row, hA1, empD, pw])]
  rw [seq_nx (e' := [some (.int n), some d, some (.lst (A1 ++ A2))]) (M' := M) (by
    refine asg_v ((bin_v (a := .lst A1) (b := .lst A2) rfl (by simp [seqS, ifS, retS, raiseF, raiseS, consA, nilA, binD, callD, nameD, cD, bindE_v, thenS_v, bindE_x, thenS_x, unD, parS, asgS, tupD, int2F, eq_int, ne_int, intF0, negF, notF, nilS, brD, fnD, addE, subE, ix0, ix1, dropS, asgG, tupG, consG, nameG, nilG, lstD, andD, orD, tstD, ownS, appS, len_tup, len_lst, tup_tup, wipeE, set1, set2, typ_int, typ_tup, typ_non, typ_lst, isF, chainD, asT, truD, len_row, typ_row, hA2])).trans (add_lst (by omega))))]
  simp [seqS, ifS, retS, raiseF, raiseS, consA, nilA, binD, callD, nameD, cD, bindE_v, thenS_v, bindE_x, thenS_x, unD, parS, asgS, tupD, int2F, eq_int, ne_int, intF0, negF, notF, nilS, brD, fnD, addE, subE, ix0, ix1, dropS, asgG, tupG, consG, nameG, nilG, lstD, andD, orD, tstD, ownS, appS, len_tup, len_lst, tup_tup, wipeE, set1, set2, typ_int, typ_tup, typ_non, typ_lst, isF, chainD, asT, truD, len_row, typ_row, fm, iy]
end
end K02
namespace K02
open PySem L2 DL
section
variable {M : Store} {B : Nat} {d : D} {ds xs ys : List D}
theorem ob_rt {n : Nat} {den : DenS} {args : List D} {e0 : DL.Env} {v : D} {M' : Store} (he : args.map some ++ List.replicate (n - args.length) none = e0) (h : den e0 M = some (.rt v, M')) : ofBody n den args M = ok v M' := by
  unfold ofBody
  rw [he, h]
noncomputable abbrev LB : DenS := seqS (ifS (andD (tstD (callD (isiB subT) (consA (nameD 2) (consA (cD (.ty "int")) (nilA))))) (binD (gtF) (binD fmodF (nameD 4) (cD (.int 3))) (cD (.int 0)))) (retS (binD addBF (nameD 2) (binD ixF (lstD (consA (cD (.int 1)) (consA (unD negF (cD (.int 1))) (consA (cD (.int 2)) (consA (unD negF (cD (.int 2))) (nilA)))))) (binD fmodF (binD fdivF (nameD 4) (cD (.int 3))) (cD (.int 4)))))) (nilS)) (retS (fnD m__law_odd 2 [] (consA (binD fdivF (nameD 4) (cD (.int 3))) (consA (nameD 2) (nilA)))))
theorem leaf_ok {a b K : Option D} {n : Int} (n0 : 0 ≤ n) (hB : 10 ^ 20 ≤ B) (hd : okB B d = true) : ∃ y, okB (B + 2) y = true ∧ szE y ≤ szE d + 10 ∧ dpE y ≤ dpE d + 1 ∧ ∀ M, LB [a, b, some d, K, some (.int n), none, none, none, none] M = some (.rt y, M) := by
  obtain ⟨q, hq⟩ : ∃ q, q = n / 3 := ⟨_, rfl⟩
  obtain ⟨r, hr⟩ : ∃ r, r = n % 3 := ⟨_, rfl⟩
  have d3 : ∀ M, fdivF (.int n) (.int 3) M = ok (.int q) M := fun M => by rw [fdv (by decide) (by unfold Bd; decide), hq]
  have m3 : ∀ M, fmodF (.int n) (.int 3) M = ok (.int r) M := fun M => by rw [fmd (by decide), hr]
  have s2 := fun M => isi_int (M := M) hd
  obtain ⟨yo, o1, o2, o3, o4⟩ := odd_ok (n := q) hB hd
  obtain ⟨j, hj, hj1, hj2⟩ : ∃ j : Int, (∀ M, ixF (.lst [.int 1, .int (-1), .int 2, .int (-2)]) (.int (q % 4)) M = ok (.int j) M) ∧ -2 ≤ j ∧ j ≤ 2 := by
    have c : q % 4 = 0 ∨ q % 4 = 1 ∨ q % 4 = 2 ∨ q % 4 = 3 := by omega
    rcases c with z | z | z | z
    · exact ⟨1, fun M => by rw [z]; exact ix_lst rfl, by decide, by decide⟩
    · exact ⟨-1, fun M => by rw [z]; exact ix_lst rfl, by decide, by decide⟩
    · exact ⟨2, fun M => by rw [z]; exact ix_lst rfl, by decide, by decide⟩
    · exact ⟨-2, fun M => by rw [z]; exact ix_lst rfl, by decide, by decide⟩
  obtain ⟨u, hu⟩ : ∃ u, u = q % 4 := ⟨_, rfl⟩
  have m4 : ∀ M, fmodF (.int q) (.int 4) M = ok (.int u) M := fun M => by rw [fmd (by decide), hu]
  rw [← hu] at hj
  by_cases hr0 : 0 < r
  · cases d with
    | int i =>
      have bi : i.natAbs ≤ B := of_decide_eq_true hd
      have ad : ∀ M, addBF (.int i) (.int j) M = ok (.int (i + j)) M := fun M => rfl
      exact ⟨.int (i + j), decide_eq_true (by omega), Nat.zero_le _, Nat.zero_le _, fun M => by simp [seqS, ifS, retS, raiseF, raiseS, consA, nilA, binD, callD, nameD, cD, bindE_v, thenS_v, bindE_x, thenS_x, unD, parS, asgS, tupD, int2F, eq_int, ne_int, intF0, negF, notF, nilS, brD, fnD, addE, subE, ix0, ix1, dropS, asgG, tupG, consG, nameG, nilG, lstD, andD, orD, tstD, ownS, appS, len_tup, len_lst, tup_tup, wipeE, set1, set2, typ_int, typ_tup, typ_non, typ_lst, isF, chainD, asT, truD, len_row, typ_row, s2, isIB, m3, hr0, d3, m4, hj, ad]⟩
    | bl c =>
      have ad : ∀ M, addBF (.bl c) (.int j) M = ok (.int (b2z c + j)) M := fun M => rfl
      have bc : b2z c = 0 ∨ b2z c = 1 := by cases c; exact .inl rfl; exact .inr rfl
      refine ⟨.int (b2z c + j), decide_eq_true (by omega), Nat.zero_le _, Nat.zero_le _, fun M => by simp [seqS, ifS, retS, raiseF, raiseS, consA, nilA, binD, callD, nameD, cD, bindE_v, thenS_v, bindE_x, thenS_x, unD, parS, asgS, tupD, int2F, eq_int, ne_int, intF0, negF, notF, nilS, brD, fnD, addE, subE, ix0, ix1, dropS, asgG, tupG, consG, nameG, nilG, lstD, andD, orD, tstD, ownS, appS, len_tup, len_lst, tup_tup, wipeE, set1, set2, typ_int, typ_tup, typ_non, typ_lst, isF, chainD, asT, truD, len_row, typ_row, s2, isIB, m3, hr0, d3, m4, hj, ad]⟩
    | scr _ => cases hd
    | loc _ => cases hd
    | exc _ _ => cases hd
    | ty _ => cases hd
    | cls _ => cases hd
    | clo _ _ _ _ _ _ => cases hd
    | ktp _ => cases hd
    | _ => exact ⟨yo, okB_mono (by omega) _ o1, o2, o3, fun M => by simp [seqS, ifS, retS, raiseF, raiseS, consA, nilA, binD, callD, nameD, cD, bindE_v, thenS_v, bindE_x, thenS_x, unD, parS, asgS, tupD, int2F, eq_int, ne_int, intF0, negF, notF, nilS, brD, fnD, addE, subE, ix0, ix1, dropS, asgG, tupG, consG, nameG, nilG, lstD, andD, orD, tstD, ownS, appS, len_tup, len_lst, tup_tup, wipeE, set1, set2, typ_int, typ_tup, typ_non, typ_lst, isF, chainD, asT, truD, len_row, typ_row, s2, isIB, d3, o4]⟩
  · refine ⟨yo, okB_mono (by omega) _ o1, o2, o3, fun M => ?_⟩
    cases hi : isIB d with
    | true =>
      have s3 : ∀ M, isiB subT [d, .ty "int"] M = ok (.bl true) M := fun M => by rw [s2, hi]
      simp [seqS, ifS, retS, raiseF, raiseS, consA, nilA, binD, callD, nameD, cD, bindE_v, thenS_v, bindE_x, thenS_x, unD, parS, asgS, tupD, int2F, eq_int, ne_int, intF0, negF, notF, nilS, brD, fnD, addE, subE, ix0, ix1, dropS, asgG, tupG, consG, nameG, nilG, lstD, andD, orD, tstD, ownS, appS, len_tup, len_lst, tup_tup, wipeE, set1, set2, typ_int, typ_tup, typ_non, typ_lst, isF, chainD, asT, truD, len_row, typ_row, s3, m3, hr0, d3, o4]
    | false =>
      have s3 : ∀ M, isiB subT [d, .ty "int"] M = ok (.bl false) M := fun M => by rw [s2, hi]
      simp [seqS, ifS, retS, raiseF, raiseS, consA, nilA, binD, callD, nameD, cD, bindE_v, thenS_v, bindE_x, thenS_x, unD, parS, asgS, tupD, int2F, eq_int, ne_int, intF0, negF, notF, nilS, brD, fnD, addE, subE, ix0, ix1, dropS, asgG, tupG, consG, nameG, nilG, lstD, andD, orD, tstD, ownS, appS, len_tup, len_lst, tup_tup, wipeE, set1, set2, typ_int, typ_tup, typ_non, typ_lst, isF, chainD, asT, truD, len_row, typ_row, s3, d3, o4]
theorem spoilt_ok {ns : List Int} (hn : ns.length ≤ 63) : ∀ (k : Nat) (B : Nat) (d : D) (M : Store) (c : Nat), 10 ^ 20 ≤ B → okB B d = true → szE d ≤ 30000 → M[0]? = some (.lst [.int (c : Int)]) → c + k ≤ 4990 → ∃ y c', c' ≤ c + k + 1 ∧ okB (B + 2) y = true ∧ szE y ≤ 2 * szE d + 10 ∧ dpE y ≤ dpE d + 1 ∧ m__law_spoilt_ (k + 1) [.scr ns, .loc 0, d, .int (k : Int)] M = ok y (M.set 0 (.lst [.int (c' : Int)])) := by
  intro k
  induction k with
  | zero =>
    intro B d M c hB hd hz hM hc
    obtain ⟨n, n0, n1, hcell⟩ := cell_ok (ns := ns) hM (by omega) hn
    obtain ⟨y, y1, y2, y3, y4⟩ := leaf_ok (a := some (.scr ns)) (b := some (.loc 0)) (K := some (.int 0)) n0 hB hd
    obtain ⟨M1, hM1⟩ : ∃ M1, M1 = M.set 0 (.lst [.int ((c + 1 : Nat) : Int)]) := ⟨_, rfl⟩
    rw [← hM1] at hcell
    refine ⟨y, c + 1, by omega, y1, by omega, y3, ?_⟩
    rw [← hM1]
    have s1 := fun M => isi_tup (M := M) hd
    have k0 : ∀ M, eqGF (.int 0) (.int 0) M = ok (.bl true) M := fun M => rfl
    refine ob_rt (e0 := [some (.scr ns), some (.loc 0), some d, some (.int 0), none, none, none, none, none]) rfl ?_
    unfold den__law_spoilt
    rw [seq_nx (e' := [some (.scr ns), some (.loc 0), some d, some (.int 0), some (.int n), none, none, none, none]) (M' := M1) (by simp [seqS, ifS, retS, raiseF, raiseS, consA, nilA, binD, callD, nameD, cD, bindE_v, thenS_v, bindE_x, thenS_x, unD, parS, asgS, tupD, int2F, eq_int, ne_int, intF0, negF, notF, nilS, brD, fnD, addE, subE, ix0, ix1, dropS, asgG, tupG, consG, nameG, nilG, lstD, andD, orD, tstD, ownS, appS, len_tup, len_lst, tup_tup, wipeE, set1, set2, typ_int, typ_tup, typ_non, typ_lst, isF, chainD, asT, truD, len_row, typ_row, hcell])]
    refine seq_rt ?_
    have cond : (orD (unD notF (tstD (callD (isiB subT) (consA (nameD 2) (consA (cD (.ty "tuple")) (nilA)))))) (orD (binD (eqGF) (nameD 2) (tupD (nilA))) (binD (eqGF) (nameD 3) (cD (.int 0))))) [some (.scr ns), some (.loc 0), some d, some (.int 0), some (.int n), none, none, none, none] M1 = ok (.bl true) M1 := by
      cases ht : isTp d with
      | false => simp [seqS, ifS, retS, raiseF, raiseS, consA, nilA, binD, callD, nameD, cD, bindE_v, thenS_v, bindE_x, thenS_x, unD, parS, asgS, tupD, int2F, eq_int, ne_int, intF0, negF, notF, nilS, brD, fnD, addE, subE, ix0, ix1, dropS, asgG, tupG, consG, nameG, nilG, lstD, andD, orD, tstD, ownS, appS, len_tup, len_lst, tup_tup, wipeE, set1, set2, typ_int, typ_tup, typ_non, typ_lst, isF, chainD, asT, truD, len_row, typ_row, s1, ht]
      | true =>
        obtain ⟨ds, rfl⟩ : ∃ ds, d = .tup ds := by
          cases d with
          | tup ds => exact ⟨ds, rfl⟩
          | _ => cases ht
        have e1 : ∀ M, eqGF (.tup ds) (.tup []) M = ok (.bl ds.isEmpty) M := fun M => by unfold eqGF; cases ds <;> rfl
        have s1' : ∀ M, isiB subT [.tup ds, .ty "tuple"] M = ok (.bl true) M := s1
        cases he : ds.isEmpty with
        | true => simp [seqS, ifS, retS, raiseF, raiseS, consA, nilA, binD, callD, nameD, cD, bindE_v, thenS_v, bindE_x, thenS_x, unD, parS, asgS, tupD, int2F, eq_int, ne_int, intF0, negF, notF, nilS, brD, fnD, addE, subE, ix0, ix1, dropS, asgG, tupG, consG, nameG, nilG, lstD, andD, orD, tstD, ownS, appS, len_tup, len_lst, tup_tup, wipeE, set1, set2, typ_int, typ_tup, typ_non, typ_lst, isF, chainD, asT, truD, len_row, typ_row, s1', e1, he]
        | false => simp [seqS, ifS, retS, raiseF, raiseS, consA, nilA, binD, callD, nameD, cD, bindE_v, thenS_v, bindE_x, thenS_x, unD, parS, asgS, tupD, int2F, eq_int, ne_int, intF0, negF, notF, nilS, brD, fnD, addE, subE, ix0, ix1, dropS, asgG, tupG, consG, nameG, nilG, lstD, andD, orD, tstD, ownS, appS, len_tup, len_lst, tup_tup, wipeE, set1, set2, typ_int, typ_tup, typ_non, typ_lst, isF, chainD, asT, truD, len_row, typ_row, s1', e1, he, k0]
    unfold ifS
    rw [cond, thenS_v]
    exact y4 M1
  | succ k ih =>
    intro B d M c hB hd hz hM hc
    obtain ⟨n, n0, n1, hcell⟩ := cell_ok (ns := ns) hM (by omega) hn
    obtain ⟨K, hK⟩ : ∃ K : Int, K = ((k + 1 : Nat) : Int) := ⟨_, rfl⟩
    obtain ⟨y, y1, y2, y3, y4⟩ := leaf_ok (a := some (.scr ns)) (b := some (.loc 0)) (K := some (.int K)) n0 hB hd
    obtain ⟨M1, hM1⟩ : ∃ M1, M1 = M.set 0 (.lst [.int ((c + 1 : Nat) : Int)]) := ⟨_, rfl⟩
    rw [← hM1] at hcell
    have lt0 : 0 < M.length := get_lt hM
    have g1 : M1[0]? = some (.lst [.int ((c + 1 : Nat) : Int)]) := by rw [hM1]; exact List.getElem?_set_self lt0
    have s1 := fun M => isi_tup (M := M) hd
    have kn : ∀ M, eqGF (.int K) (.int 0) M = ok (.bl false) M := fun M => by
      show eqF (.int K) (.int 0) M = _
      rw [eq_int, decide_eq_false (by omega)]
    rw [← hK]
    have leaf : (isTp d = false ∨ d = .tup []) → ∃ y c', c' ≤ c + (k + 1) + 1 ∧ okB (B + 2) y = true ∧ szE y ≤ 2 * szE d + 10 ∧ dpE y ≤ dpE d + 1 ∧ m__law_spoilt_ (k + 1 + 1) [.scr ns, .loc 0, d, .int K] M = ok y (M.set 0 (.lst [.int (c' : Int)])) := fun hl => by
      refine ⟨y, c + 1, by omega, y1, by omega, y3, ?_⟩
      rw [← hM1]
      refine ob_rt (e0 := [some (.scr ns), some (.loc 0), some d, some (.int K), none, none, none, none, none]) rfl ?_
      unfold den__law_spoilt
      rw [seq_nx (e' := [some (.scr ns), some (.loc 0), some d, some (.int K), some (.int n), none, none, none, none]) (M' := M1) (by simp [seqS, ifS, retS, raiseF, raiseS, consA, nilA, binD, callD, nameD, cD, bindE_v, thenS_v, bindE_x, thenS_x, unD, parS, asgS, tupD, int2F, eq_int, ne_int, intF0, negF, notF, nilS, brD, fnD, addE, subE, ix0, ix1, dropS, asgG, tupG, consG, nameG, nilG, lstD, andD, orD, tstD, ownS, appS, len_tup, len_lst, tup_tup, wipeE, set1, set2, typ_int, typ_tup, typ_non, typ_lst, isF, chainD, asT, truD, len_row, typ_row, hcell])]
      refine seq_rt ?_
      have cond : (orD (unD notF (tstD (callD (isiB subT) (consA (nameD 2) (consA (cD (.ty "tuple")) (nilA)))))) (orD (binD (eqGF) (nameD 2) (tupD (nilA))) (binD (eqGF) (nameD 3) (cD (.int 0))))) [some (.scr ns), some (.loc 0), some d, some (.int K), some (.int n), none, none, none, none] M1 = ok (.bl true) M1 := by
        rcases hl with ht | rfl
        · simp [seqS, ifS, retS, raiseF, raiseS, consA, nilA, binD, callD, nameD, cD, bindE_v, thenS_v, bindE_x, thenS_x, unD, parS, asgS, tupD, int2F, eq_int, ne_int, intF0, negF, notF, nilS, brD, fnD, addE, subE, ix0, ix1, dropS, asgG, tupG, consG, nameG, nilG, lstD, andD, orD, tstD, ownS, appS, len_tup, len_lst, tup_tup, wipeE, set1, set2, typ_int, typ_tup, typ_non, typ_lst, isF, chainD, asT, truD, len_row, typ_row, s1, ht]
        · have e1 : ∀ M, eqGF (.tup []) (.tup []) M = ok (.bl true) M := fun M => rfl
          have s1' : ∀ M, isiB subT [.tup [], .ty "tuple"] M = ok (.bl true) M := s1
          simp [seqS, ifS, retS, raiseF, raiseS, consA, nilA, binD, callD, nameD, cD, bindE_v, thenS_v, bindE_x, thenS_x, unD, parS, asgS, tupD, int2F, eq_int, ne_int, intF0, negF, notF, nilS, brD, fnD, addE, subE, ix0, ix1, dropS, asgG, tupG, consG, nameG, nilG, lstD, andD, orD, tstD, ownS, appS, len_tup, len_lst, tup_tup, wipeE, set1, set2, typ_int, typ_tup, typ_non, typ_lst, isF, chainD, asT, truD, len_row, typ_row, s1', e1]
      unfold ifS
      rw [cond, thenS_v]
      exact y4 M1
    cases ht : isTp d with
    | false => exact leaf (.inl ht)
    | true =>
      obtain ⟨ds, rfl⟩ : ∃ ds, d = .tup ds := by
        cases d with
        | tup ds => exact ⟨ds, rfl⟩
        | _ => cases ht
      by_cases hds : ds = []
      · exact leaf (.inr (by rw [hds]))
      · have hL0 : 0 < ds.length := List.length_pos_iff.mpr hds
        have hL1 : ds.length ≤ 30000 := Nat.le_trans (szEs_len ds) hz
        obtain ⟨V, hV⟩ : ∃ V, V = D.tup ds := ⟨_, rfl⟩
        obtain ⟨m, hm⟩ : ∃ m : Nat, (m : Int) = n % (ds.length : Int) := ⟨(n % (ds.length : Int)).toNat, Int.toNat_of_nonneg (Int.emod_nonneg _ (by omega))⟩
        have hml : m < ds.length := by
          have := Int.emod_lt_of_pos n (show (0 : Int) < (ds.length : Int) by omega)
          omega
        obtain ⟨x, hx⟩ : ∃ x, ds[m]? = some x := ⟨_, List.getElem?_eq_getElem hml⟩
        obtain ⟨Z, hZ⟩ : ∃ Z : Int, Z = (m : Int) := ⟨_, rfl⟩
        obtain ⟨N, hN⟩ : ∃ N : Int, N = (ds.length : Int) := ⟨_, rfl⟩
        obtain ⟨q, hq⟩ : ∃ q : Int, q = n / 128 := ⟨_, rfl⟩
        obtain ⟨kd, hkd⟩ : ∃ kd : Int, kd = q % 9 := ⟨_, rfl⟩
        have e1 : ∀ M, eqGF V (.tup []) M = ok (.bl false) M := fun M => by
          rw [hV]
          cases ds with
          | nil => exact absurd rfl hds
          | cons a r => rfl
        have s1' : ∀ M, isiB subT [V, .ty "tuple"] M = ok (.bl true) M := fun M => by rw [hV]; exact s1 M
        have lV : ∀ M, lenF [V] M = ok (.int N) M := fun M => by rw [hV, hN]; rfl
        have fN : ∀ M, fmodF (.int n) (.int N) M = ok (.int Z) M := fun M => by rw [fmd (by omega), hN, hZ, hm]
        have d1 : ∀ M, fdivF (.int n) (.int 128) M = ok (.int q) M := fun M => by rw [fdv (by decide) (by unfold Bd; decide), hq]
        have m9 : ∀ M, fmodF (.int q) (.int 9) M = ok (.int kd) M := fun M => by rw [fmd (by decide), hkd]
        have ix : ∀ M, ixF V (.int Z) M = ok x M := fun M => by rw [hV, hZ]; exact ix_tup (at_nat hx)
        have okds : okBs B ds = true := hd
        have ox : okB B x = true := okBs_all.mp hd x (List.mem_of_getElem? hx)
        have eds := mid_split hx
        have szx : szE x + 1 + szEs (ds.take m) + szEs (ds.drop (m + 1)) = szEs ds := by
          conv => rhs; rw [eds, szEs_app]
          show _ = szEs (ds.take m) + (szE x + 1 + szEs (ds.drop (m + 1)))
          omega
        have dpx : max (dpEs (ds.take m)) (max (dpE x) (dpEs (ds.drop (m + 1)))) = dpEs ds := by
          conv => rhs; rw [eds, dpEs_app]
          rfl
        have szV : szE (.tup ds) = szEs ds := rfl
        have dpV : dpE (.tup ds) = dpEs ds + 1 := rfl
        have lt1 : (ds.take m).length = m := by rw [List.length_take]; omega
        have ld1 : (ds.drop (m + 1)).length = ds.length - (m + 1) := List.length_drop
        have ad1 : ∀ M, addBF (.int Z) (.int 1) M = ok (.int (Z + 1)) M := fun M => rfl
        by_cases hk6 : kd < 6
        · obtain ⟨z, c', c1, z1, z2, z3, z4⟩ := ih B x M1 (c + 1) hB ox (by omega) g1 (by omega)
          have km : K - 1 = (k : Int) := by omega
          rw [← km] at z4
          obtain ⟨M2, hM2⟩ : ∃ M2, M2 = M1.set 0 (.lst [.int (c' : Int)]) := ⟨_, rfl⟩
          have eM2 : M.set 0 (.lst [.int (c' : Int)]) = M2 := by rw [hM2, hM1, List.set_set]
          rw [← hM2] at z4
          refine ⟨.tup (ds.take m ++ [z] ++ ds.drop (m + 1)), c', by omega, ?_, ?_, ?_, ?_⟩
          · refine okBs_app (okBs_app (okBs_take _ (okBs_mono (by omega) _ okds)) ?_) (okBs_drop _ (okBs_mono (by omega) _ okds))
            show (okB (B + 2) z && true) = true
            rw [z1]
            rfl
          · show szEs (ds.take m ++ [z] ++ ds.drop (m + 1)) ≤ _
            rw [szEs_app, szEs_app, szV]
            show szEs (ds.take m) + (szE z + 1 + 0) + szEs (ds.drop (m + 1)) ≤ _
            omega
          · show dpEs (ds.take m ++ [z] ++ ds.drop (m + 1)) + 1 ≤ _
            rw [dpEs_app, dpEs_app, dpV]
            show max (max (dpEs (ds.take m)) (max (dpE z) 0)) (dpEs (ds.drop (m + 1))) + 1 ≤ _
            omega
          · rw [eM2, ← hV]
            let E : DL.Env := [some (.scr ns), some (.loc 0), some V, some (.int K), some (.int n), some (.int Z), some (.int kd), some z, none]
            have t1 : slpD (nameD 2) (noneO) (someO (nameD 5)) (noneO) E M2 = ok (.tup (ds.take m)) M2 := slp_takeT (K := Z) (by rw [← hV]; rfl) rfl hZ (by omega) (by omega)
            have t2 : slpD (nameD 2) (someO (binD addBF (nameD 5) (cD (.int 1)))) (noneO) (noneO) E M2 = ok (.tup (ds.drop (m + 1))) M2 := slp_dropT (K := Z + 1) (by rw [← hV]; rfl) rfl (by omega) (by omega) (by omega)
            refine ob_rt (e0 := [some (.scr ns), some (.loc 0), some V, some (.int K), none, none, none, none, none]) rfl ?_
            unfold den__law_spoilt
            rw [seq_nx (e' := [some (.scr ns), some (.loc 0), some V, some (.int K), some (.int n), none, none, none, none]) (M' := M1) (by simp [seqS, ifS, retS, raiseF, raiseS, consA, nilA, binD, callD, nameD, cD, bindE_v, thenS_v, bindE_x, thenS_x, unD, parS, asgS, tupD, int2F, eq_int, ne_int, intF0, negF, notF, nilS, brD, fnD, addE, subE, ix0, ix1, dropS, asgG, tupG, consG, nameG, nilG, lstD, andD, orD, tstD, ownS, appS, len_tup, len_lst, tup_tup, wipeE, set1, set2, typ_int, typ_tup, typ_non, typ_lst, isF, chainD, asT, truD, len_row, typ_row, hcell])]
            rw [seq_nx (e' := [some (.scr ns), some (.loc 0), some V, some (.int K), some (.int n), none, none, none, none]) (M' := M1) (by simp [seqS, ifS, retS, raiseF, raiseS, consA, nilA, binD, callD, nameD, cD, bindE_v, thenS_v, bindE_x, thenS_x, unD, parS, asgS, tupD, int2F, eq_int, ne_int, intF0, negF, notF, nilS, brD, fnD, addE, subE, ix0, ix1, dropS, asgG, tupG, consG, nameG, nilG, lstD, andD, orD, tstD, ownS, appS, len_tup, len_lst, tup_tup, wipeE, set1, set2, typ_int, typ_tup, typ_non, typ_lst, isF, chainD, asT, truD, len_row, typ_row, s1', e1, kn])]
            rw [seq_nx (e' := [some (.scr ns), some (.loc 0), some V, some (.int K), some (.int n), some (.int Z), some (.int kd), none, none]) (M' := M1) (by simp [seqS, ifS, retS, raiseF, raiseS, consA, nilA, binD, callD, nameD, cD, bindE_v, thenS_v, bindE_x, thenS_x, unD, parS, asgS, tupD, int2F, eq_int, ne_int, intF0, negF, notF, nilS, brD, fnD, addE, subE, ix0, ix1, dropS, asgG, tupG, consG, nameG, nilG, lstD, andD, orD, tstD, ownS, appS, len_tup, len_lst, tup_tup, wipeE, set1, set2, typ_int, typ_tup, typ_non, typ_lst, isF, chainD, asT, truD, len_row, typ_row, lV, fN, d1, m9])]
            refine seq_rt ?_
            unfold ifS
            rw [show binD (ltF) (nameD 6) (cD (.int 6)) [some (.scr ns), some (.loc 0), some V, some (.int K), some (.int n), some (.int Z), some (.int kd), none, none] M1 = ok (.bl true) M1 by
              show ltF (.int kd) (.int 6) M1 = _
              rw [lt_int, decide_eq_true hk6], thenS_v]
            show seqS _ _ _ _ = _
            rw [seq_nx (e' := E) (M' := M2) (by simp [seqS, ifS, retS, raiseF, raiseS, consA, nilA, binD, callD, nameD, cD, bindE_v, thenS_v, bindE_x, thenS_x, unD, parS, asgS, tupD, int2F, eq_int, ne_int, intF0, negF, notF, nilS, brD, fnD, addE, subE, ix0, ix1, dropS, asgG, tupG, consG, nameG, nilG, lstD, andD, orD, tstD, ownS, appS, len_tup, len_lst, tup_tup, wipeE, set1, set2, typ_int, typ_tup, typ_non, typ_lst, isF, chainD, asT, truD, len_row, typ_row, ix, z4, E])]
            show thenS (binD addBF (binD addBF (slpD (nameD 2) (noneO) (someO (nameD 5)) (noneO)) (tupD (consA (nameD 7) (nilA)))) (slpD (nameD 2) (someO (binD addBF (nameD 5) (cD (.int 1)))) (noneO) (noneO)) E M2) E _ = _
            rw [bin_v (a := .tup (ds.take m ++ [z])) ((bin_v t1 rfl).trans (add_tups (by rw [lt1]; simp; omega))) t2, add_tups (by rw [List.length_append, lt1, ld1]; simp; omega)]
            rfl
        · have x1 : ∃ j : Nat, j < 3 ∧ kd - 6 = (j : Int) := ⟨(kd - 6).toNat, by omega, by omega⟩
          obtain ⟨j, hj1, hj2⟩ := x1
          obtain ⟨P1, hP1⟩ : ∃ P, P = D.tup (ds.take m ++ ds.drop (m + 1)) := ⟨_, rfl⟩
          obtain ⟨P2, hP2⟩ : ∃ P, P = D.tup (ds.take (m + 1) ++ ds.drop m) := ⟨_, rfl⟩
          obtain ⟨P3, hP3⟩ : ∃ P, P = D.lst ds := ⟨_, rfl⟩
          obtain ⟨y, hy⟩ : ∃ y, [P1, P2, P3][j]? = some y := ⟨_, List.getElem?_eq_getElem (by simpa using hj1)⟩
          have sp1 := sz_split m ds
          have sp2 := sz_split (m + 1) ds
          have dd1 := dp_split m ds
          have dd2 := dp_split (m + 1) ds
          have good : okB (B + 2) y = true ∧ szE y ≤ 2 * szE (.tup ds) + 10 ∧ dpE y ≤ dpE (.tup ds) + 1 := by
            have hm2 := List.mem_of_getElem? hy
            have okm : okBs (B + 2) ds = true := okBs_mono (by omega) _ okds
            rw [szV, dpV]
            simp only [List.not_mem_nil, or_false, List.mem_cons] at hm2
            rcases hm2 with rfl | rfl | rfl
            · rw [hP1]
              refine ⟨okBs_app (okBs_take _ okm) (okBs_drop _ okm), ?_, ?_⟩
              · show szEs (ds.take m ++ ds.drop (m + 1)) ≤ _
                rw [szEs_app]
                omega
              · show dpEs (ds.take m ++ ds.drop (m + 1)) + 1 ≤ _
                rw [dpEs_app]
                omega
            · rw [hP2]
              refine ⟨okBs_app (okBs_take _ okm) (okBs_drop _ okm), ?_, ?_⟩
              · show szEs (ds.take (m + 1) ++ ds.drop m) ≤ _
                rw [szEs_app]
                omega
              · show dpEs (ds.take (m + 1) ++ ds.drop m) + 1 ≤ _
                rw [dpEs_app]
                omega
            · rw [hP3]
              refine ⟨okm, ?_, ?_⟩
              · show szEs ds ≤ _
                omega
              · show dpEs ds + 1 ≤ _
                omega
          refine ⟨y, c + 1, by omega, good.1, good.2.1, good.2.2, ?_⟩
          rw [← hM1, ← hV]
          let E : DL.Env := [some (.scr ns), some (.loc 0), some V, some (.int K), some (.int n), some (.int Z), some (.int kd), none, none]
          have t1 : ∀ M, slpD (nameD 2) (noneO) (someO (nameD 5)) (noneO) E M = ok (.tup (ds.take m)) M := fun M => slp_takeT (K := Z) (by rw [← hV]; rfl) rfl hZ (by omega) (by omega)
          have t2 : ∀ M, slpD (nameD 2) (someO (binD addBF (nameD 5) (cD (.int 1)))) (noneO) (noneO) E M = ok (.tup (ds.drop (m + 1))) M := fun M => slp_dropT (K := Z + 1) (by rw [← hV]; rfl) rfl (by omega) (by omega) (by omega)
          have t3 : ∀ M, slpD (nameD 2) (noneO) (someO (binD addBF (nameD 5) (cD (.int 1)))) (noneO) E M = ok (.tup (ds.take (m + 1))) M := fun M => slp_takeT (K := Z + 1) (by rw [← hV]; rfl) rfl (by omega) (by omega) (by omega)
          have t4 : ∀ M, slpD (nameD 2) (someO (nameD 5)) (noneO) (noneO) E M = ok (.tup (ds.drop m)) M := fun M => slp_dropT (K := Z) (by rw [← hV]; rfl) rfl hZ (by omega) (by omega)
          have lt2 : (ds.take (m + 1)).length = m + 1 := by rw [List.length_take]; omega
          have ld2 : (ds.drop m).length = ds.length - m := List.length_drop
          have u1 : ∀ M, binD addBF (slpD (nameD 2) (noneO) (someO (nameD 5)) (noneO)) (slpD (nameD 2) (someO (binD addBF (nameD 5) (cD (.int 1)))) (noneO) (noneO)) E M = ok P1 M := fun M => by
            rw [bin_v (t1 M) (t2 M), add_tups (by omega), hP1]
          have u2 : ∀ M, binD addBF (slpD (nameD 2) (noneO) (someO (binD addBF (nameD 5) (cD (.int 1)))) (noneO)) (slpD (nameD 2) (someO (nameD 5)) (noneO) (noneO)) E M = ok P2 M := fun M => by
            rw [bin_v (t3 M) (t4 M), add_tups (by omega), hP2]
          have lc : ∀ M, lstcF [V] M = ok P3 M := fun M => by rw [hV, hP3]; rfl
          have ad3 : ∀ M, addBF (.lst [P1, P2]) (.lst [P3]) M = ok (.lst [P1, P2, P3]) M := fun M => add_lstB (by simp)
          have iy : ∀ M, ixF (.lst [P1, P2, P3]) (.int (kd - 6)) M = ok y M := fun M => by rw [hj2]; exact ix_lst (at_nat hy)
          refine ob_rt (e0 := [some (.scr ns), some (.loc 0), some V, some (.int K), none, none, none, none, none]) rfl ?_
          unfold den__law_spoilt
          rw [seq_nx (e' := [some (.scr ns), some (.loc 0), some V, some (.int K), some (.int n), none, none, none, none]) (M' := M1) (by simp [seqS, ifS, retS, raiseF, raiseS, consA, nilA, binD, callD, nameD, cD, bindE_v, thenS_v, bindE_x, thenS_x, unD, parS, asgS, tupD, int2F, eq_int, ne_int, intF0, negF, notF, nilS, brD, fnD, addE, subE, ix0, ix1, dropS, asgG, tupG, consG, nameG, nilG, lstD, andD, orD, tstD, ownS, appS, len_tup, len_lst, tup_tup, wipeE, set1, set2, typ_int, typ_tup, typ_non, typ_lst, isF, chainD, asT, truD, len_row, typ_row, hcell])]
          rw [seq_nx (e' := [some (.scr ns), some (.loc 0), some V, some (.int K), some (.int n), none, none, none, none]) (M' := M1) (by simp [seqS, ifS, retS, raiseF, raiseS, consA, nilA, binD, callD, nameD, cD, bindE_v, thenS_v, bindE_x, thenS_x, unD, parS, asgS, tupD, int2F, eq_int, ne_int, intF0, negF, notF, nilS, brD, fnD, addE, subE, ix0, ix1, dropS, asgG, tupG, consG, nameG, nilG, lstD, andD, orD, tstD, ownS, appS, len_tup, len_lst, tup_tup, wipeE, set1, set2, typ_int, typ_tup, typ_non, typ_lst, isF, chainD, asT, truD, len_row, typ_row, s1', e1, kn])]
          rw [seq_nx (e' := E) (M' := M1) (by simp [seqS, ifS, retS, raiseF, raiseS, consA, nilA, binD, callD, nameD, cD, bindE_v, thenS_v, bindE_x, thenS_x, unD, parS, asgS, tupD, int2F, eq_int, ne_int, intF0, negF, notF, nilS, brD, fnD, addE, subE, ix0, ix1, dropS, asgG, tupG, consG, nameG, nilG, lstD, andD, orD, tstD, ownS, appS, len_tup, len_lst, tup_tup, wipeE, set1, set2, typ_int, typ_tup, typ_non, typ_lst, isF, chainD, asT, truD, len_row, typ_row, lV, fN, d1, m9, E])]
          rw [seq_nx (e' := E) (M' := M1) (by
            unfold ifS
            rw [show binD (ltF) (nameD 6) (cD (.int 6)) E M1 = ok (.bl false) M1 by
              show ltF (.int kd) (.int 6) M1 = _
              rw [lt_int, decide_eq_false hk6], thenS_v]
            rfl)]
          have w1 : lstD (consA (binD addBF (slpD (nameD 2) (noneO) (someO (nameD 5)) (noneO)) (slpD (nameD 2) (someO (binD addBF (nameD 5) (cD (.int 1)))) (noneO) (noneO))) (consA (binD addBF (slpD (nameD 2) (noneO) (someO (binD addBF (nameD 5) (cD (.int 1)))) (noneO)) (slpD (nameD 2) (someO (nameD 5)) (noneO) (noneO))) (nilA))) E M1 = ok (.lst [P1, P2]) M1 := by
            unfold lstD consA
            rw [u1, bindE_v, u2, bindE_v]
            rfl
          rw [seq_nx (e' := [some (.scr ns), some (.loc 0), some V, some (.int K), some (.int n), some (.int Z), some (.int kd), none, some (.lst [P1, P2])]) (M' := M1) (asg_v w1)]
          simp [seqS, ifS, retS, raiseF, raiseS, consA, nilA, binD, callD, nameD, cD, bindE_v, thenS_v, bindE_x, thenS_x, unD, parS, asgS, tupD, int2F, eq_int, ne_int, intF0, negF, notF, nilS, brD, fnD, addE, subE, ix0, ix1, dropS, asgG, tupG, consG, nameG, nilG, lstD, andD, orD, tstD, ownS, appS, len_tup, len_lst, tup_tup, wipeE, set1, set2, typ_int, typ_tup, typ_non, typ_lst, isF, chainD, asT, truD, len_row, typ_row, lc, ad3, iy]
end
end K02
namespace K02
open PySem L2 DL
section
variable {B w h n s : Nat} {M : Store} {H : Nat → Nat → Int} {W : Nat → Nat → Int × Int} {base : Int}
theorem ok_row {g : Nat → D} (h : ∀ i, i < n → okB B (g i) = true) : okB B (rowD n g) = true := okBs_all.mpr fun d hd => by
  obtain ⟨i, hi, rfl⟩ := List.mem_map.mp hd
  exact h i (List.mem_range.mp hi)
theorem szEs_le : ∀ {ds : List D}, (∀ d ∈ ds, szE d ≤ s) → szEs ds ≤ ds.length * (s + 1)
  | [], _ => Nat.zero_le _
  | d :: ds, h => by
    have h1 := h d List.mem_cons_self
    have h2 := szEs_le (ds := ds) fun x hx => h x (List.mem_cons_of_mem _ hx)
    show szE d + 1 + szEs ds ≤ (ds.length + 1) * (s + 1)
    rw [Nat.succ_mul]
    omega
theorem dpEs_le : ∀ {ds : List D}, (∀ d ∈ ds, dpE d ≤ s) → dpEs ds ≤ s
  | [], _ => Nat.zero_le _
  | d :: ds, h => Nat.max_le.mpr ⟨h d List.mem_cons_self, dpEs_le fun x hx => h x (List.mem_cons_of_mem _ hx)⟩
theorem sz_row {g : Nat → D} (h : ∀ i, i < n → szE (g i) ≤ s) : szE (rowD n g) ≤ n * (s + 1) := by
  have q := szEs_le (ds := (List.range n).map g) (s := s) fun d hd => by
    obtain ⟨i, hi, rfl⟩ := List.mem_map.mp hd
    exact h i (List.mem_range.mp hi)
  rwa [List.length_map (as := List.range n), List.length_range] at q
theorem dp_row {g : Nat → D} (h : ∀ i, i < n → dpE (g i) ≤ s) : dpE (rowD n g) ≤ s + 1 := Nat.succ_le_succ (dpEs_le fun d hd => by
  obtain ⟨i, hi, rfl⟩ := List.mem_map.mp hd
  exact h i (List.mem_range.mp hi))
/-- what is small enough to be looked at -/
structure Fit (B : Nat) (x : D) : Prop where
  ok : okB B x = true
  sz : szE x ≤ 700
  dp : dpE x ≤ 4
theorem fit_field {f : Nat → Nat → Int} {g : Nat → Nat → Int × Int} (hw : w ≤ 12) (hh : h ≤ 12) (hf : ∀ x y, x < w → y < h → (f x y).natAbs ≤ B) (hg : ∀ x y, x < w → y < h → (g x y).1.natAbs ≤ B ∧ (g x y).2.natAbs ≤ B) : Fit B (.tup [tabD w h (hD f), tabD w h (wD g)]) := by
  have a1 : okB B (tabD w h (hD f)) = true := ok_row fun y hy => ok_row fun x hx => decide_eq_true (hf x y hx hy)
  have a2 : okB B (tabD w h (wD g)) = true := ok_row fun y hy => ok_row fun x hx => by
    show (decide ((g x y).1.natAbs ≤ B) && (decide ((g x y).2.natAbs ≤ B) && true)) = true
    rw [decide_eq_true (hg x y hx hy).1, decide_eq_true (hg x y hx hy).2]
    rfl
  have b1 : szE (tabD w h (hD f)) ≤ h * (12 + 1) := sz_row fun y hy => Nat.le_trans (sz_row (s := 0) fun x hx => Nat.zero_le _) (by omega)
  have b2 : szE (tabD w h (wD g)) ≤ h * (36 + 1) := sz_row fun y hy => Nat.le_trans (sz_row (s := 2) fun x hx => Nat.le_refl _) (by omega)
  have c1 : dpE (tabD w h (hD f)) ≤ 2 := dp_row fun y hy => dp_row fun x hx => Nat.zero_le _
  have c2 : dpE (tabD w h (wD g)) ≤ 3 := dp_row fun y hy => dp_row fun x hx => Nat.le_refl _
  refine ⟨?_, ?_, ?_⟩
  · show (okB B (tabD w h (hD f)) && (okB B (tabD w h (wD g)) && true)) = true
    rw [a1, a2]
    rfl
  · show szE (tabD w h (hD f)) + 1 + (szE (tabD w h (wD g)) + 1 + 0) ≤ 700
    omega
  · show max (dpE (tabD w h (hD f))) (max (dpE (tabD w h (wD g))) 0) + 1 ≤ 4
    omega
theorem look_fit {x : D} (hB : B < 2 ^ 99) (h : Fit B x) (M : Store) : m__law_looked_at [x] M = ok (.bl true) M := looked_ok hB h.ok (Nat.le_trans h.sz (by decide)) (Nat.le_trans h.dp (by decide))
theorem hs_col (hs : HS w h base H) (w1 : 1 ≤ w) : ∀ y, y < h → (H 0 y - base).natAbs ≤ y
  | 0, hy => by
    have := hs.o hy
    omega
  | y + 1, hy => by
    have h1 := hs_col hs w1 y (by omega)
    have := hs.sy 0 y (by omega) hy
    omega
theorem hs_all (hs : HS w h base H) (y : Nat) (hy : y < h) : ∀ x, x < w → (H x y - base).natAbs ≤ x + y
  | 0, hx => by
    have := hs_col hs (by omega) y hy
    omega
  | x + 1, hx => by
    have h1 := hs_all hs y hy x (by omega)
    have := hs.sx x y hx hy
    omega
theorem ws_small {p : Int × Int} (h : WS p) : p.1.natAbs ≤ 10 ^ 20 ∧ p.2.natAbs ≤ 10 ^ 20 := by
  have := h.a9
  have := h.b1
  have := h.b2
  constructor <;> omega
end
abbrev hB (far : Int) : Nat → Nat → Int := fun x y => far - (far + (x : Int) + (y : Int)) % 2
abbrev one1 : Nat → Nat → Int × Int := fun _ _ => (1, 1)
section
variable {M : Store} {s0 s1 a2 a3 a4 a6 a7 a8 a9 a10 a11 a12 a13 : Option D} {far : Int}
theorem flat_one {d : D} : ∀ k : Nat, (List.replicate k [d]).flatten = (List.range k).map fun _ => d
  | 0 => rfl
  | k + 1 => by
    have ih := flat_one (d := d) k
    rw [List.replicate_succ', List.flatten_append, ih, List.range_succ, List.map_append]
    rfl
theorem mulT {d : D} {k : Nat} (h1 : 2 ≤ k) (h2 : k ≤ 1000) : mulTF (.tup [d]) (.int (k : Int)) M = ok (rowD k fun _ => d) M := by
  show (if 2 ≤ (k : Int) ∧ (k : Int) ≤ 1000 ∧ [d].length ≤ 1000 ∧ [d] ≠ [] then ok (D.tup (List.replicate (k : Int).toNat [d]).flatten) M else none) = _
  rw [if_pos ⟨by omega, by omega, by show 1 ≤ 1000; decide, by simp⟩, Int.toNat_natCast, flat_one]
  rfl
theorem look4 {f : Nat → Nat → Int} (hf : ∀ x y, x < 4 → y < 4 → (f x y).natAbs ≤ 1000) (M : Store) : m__law_looked_at [.tup [tabD 4 4 (hD f), tabD 4 4 (wD one1)]] M = ok (.bl true) M :=
  look_fit (B := 1000) (by decide) (fit_field (by decide) (by decide) hf fun _ _ _ _ => ⟨by show (1 : Int).natAbs ≤ 1000; decide, by show (1 : Int).natAbs ≤ 1000; decide⟩) M
theorem addTT {x : D} {xs ys : List D} (h : (x :: xs).length + ys.length ≤ 100000) : addF (.tup (x :: xs)) (.tup ys) M = ok (.tup (x :: xs ++ ys)) M := by
  have q3 : 100000 ≤ sizeLine := by decide
  show addF (.tup (x :: xs)) (.tup ys) M = _
  exact if_pos ⟨by omega, by simp⟩
theorem addT2 {a b c d : D} : addF (.tup [a, b]) (.tup [c, d]) M = ok (.tup [a, b, c, d]) M := addTT (by simp)
theorem addT1 {a v : D} : addF (.tup [a]) (.tup [v]) M = ok (.tup [a, v]) M := addTT (by simp)
theorem addT3 {a b v : D} : addF (.tup [a, b]) (.tup [v]) M = ok (.tup [a, b, v]) M := addTT (by simp)
theorem addT4 {a b c d : D} : addF (.tup [a, b, c]) (.tup [d]) M = ok (.tup [a, b, c, d]) M := addTT (by simp)
/-- the one of four -/
def sel4 (a b c d : Int) : Nat → Int
  | 0 => a
  | 1 => b
  | 2 => c
  | _ => d
theorem from2 {L : Nat} {a b c d : D} (h : M[L]? = some (.lst [a, b, c, d])) : slcF (.loc L) (some 2) none none M = ok (.lst [c, d]) M := by
  have hg : getL M (.loc L) = some [a, b, c, d] := by simp [getL, h]
  have q : sliceRange (sliceBounds (some 2) none none 4).1 (sliceBounds (some 2) none none 4).2.1 (sliceBounds (some 2) none none 4).2.2 = [2, 3] := by decide
  unfold slcF pickL
  rw [hg]
  dsimp only
  rw [if_neg (by decide)]
  show ok (D.lst (List.filterMap _ (sliceRange (sliceBounds (some 2) none none 4).1 (sliceBounds (some 2) none none 4).2.1 (sliceBounds (some 2) none none 4).2.2))) M = _
  rw [q]
  rfl
noncomputable abbrev kS : DenS := seqS (asgS 10 (binD ixF (lstD (consA (binD ixF (nameD 8) (cD (.int 0))) (consA (binD ixF (nameD 8) (cD (.int 3))) (nilA)))) (binD subF (nameD 9) (cD (.int 1))))) (seqS (asgS 11 (binD addF (binD addF (slpD (nameD 8) (noneO) (someO (nameD 9)) (noneO)) (tupD (consA (binD subF (binD mulF (cD (.int 2)) (nameD 10)) (binD ixF (nameD 8) (nameD 9))) (nilA)))) (slpD (nameD 8) (someO (binD addF (nameD 9) (cD (.int 1)))) (noneO) (noneO)))) (seqS (asgS 12 (binD addF (tupD (consA (binD ixF (nameD 6) (cD (.int 0))) (consA (nameD 11) (nilA)))) (callD (tupcF) (consA (slpD (nameD 6) (someO (cD (.int 2))) (noneO) (noneO)) (nilA))))) (ifS (unD notF (tstD (fnD m__law_looked_at 1 [] (consA (tupD (consA (nameD 12) (consA (binD mulTF (tupD (consA (binD mulTF (tupD (consA (tupD (consA (cD (.int 1)) (consA (cD (.int 1)) (nilA)))) (nilA))) (cD (.int 4))) (nilA))) (cD (.int 4))) (nilA)))) (nilA))))) (retS (cD (.bl false))) (nilS))))
theorem ones4 : ∃ Q, (∀ M, mulTF (.tup [.tup [.int 1, .int 1]]) (.int 4) M = ok Q M) ∧ ∀ M, mulTF (.tup [Q]) (.int 4) M = ok (tabD 4 4 (wD one1)) M :=
  ⟨rowD 4 fun _ => .tup [.int 1, .int 1], fun M => mulT (k := 4) (by decide) (by decide), fun M => mulT (k := 4) (by decide) (by decide)⟩
theorem k_ok {L : Nat} {q0 q1 q2 q3 : D} {r0 r1 r2 r3 : Int} {f : Nat → Nat → Int} (hL : M[L]? = some (.lst [q0, q1, q2, q3])) (h0 : q0 = rowD 4 fun x => hD f x 0) (h2 : q2 = rowD 4 fun x => hD f x 2) (h3 : q3 = rowD 4 fun x => hD f x 3)
    (hf : ∀ x y, x < 4 → y < 4 → (f x y).natAbs ≤ 100) (b0 : r0.natAbs ≤ 100) (b1 : r1.natAbs ≤ 100) (b2 : r2.natAbs ≤ 100) (b3 : r3.natAbs ≤ 100) {k : Int} (hk : k = 1 ∨ k = 2) :
    ∃ b10 b11 b12, kS [s0, s1, a2, a3, a4, some (.int far), some (.loc L), a7, some (.tup [.int r0, .int r1, .int r2, .int r3]), some (.int k), a10, a11, a12, a13] M = some (.nx [s0, s1, a2, a3, a4, some (.int far), some (.loc L), a7, some (.tup [.int r0, .int r1, .int r2, .int r3]), some (.int k), b10, b11, b12, a13], M) := by
  obtain ⟨V, hV⟩ : ∃ V, V = D.tup [.int r0, .int r1, .int r2, .int r3] := ⟨_, rfl⟩
  obtain ⟨U, hU⟩ : ∃ U, U = tabD 4 4 (wD one1) := ⟨_, rfl⟩
  obtain ⟨Q, u1, u2⟩ := ones4
  have u2 : ∀ M, mulTF (.tup [Q]) (.int 4) M = ok U M := fun M => by rw [hU]; exact u2 M
  have i0 : ixF (.loc L) (.int 0) M = ok q0 M := ix_loc hL rfl
  have v0 : ∀ M, ixF V (.int 0) M = ok (.int r0) M := fun M => by rw [hV]; exact ix_tup rfl
  have v1 : ∀ M, ixF V (.int 1) M = ok (.int r1) M := fun M => by rw [hV]; exact ix_tup rfl
  have v2 : ∀ M, ixF V (.int 2) M = ok (.int r2) M := fun M => by rw [hV]; exact ix_tup rfl
  have v3 : ∀ M, ixF V (.int 3) M = ok (.int r3) M := fun M => by rw [hV]; exact ix_tup rfl
  have sl := from2 hL
  have fin : ∀ t0 t1 t2 t3 : Int, t0.natAbs ≤ 1000 → t1.natAbs ≤ 1000 → t2.natAbs ≤ 1000 → t3.natAbs ≤ 1000 → ∀ M, m__law_looked_at [.tup [.tup [q0, .tup [.int t0, .int t1, .int t2, .int t3], q2, q3], U]] M = ok (.bl true) M := fun t0 t1 t2 t3 p0 p1 p2 p3 M => by
    have q := look4 (f := fun x y => if y = 1 then sel4 t0 t1 t2 t3 x else f x y) (fun x y hx hy => by
      show (if y = 1 then sel4 t0 t1 t2 t3 x else f x y).natAbs ≤ 1000
      by_cases e : y = 1
      · rw [if_pos e]
        match x, hx with
        | 0, _ => exact p0
        | 1, _ => exact p1
        | 2, _ => exact p2
        | 3, _ => exact p3
      · rw [if_neg e]
        exact Nat.le_trans (hf x y hx hy) (by decide)) M
    rw [h0, h2, h3, hU]
    exact q
  have tl : ∀ M, tupcF [.lst [q2, q3]] M = ok (.tup [q2, q3]) M := fun M => tup_lst (by simp)
  have at2 : ∀ x M, addF (.tup [q0, x]) (.tup [q2, q3]) M = ok (.tup [q0, x, q2, q3]) M := fun x M => addT2
  rcases hk with rfl | rfl
  · obtain ⟨m, hm⟩ : ∃ m, m = 2 * r0 := ⟨_, rfl⟩
    have m2 : ∀ M, mulF (.int 2) (.int r0) M = ok (.int m) M := fun M => by rw [hm]; exact mulB (k := 2) (l := 7) (by unfold Bd; decide) (by unfold Bd; omega) (by decide)
    have e3 : ∀ M, ixF (.lst [.int r0, .int r3]) (.int 0) M = ok (.int r0) M := fun M => ix_lst rfl
    obtain ⟨X, hX⟩ : ∃ X, X = D.tup [.int r0, .int (m - r1), .int r2, .int r3] := ⟨_, rfl⟩
    have fn := fin r0 (m - r1) r2 r3 (by omega) (by omega) (by omega) (by omega)
    rw [← hX] at fn
    rw [← hV]
    let E : Option D → Option D → Option D → DL.Env := fun b10 b11 b12 => [s0, s1, a2, a3, a4, some (.int far), some (.loc L), a7, some V, some (.int 1), b10, b11, b12, a13]
    have t1 : ∀ a b c, slpD (nameD 8) (noneO) (someO (nameD 9)) (noneO) (E a b c) M = ok (.tup [.int r0]) M := fun a b c => slp_takeT (ds := [.int r0, .int r1, .int r2, .int r3]) (k := 1) (K := 1) (by rw [← hV]; rfl) rfl rfl (by simp) (by simp)
    have t2 : ∀ a b c, slpD (nameD 8) (someO (binD addF (nameD 9) (cD (.int 1)))) (noneO) (noneO) (E a b c) M = ok (.tup [.int r2, .int r3]) M := fun a b c => slp_dropT (ds := [.int r0, .int r1, .int r2, .int r3]) (k := 2) (K := 2) (by rw [← hV]; rfl) rfl rfl (by simp) (by simp)
    have w1 : ∀ b c, binD addF (binD addF (slpD (nameD 8) (noneO) (someO (nameD 9)) (noneO)) (tupD (consA (binD subF (binD mulF (cD (.int 2)) (nameD 10)) (binD ixF (nameD 8) (nameD 9))) (nilA)))) (slpD (nameD 8) (someO (binD addF (nameD 9) (cD (.int 1)))) (noneO) (noneO)) (E (some (.int r0)) b c) M = ok X M := fun b c => by
      rw [bin_v (a := .tup [.int r0, .int (m - r1)]) ((bin_v (t1 _ _ _) (b := .tup [.int (m - r1)]) (by
        show tupD _ [s0, s1, a2, a3, a4, some (.int far), some (.loc L), a7, some V, some (.int 1), some (.int r0), b, c, a13] M = _
        simp [seqS, ifS, retS, raiseF, raiseS, consA, nilA, binD, callD, nameD, cD, bindE_v, thenS_v, bindE_x, thenS_x, unD, parS, asgS, tupD, int2F, eq_int, ne_int, intF0, negF, notF, nilS, brD, fnD, addE, subE, ix0, ix1, dropS, asgG, tupG, consG, nameG, nilG, lstD, andD, orD, tstD, ownS, appS, len_tup, len_lst, tup_tup, wipeE, set1, set2, typ_int, typ_tup, typ_non, typ_lst, isF, chainD, asT, truD, len_row, typ_row, m2, v1])).trans addT1) (t2 _ _ _), addT2, hX]
    refine ⟨some (.int r0), some X, some (.tup [q0, X, q2, q3]), ?_⟩
    unfold kS
    rw [seq_nx (e' := E (some (.int r0)) a11 a12) (M' := M) (by
      show asgS _ _ [s0, s1, a2, a3, a4, some (.int far), some (.loc L), a7, some V, some (.int 1), a10, a11, a12, a13] M = _
      simp [seqS, ifS, retS, raiseF, raiseS, consA, nilA, binD, callD, nameD, cD, bindE_v, thenS_v, bindE_x, thenS_x, unD, parS, asgS, tupD, int2F, eq_int, ne_int, intF0, negF, notF, nilS, brD, fnD, addE, subE, ix0, ix1, dropS, asgG, tupG, consG, nameG, nilG, lstD, andD, orD, tstD, ownS, appS, len_tup, len_lst, tup_tup, wipeE, set1, set2, typ_int, typ_tup, typ_non, typ_lst, isF, chainD, asT, truD, len_row, typ_row, v0, v3, e3]
      rfl)]
    rw [seq_nx (e' := E (some (.int r0)) (some X) a12) (M' := M) (asg_v (w1 _ _))]
    rw [seq_nx (e' := E (some (.int r0)) (some X) (some (.tup [q0, X, q2, q3]))) (M' := M) (asg_v (by
      show binD addF _ _ [s0, s1, a2, a3, a4, some (.int far), some (.loc L), a7, some V, some (.int 1), some (.int r0), some X, a12, a13] M = _
      refine (bin_v (a := .tup [q0, X]) (b := .tup [q2, q3]) (M1 := M) (M2 := M) (by simp [seqS, ifS, retS, raiseF, raiseS, consA, nilA, binD, callD, nameD, cD, bindE_v, thenS_v, bindE_x, thenS_x, unD, parS, asgS, tupD, int2F, eq_int, ne_int, intF0, negF, notF, nilS, brD, fnD, addE, subE, ix0, ix1, dropS, asgG, tupG, consG, nameG, nilG, lstD, andD, orD, tstD, ownS, appS, len_tup, len_lst, tup_tup, wipeE, set1, set2, typ_int, typ_tup, typ_non, typ_lst, isF, chainD, asT, truD, len_row, typ_row, i0]) ?_).trans (at2 X M)
      show bindE (bindE (slcF (.loc L) (some 2) none none M) _) _ = _
      rw [sl]
      exact tl M))]
    show ifS _ _ _ [s0, s1, a2, a3, a4, some (.int far), some (.loc L), a7, some V, some (.int 1), some (.int r0), some X, some (.tup [q0, X, q2, q3]), a13] M = _
    simp [seqS, ifS, retS, raiseF, raiseS, consA, nilA, binD, callD, nameD, cD, bindE_v, thenS_v, bindE_x, thenS_x, unD, parS, asgS, tupD, int2F, eq_int, ne_int, intF0, negF, notF, nilS, brD, fnD, addE, subE, ix0, ix1, dropS, asgG, tupG, consG, nameG, nilG, lstD, andD, orD, tstD, ownS, appS, len_tup, len_lst, tup_tup, wipeE, set1, set2, typ_int, typ_tup, typ_non, typ_lst, isF, chainD, asT, truD, len_row, typ_row, u1, u2, fn]
  · obtain ⟨m, hm⟩ : ∃ m, m = 2 * r3 := ⟨_, rfl⟩
    have m2 : ∀ M, mulF (.int 2) (.int r3) M = ok (.int m) M := fun M => by rw [hm]; exact mulB (k := 2) (l := 7) (by unfold Bd; decide) (by unfold Bd; omega) (by decide)
    have e3 : ∀ M, ixF (.lst [.int r0, .int r3]) (.int 1) M = ok (.int r3) M := fun M => ix_lst rfl
    obtain ⟨X, hX⟩ : ∃ X, X = D.tup [.int r0, .int r1, .int (m - r2), .int r3] := ⟨_, rfl⟩
    have fn := fin r0 r1 (m - r2) r3 (by omega) (by omega) (by omega) (by omega)
    rw [← hX] at fn
    rw [← hV]
    let E : Option D → Option D → Option D → DL.Env := fun b10 b11 b12 => [s0, s1, a2, a3, a4, some (.int far), some (.loc L), a7, some V, some (.int 2), b10, b11, b12, a13]
    have t1 : ∀ a b c, slpD (nameD 8) (noneO) (someO (nameD 9)) (noneO) (E a b c) M = ok (.tup [.int r0, .int r1]) M := fun a b c => slp_takeT (ds := [.int r0, .int r1, .int r2, .int r3]) (k := 2) (K := 2) (by rw [← hV]; rfl) rfl rfl (by simp) (by simp)
    have t2 : ∀ a b c, slpD (nameD 8) (someO (binD addF (nameD 9) (cD (.int 1)))) (noneO) (noneO) (E a b c) M = ok (.tup [.int r3]) M := fun a b c => slp_dropT (ds := [.int r0, .int r1, .int r2, .int r3]) (k := 3) (K := 3) (by rw [← hV]; rfl) rfl rfl (by simp) (by simp)
    have w1 : ∀ b c, binD addF (binD addF (slpD (nameD 8) (noneO) (someO (nameD 9)) (noneO)) (tupD (consA (binD subF (binD mulF (cD (.int 2)) (nameD 10)) (binD ixF (nameD 8) (nameD 9))) (nilA)))) (slpD (nameD 8) (someO (binD addF (nameD 9) (cD (.int 1)))) (noneO) (noneO)) (E (some (.int r3)) b c) M = ok X M := fun b c => by
      rw [bin_v (a := .tup [.int r0, .int r1, .int (m - r2)]) ((bin_v (t1 _ _ _) (b := .tup [.int (m - r2)]) (by
        show tupD _ [s0, s1, a2, a3, a4, some (.int far), some (.loc L), a7, some V, some (.int 2), some (.int r3), b, c, a13] M = _
        simp [seqS, ifS, retS, raiseF, raiseS, consA, nilA, binD, callD, nameD, cD, bindE_v, thenS_v, bindE_x, thenS_x, unD, parS, asgS, tupD, int2F, eq_int, ne_int, intF0, negF, notF, nilS, brD, fnD, addE, subE, ix0, ix1, dropS, asgG, tupG, consG, nameG, nilG, lstD, andD, orD, tstD, ownS, appS, len_tup, len_lst, tup_tup, wipeE, set1, set2, typ_int, typ_tup, typ_non, typ_lst, isF, chainD, asT, truD, len_row, typ_row, m2, v2])).trans addT3) (t2 _ _ _), addT4, hX]
    refine ⟨some (.int r3), some X, some (.tup [q0, X, q2, q3]), ?_⟩
    unfold kS
    rw [seq_nx (e' := E (some (.int r3)) a11 a12) (M' := M) (by
      show asgS _ _ [s0, s1, a2, a3, a4, some (.int far), some (.loc L), a7, some V, some (.int 2), a10, a11, a12, a13] M = _
      simp [seqS, ifS, retS, raiseF, raiseS, consA, nilA, binD, callD, nameD, cD, bindE_v, thenS_v, bindE_x, thenS_x, unD, parS, asgS, tupD, int2F, eq_int, ne_int, intF0, negF, notF, nilS, brD, fnD, addE, subE, ix0, ix1, dropS, asgG, tupG, consG, nameG, nilG, lstD, andD, orD, tstD, ownS, appS, len_tup, len_lst, tup_tup, wipeE, set1, set2, typ_int, typ_tup, typ_non, typ_lst, isF, chainD, asT, truD, len_row, typ_row, v0, v3, e3]
      rfl)]
    rw [seq_nx (e' := E (some (.int r3)) (some X) a12) (M' := M) (asg_v (w1 _ _))]
    rw [seq_nx (e' := E (some (.int r3)) (some X) (some (.tup [q0, X, q2, q3]))) (M' := M) (asg_v (by
      show binD addF _ _ [s0, s1, a2, a3, a4, some (.int far), some (.loc L), a7, some V, some (.int 2), some (.int r3), some X, a12, a13] M = _
      refine (bin_v (a := .tup [q0, X]) (b := .tup [q2, q3]) (M1 := M) (M2 := M) (by simp [seqS, ifS, retS, raiseF, raiseS, consA, nilA, binD, callD, nameD, cD, bindE_v, thenS_v, bindE_x, thenS_x, unD, parS, asgS, tupD, int2F, eq_int, ne_int, intF0, negF, notF, nilS, brD, fnD, addE, subE, ix0, ix1, dropS, asgG, tupG, consG, nameG, nilG, lstD, andD, orD, tstD, ownS, appS, len_tup, len_lst, tup_tup, wipeE, set1, set2, typ_int, typ_tup, typ_non, typ_lst, isF, chainD, asT, truD, len_row, typ_row, i0]) ?_).trans (at2 X M)
      show bindE (bindE (slcF (.loc L) (some 2) none none M) _) _ = _
      rw [sl]
      exact tl M))]
    show ifS _ _ _ [s0, s1, a2, a3, a4, some (.int far), some (.loc L), a7, some V, some (.int 2), some (.int r3), some X, some (.tup [q0, X, q2, q3]), a13] M = _
    simp [seqS, ifS, retS, raiseF, raiseS, consA, nilA, binD, callD, nameD, cD, bindE_v, thenS_v, bindE_x, thenS_x, unD, parS, asgS, tupD, int2F, eq_int, ne_int, intF0, negF, notF, nilS, brD, fnD, addE, subE, ix0, ix1, dropS, asgG, tupG, consG, nameG, nilG, lstD, andD, orD, tstD, ownS, appS, len_tup, len_lst, tup_tup, wipeE, set1, set2, typ_int, typ_tup, typ_non, typ_lst, isF, chainD, asT, truD, len_row, typ_row, u1, u2, fn]
end
end K02
namespace K02
open PySem L2 DL
section
variable {M : Store} {s0 s1 a2 a3 a4 a5 a6 a7 a8 a9 a10 a11 a12 a13 : Option D} {far : Int}
noncomputable abbrev farS : DenS := seqS (ownS 6 (nilA)) (seqS (forI (nameG 7) (rng1 (consA (cD (.int 4)) (nilA))) (appS (nameD 6) (callD (tupcF) (consA (cutE (compD (set1 13) (cD (.bl true)) (binD subF (nameD 5) (binD fmodF (binD addF (binD addF (nameD 5) (nameD 13)) (nameD 7)) (cD (.int 2)))) [13] (rng1 (consA (cD (.int 4)) (nilA))))) (nilA))))) (seqS (ifS (unD notF (tstD (fnD m__law_looked_at 1 [] (consA (tupD (consA (callD (tupcF) (consA (nameD 6) (nilA))) (consA (binD mulTF (tupD (consA (binD mulTF (tupD (consA (tupD (consA (cD (.int 1)) (consA (cD (.int 1)) (nilA)))) (nilA))) (cD (.int 4))) (nilA))) (cD (.int 4))) (nilA)))) (nilA))))) (retS (cD (.bl false))) (nilS)) (seqS (asgS 8 (binD ixF (nameD 6) (cD (.int 1)))) (forI (nameG 9) (itD (tupD (consA (cD (.int 1)) (consA (cD (.int 2)) (nilA))))) kS))))
theorem hB_small (hf : far.natAbs ≤ 40) (x y : Nat) : (hB far x y).natAbs ≤ 100 := by
  unfold hB
  omega
theorem far_ok (hf : far.natAbs ≤ 40) : Wp (farS [s0, s1, a2, a3, a4, some (.int far), a6, a7, a8, a9, a10, a11, a12, a13] M) (fun f M2 => (∃ b6 b7 b8 b9 b10 b11 b12 b13, f = .nx [s0, s1, a2, a3, a4, some (.int far), b6, b7, b8, b9, b10, b11, b12, b13]) ∧ ∃ X, M2 = M ++ X) := by
  unfold farS
  refine wp_nx (e' := [s0, s1, a2, a3, a4, some (.int far), some (.loc M.length), a7, a8, a9, a10, a11, a12, a13]) (M' := M ++ [.lst []]) (by simp [seqS, ifS, retS, raiseF, raiseS, consA, nilA, binD, callD, nameD, cD, bindE_v, thenS_v, bindE_x, thenS_x, unD, parS, asgS, tupD, int2F, eq_int, ne_int, intF0, negF, notF, nilS, brD, fnD, addE, subE, ix0, ix1, dropS, asgG, tupG, consG, nameG, nilG, lstD, andD, orD, tstD, ownS, appS, len_tup, len_lst, tup_tup, wipeE, set1, set2, typ_int, typ_tup, typ_non, typ_lst, isF, chainD, asT, truD, len_row, typ_row]) ?_
  refine wp_for_nx ((List.range 4).map fun (y : Nat) => D.int (y : Int)) (fun y e M' => M' = M ++ [.lst ((List.range y).map fun j => rowD 4 fun x => hD (hB far) x j)] ∧ ∃ a7, e = [s0, s1, a2, a3, a4, some (.int far), some (.loc M.length), a7, a8, a9, a10, a11, a12, a13])
    (it_rng (n := 4) rfl (by decide)) (fun y d e M' hd hi => ?_) (fun _ _ _ => trivial) ⟨rfl, _, rfl⟩ (fun e' M' hi => ?_)
  · obtain ⟨rfl, a7, rfl⟩ := hi
    obtain ⟨hy, rfl⟩ := rng_get hd
    obtain ⟨Y, hY⟩ : ∃ x : Int, x = (y : Int) := ⟨_, rfl⟩
    rw [← hY]
    refine ⟨trivial, [s0, s1, a2, a3, a4, some (.int far), some (.loc M.length), some (.int Y), a8, a9, a10, a11, a12, a13], _, rfl, ?_⟩
    have t := tupcomp (e := [s0, s1, a2, a3, a4, some (.int far), some (.loc M.length), some (.int Y), a8, a9, a10, a11, a12, a13]) (i := 13) (n := 4) (g := fun x => D.int (x : Int)) (f := fun x => hD (hB far) x y) (di := rng1 (consA (cD (.int 4)) nilA)) (de := binD subF (nameD 5) (binD fmodF (binD addF (binD addF (nameD 5) (nameD 13)) (nameD 7)) (cD (.int 2)))) (fun M => it_rng (n := 4) rfl (by decide)) (by decide) (fun x hx M => by
        obtain ⟨X, hX⟩ : ∃ X : Int, X = (x : Int) := ⟨_, rfl⟩
        obtain ⟨z, hz⟩ : ∃ z, z = (far + X + Y) % 2 := ⟨_, rfl⟩
        have q : ∀ M, fmodF (.int (far + X + Y)) (.int 2) M = ok (.int z) M := fun M => by rw [fmd (by decide), hz]
        show _ = ok (D.int (far - (far + (x : Int) + (y : Int)) % 2)) M
        rw [← hX, ← hY, ← hz]
        simp [seqS, ifS, retS, raiseF, raiseS, consA, nilA, binD, callD, nameD, cD, bindE_v, thenS_v, bindE_x, thenS_x, unD, parS, asgS, tupD, int2F, eq_int, ne_int, intF0, negF, notF, nilS, brD, fnD, addE, subE, ix0, ix1, dropS, asgG, tupG, consG, nameG, nilG, lstD, andD, orD, tstD, ownS, appS, len_tup, len_lst, tup_tup, wipeE, set1, set2, typ_int, typ_tup, typ_non, typ_lst, isF, chainD, asT, truD, len_row, typ_row, q]) (fun _ _ => rfl) (M ++ [.lst ((List.range y).map fun j => rowD 4 fun x => hD (hB far) x j)])
    refine wp_of (.nx _) (app_ok (n := M.length) rfl t get_mid (by simp; omega)) ⟨_, .inl rfl, ?_, _, rfl⟩
    rw [set_mid, range_snoc (f := fun j => rowD 4 fun x => hD (hB far) x j)]
  · obtain ⟨rfl, a7, rfl⟩ := hi
    obtain ⟨q0, h0⟩ : ∃ q, q = rowD 4 fun x => hD (hB far) x 0 := ⟨_, rfl⟩
    obtain ⟨q1, h1⟩ : ∃ q, q = rowD 4 fun x => hD (hB far) x 1 := ⟨_, rfl⟩
    obtain ⟨q2, h2⟩ : ∃ q, q = rowD 4 fun x => hD (hB far) x 2 := ⟨_, rfl⟩
    obtain ⟨q3, h3⟩ : ∃ q, q = rowD 4 fun x => hD (hB far) x 3 := ⟨_, rfl⟩
    obtain ⟨r0, g0⟩ : ∃ q, q = hB far 0 1 := ⟨_, rfl⟩
    obtain ⟨r1, g1⟩ : ∃ q, q = hB far 1 1 := ⟨_, rfl⟩
    obtain ⟨r2, g2⟩ : ∃ q, q = hB far 2 1 := ⟨_, rfl⟩
    obtain ⟨r3, g3⟩ : ∃ q, q = hB far 3 1 := ⟨_, rfl⟩
    have s0' := hB_small hf 0 1
    have s1' := hB_small hf 1 1
    have s2' := hB_small hf 2 1
    have s3' := hB_small hf 3 1
    rw [← g0] at s0'
    rw [← g1] at s1'
    rw [← g2] at s2'
    rw [← g3] at s3'
    have eq1 : q1 = .tup [.int r0, .int r1, .int r2, .int r3] := by rw [h1, g0, g1, g2, g3]; rfl
    have el : ((List.range ((List.range 4).map fun (y : Nat) => D.int (y : Int)).length).map fun j => rowD 4 fun x => hD (hB far) x j) = [q0, q1, q2, q3] := by
      rw [h0, h1, h2, h3]
      rfl
    rw [el]
    obtain ⟨M2, hM2⟩ : ∃ M2, M2 = M ++ [Ob.lst [q0, q1, q2, q3]] := ⟨_, rfl⟩
    have gl : M2[M.length]? = some (.lst [q0, q1, q2, q3]) := by rw [hM2]; exact get_mid
    obtain ⟨L, hL⟩ : ∃ L, L = M.length := ⟨_, rfl⟩
    rw [← hL] at gl
    have xX : ∃ X, M2 = M ++ X := ⟨_, hM2⟩
    rw [← hM2, ← hL]
    have t : tupcF [.loc L] M2 = ok (.tup [q0, q1, q2, q3]) M2 := tup_loc gl (by simp)
    obtain ⟨U, hU⟩ : ∃ U, U = tabD 4 4 (wD one1) := ⟨_, rfl⟩
    obtain ⟨Q, u1, u2⟩ := ones4
    have u2 : ∀ M, mulTF (.tup [Q]) (.int 4) M = ok U M := fun M => by rw [hU]; exact u2 M
    have lk : ∀ M, m__law_looked_at [.tup [.tup [q0, q1, q2, q3], U]] M = ok (.bl true) M := fun M => by
      rw [h0, h1, h2, h3, hU]
      exact look4 (f := hB far) (fun x y _ _ => Nat.le_trans (hB_small hf x y) (by decide)) M
    have i1 : ixF (.loc L) (.int 1) M2 = ok q1 M2 := ix_loc gl rfl
    refine wp_nx (e' := [s0, s1, a2, a3, a4, some (.int far), some (.loc L), a7, a8, a9, a10, a11, a12, a13]) (M' := M2) (by simp [seqS, ifS, retS, raiseF, raiseS, consA, nilA, binD, callD, nameD, cD, bindE_v, thenS_v, bindE_x, thenS_x, unD, parS, asgS, tupD, int2F, eq_int, ne_int, intF0, negF, notF, nilS, brD, fnD, addE, subE, ix0, ix1, dropS, asgG, tupG, consG, nameG, nilG, lstD, andD, orD, tstD, ownS, appS, len_tup, len_lst, tup_tup, wipeE, set1, set2, typ_int, typ_tup, typ_non, typ_lst, isF, chainD, asT, truD, len_row, typ_row, t, u1, u2, lk]) ?_
    refine wp_nx (e' := [s0, s1, a2, a3, a4, some (.int far), some (.loc L), a7, some q1, a9, a10, a11, a12, a13]) (M' := M2) (by simp [seqS, ifS, retS, raiseF, raiseS, consA, nilA, binD, callD, nameD, cD, bindE_v, thenS_v, bindE_x, thenS_x, unD, parS, asgS, tupD, int2F, eq_int, ne_int, intF0, negF, notF, nilS, brD, fnD, addE, subE, ix0, ix1, dropS, asgG, tupG, consG, nameG, nilG, lstD, andD, orD, tstD, ownS, appS, len_tup, len_lst, tup_tup, wipeE, set1, set2, typ_int, typ_tup, typ_non, typ_lst, isF, chainD, asT, truD, len_row, typ_row, i1]) ?_
    rw [eq1] at gl
    refine wp_for [.int 1, .int 2] (fun j e M' => M' = M2 ∧ ∃ a9 a10 a11 a12, e = [s0, s1, a2, a3, a4, some (.int far), some (.loc L), a7, some q1, a9, a10, a11, a12, a13]) (it_tup rfl) (fun j d e M' hd hi => ?_) (fun _ _ _ => trivial) ⟨rfl, _, _, _, _, rfl⟩ (fun e' M' hi => ?_)
    · obtain ⟨rfl, a9, a10, a11, a12, rfl⟩ := hi
      have hm := List.mem_of_getElem? hd
      have hk : ∃ k : Int, d = .int k ∧ (k = 1 ∨ k = 2) := by
        simp only [List.not_mem_nil, or_false, List.mem_cons] at hm
        rcases hm with rfl | rfl
        · exact ⟨1, rfl, .inl rfl⟩
        · exact ⟨2, rfl, .inr rfl⟩
      obtain ⟨k, rfl, hk⟩ := hk
      obtain ⟨b10, b11, b12, q⟩ := k_ok (M := M') (s0 := s0) (s1 := s1) (a2 := a2) (a3 := a3) (a4 := a4) (a7 := a7) (a10 := a10) (a11 := a11) (a12 := a12) (a13 := a13) (far := far) gl h0 h2 h3 (fun x y _ _ => hB_small hf x y) s0' s1' s2' s3' hk
      rw [eq1]
      exact ⟨trivial, _, M', rfl, wp_of _ q ⟨_, .inl rfl, rfl, _, _, _, _, rfl⟩⟩
    · obtain ⟨rfl, a9, a10, a11, a12, rfl⟩ := hi
      exact ⟨⟨_, _, _, _, _, _, _, _, rfl⟩, xX⟩
end
theorem bounds_ok {ns : List Int} {k0 : Nat} {M : Store} (hM : M[0]? = some (.lst [.int (k0 : Int)])) (hk : k0 ≤ 3000) (hn : ns.length ≤ 63) : ∃ M', m__law_bounds_right [.scr ns, .loc 0] M = ok (.bl true) M' := by
  have lt0 : 0 < M.length := get_lt hM
  have key : Wp (den__law_bounds_right [some (.scr ns), some (.loc 0), none, none, none, none, none, none, none, none, none, none, none, none] M) (fun f M1 => f = .rt (.bl true) ∧ ∃ (k : Nat) (X : Store), M1 = M.set 0 (.lst [.int (k : Int)]) ++ X) := by
    unfold den__law_bounds_right
    refine wp_for_nx [.tup [.int 11, .int 11], .tup [.int 12, .int 3], .tup [.int 3, .int 12], .tup [.int 1, .int 11], .tup [.int 11, .int 1], .tup [.int 1, .int 1]] (fun j e M' => (∃ k : Nat, k ≤ k0 + 200 * j ∧ M' = M.set 0 (.lst [.int (k : Int)])) ∧ ∃ a2 a3 a4, e = [some (.scr ns), some (.loc 0), a2, a3, a4, none, none, none, none, none, none, none, none, none]) (it_lst rfl) (fun j d e M' hd hi => ?_) (fun _ _ _ => trivial) ⟨⟨k0, by omega, (set_self hM).symm⟩, _, _, _, rfl⟩ (fun e' M' hi => ?_)
    · obtain ⟨⟨k, hk1, hM'⟩, a2, a3, a4, rfl⟩ := hi
      have hj : j < 6 := get_lt hd
      have hm := List.mem_of_getElem? hd
      have hwh : ∃ w h : Nat, d = .tup [.int (w : Int), .int (h : Int)] ∧ 1 ≤ w ∧ w ≤ 12 ∧ 1 ≤ h ∧ h ≤ 12 := by
        simp only [List.not_mem_nil, or_false, List.mem_cons] at hm
        rcases hm with rfl | rfl | rfl | rfl | rfl | rfl
        · exact ⟨11, 11, rfl, by decide, by decide, by decide, by decide⟩
        · exact ⟨12, 3, rfl, by decide, by decide, by decide, by decide⟩
        · exact ⟨3, 12, rfl, by decide, by decide, by decide, by decide⟩
        · exact ⟨1, 11, rfl, by decide, by decide, by decide, by decide⟩
        · exact ⟨11, 1, rfl, by decide, by decide, by decide, by decide⟩
        · exact ⟨1, 1, rfl, by decide, by decide, by decide, by decide⟩
      obtain ⟨w, h, rfl, w1, w2, h1, h2⟩ := hwh
      have g1 : M'[0]? = some (.lst [.int (k : Int)]) := by rw [hM']; exact List.getElem?_set_self lt0
      have hwl : h * w ≤ 144 := Nat.mul_le_mul h2 w2
      obtain ⟨H, hs, hH⟩ := heights_ok (ns := ns) (w := w) (h := h) (base := 0) g1 (by omega) hn w1 w2 h2
      obtain ⟨M2, hM2⟩ : ∃ M2, M2 = M'.set 0 (.lst [.int ((k + h : Nat) : Int)]) := ⟨_, rfl⟩
      have g2 : M2[0]? = some (.lst [.int ((k + h : Nat) : Int)]) := by rw [hM2]; exact List.getElem?_set_self (get_lt g1)
      obtain ⟨W, ws, hW⟩ := worths_ok (ns := ns) (w := w) (h := h) (S := 1) g2 (by omega) hn w1 w2 h2 (by decide) (by decide)
      obtain ⟨M3, hM3⟩ : ∃ M3, M3 = M2.set 0 (.lst [.int ((k + h + h * w : Nat) : Int)]) := ⟨_, rfl⟩
      rw [← hM2] at hH
      rw [← hM3] at hW
      have e3 : M3 = M.set 0 (.lst [.int ((k + h + h * w : Nat) : Int)]) := by rw [hM3, hM2, hM', List.set_set, List.set_set]
      have lk := look_fit (B := 10 ^ 20) (by decide) (fit_field (f := H) (g := W) w2 h2 (fun x y hx hy => by
        have := hs_all hs y hy x hx
        omega) fun x y hx hy => ws_small (ws x y hx hy))
      obtain ⟨R, hR⟩ : ∃ R, R = tabD w h (hD H) := ⟨_, rfl⟩
      obtain ⟨U, hU⟩ : ∃ R, R = tabD w h (wD W) := ⟨_, rfl⟩
      rw [← hR] at hH
      rw [← hU] at hW
      rw [← hR, ← hU] at lk
      obtain ⟨Wd, hWd⟩ : ∃ x : Int, x = (w : Int) := ⟨_, rfl⟩
      obtain ⟨Hd, hHd⟩ : ∃ x : Int, x = (h : Int) := ⟨_, rfl⟩
      rw [← hWd, ← hHd] at hH hW ⊢
      obtain ⟨S, hS⟩ : ∃ S, S = D.tup [.int Wd, .int Hd] := ⟨_, rfl⟩
      have i0 : ∀ M, ixF S (.int 0) M = ok (.int Wd) M := fun M => by rw [hS]; exact ix_tup rfl
      have i1 : ∀ M, ixF S (.int 1) M = ok (.int Hd) M := fun M => by rw [hS]; exact ix_tup rfl
      rw [← hS]
      refine ⟨trivial, [some (.scr ns), some (.loc 0), some S, a3, a4, none, none, none, none, none, none, none, none, none], M', rfl, ?_⟩
      refine wp_nx (e' := [some (.scr ns), some (.loc 0), some S, some R, a4, none, none, none, none, none, none, none, none, none]) (M' := M2) (by simp [seqS, ifS, retS, raiseF, raiseS, consA, nilA, binD, callD, nameD, cD, bindE_v, thenS_v, bindE_x, thenS_x, unD, parS, asgS, tupD, int2F, eq_int, ne_int, intF0, negF, notF, nilS, brD, fnD, addE, subE, ix0, ix1, dropS, asgG, tupG, consG, nameG, nilG, lstD, andD, orD, tstD, ownS, appS, len_tup, len_lst, tup_tup, wipeE, set1, set2, typ_int, typ_tup, typ_non, typ_lst, isF, chainD, asT, truD, len_row, typ_row, i0, i1, hH]) ?_
      refine wp_nx (e' := [some (.scr ns), some (.loc 0), some S, some R, some U, none, none, none, none, none, none, none, none, none]) (M' := M3) (by simp [seqS, ifS, retS, raiseF, raiseS, consA, nilA, binD, callD, nameD, cD, bindE_v, thenS_v, bindE_x, thenS_x, unD, parS, asgS, tupD, int2F, eq_int, ne_int, intF0, negF, notF, nilS, brD, fnD, addE, subE, ix0, ix1, dropS, asgG, tupG, consG, nameG, nilG, lstD, andD, orD, tstD, ownS, appS, len_tup, len_lst, tup_tup, wipeE, set1, set2, typ_int, typ_tup, typ_non, typ_lst, isF, chainD, asT, truD, len_row, typ_row, i0, i1, hW]) ?_
      exact wp_of (.nx [some (.scr ns), some (.loc 0), some S, some R, some U, none, none, none, none, none, none, none, none, none]) (M' := M3) (by simp [seqS, ifS, retS, raiseF, raiseS, consA, nilA, binD, callD, nameD, cD, bindE_v, thenS_v, bindE_x, thenS_x, unD, parS, asgS, tupD, int2F, eq_int, ne_int, intF0, negF, notF, nilS, brD, fnD, addE, subE, ix0, ix1, dropS, asgG, tupG, consG, nameG, nilG, lstD, andD, orD, tstD, ownS, appS, len_tup, len_lst, tup_tup, wipeE, set1, set2, typ_int, typ_tup, typ_non, typ_lst, isF, chainD, asT, truD, len_row, typ_row, lk]) ⟨_, .inl rfl, ⟨k + h + h * w, by omega, e3⟩, _, _, _, rfl⟩
    · obtain ⟨⟨k, hk1, hM'⟩, a2, a3, a4, rfl⟩ := hi
      refine wp_for_nx [.int 34, .int 35, .int 36, .int (-33), .int (-34), .int (-35)] (fun j e M'' => (∃ X, M'' = M' ++ X) ∧ ∃ a5 a6 a7 a8 a9 a10 a11 a12 a13, e = [some (.scr ns), some (.loc 0), a2, a3, a4, a5, a6, a7, a8, a9, a10, a11, a12, a13]) (it_tup (by simp [seqS, ifS, retS, raiseF, raiseS, consA, nilA, binD, callD, nameD, cD, bindE_v, thenS_v, bindE_x, thenS_x, unD, parS, asgS, tupD, int2F, eq_int, ne_int, intF0, negF, notF, nilS, brD, fnD, addE, subE, ix0, ix1, dropS, asgG, tupG, consG, nameG, nilG, lstD, andD, orD, tstD, ownS, appS, len_tup, len_lst, tup_tup, wipeE, set1, set2, typ_int, typ_tup, typ_non, typ_lst, isF, chainD, asT, truD, len_row, typ_row])) (fun j d e M'' hd hi => ?_) (fun _ _ _ => trivial) ⟨⟨[], by simp⟩, _, _, _, _, _, _, _, _, _, rfl⟩ (fun e' M'' hi => ?_)
      · obtain ⟨⟨X, rfl⟩, a5, a6, a7, a8, a9, a10, a11, a12, a13, rfl⟩ := hi
        have hm := List.mem_of_getElem? hd
        have hfar : ∃ far : Int, d = .int far ∧ far.natAbs ≤ 40 := by
          simp only [List.not_mem_nil, or_false, List.mem_cons] at hm
          rcases hm with rfl | rfl | rfl | rfl | rfl | rfl <;> exact ⟨_, rfl, by decide⟩
        obtain ⟨far, rfl, hfar⟩ := hfar
        obtain ⟨f, M2, q1, ⟨b6, b7, b8, b9, b10, b11, b12, b13, rfl⟩, Y, rfl⟩ := far_ok (M := M' ++ X) (s0 := some (.scr ns)) (s1 := some (.loc 0)) (a2 := a2) (a3 := a3) (a4 := a4) (a6 := a6) (a7 := a7) (a8 := a8) (a9 := a9) (a10 := a10) (a11 := a11) (a12 := a12) (a13 := a13) hfar
        exact ⟨trivial, [some (.scr ns), some (.loc 0), a2, a3, a4, some (.int far), a6, a7, a8, a9, a10, a11, a12, a13], M' ++ X, rfl, wp_of _ q1 ⟨_, .inl rfl, ⟨X ++ Y, List.append_assoc _ _ _⟩, _, _, _, _, _, _, _, _, _, rfl⟩⟩
      · obtain ⟨⟨X, rfl⟩, a5, a6, a7, a8, a9, a10, a11, a12, a13, rfl⟩ := hi
        have e1 : ∀ M, eqF (.tup [.int 35, .int 11]) (.tup [.int 35, .int 11]) M = ok (.bl true) M := fun M => by
          have := eq_pair (n := false) (a := 35) (b := 11) (c := 35) (d := 11) (M := M)
          rw [decide_eq_true ⟨rfl, rfl⟩] at this
          exact this
        exact wp_of (.rt (.bl true)) (M' := M' ++ X) (by simp [seqS, ifS, retS, raiseF, raiseS, consA, nilA, binD, callD, nameD, cD, bindE_v, thenS_v, bindE_x, thenS_x, unD, parS, asgS, tupD, int2F, eq_int, ne_int, intF0, negF, notF, nilS, brD, fnD, addE, subE, ix0, ix1, dropS, asgG, tupG, consG, nameG, nilG, lstD, andD, orD, tstD, ownS, appS, len_tup, len_lst, tup_tup, wipeE, set1, set2, typ_int, typ_tup, typ_non, typ_lst, isF, chainD, asT, truD, len_row, typ_row, e1]) ⟨rfl, k, X, by rw [hM']⟩
  obtain ⟨f, M1, h1, rfl, k, X, rfl⟩ := key
  exact ⟨_, fv_rt2 X rfl h1 List.length_set (set_ok rfl) rfl⟩
end K02
namespace K02
open PySem L2 DL
theorem Fit.swap {B : Nat} {a b : D} (h : Fit B (.tup [a, b])) : Fit B (.tup [b, a]) := by
  have h1 : (okB B a && (okB B b && true)) = true := h.ok
  have h2 : szE a + 1 + (szE b + 1 + 0) ≤ 700 := h.sz
  have h3 : max (dpE a) (max (dpE b) 0) + 1 ≤ 4 := h.dp
  rw [Bool.and_true, Bool.and_eq_true] at h1
  refine ⟨?_, ?_, ?_⟩
  · show (okB B b && (okB B a && true)) = true
    rw [h1.1, h1.2]
    rfl
  · show szE b + 1 + (szE a + 1 + 0) ≤ 700
    omega
  · show max (dpE b) (max (dpE a) 0) + 1 ≤ 4
    omega
theorem swap_slp {e : DL.Env} {M : Store} {da : DenE} {a b : D} (h : da e M = ok (.tup [a, b]) M) : slpD da (noneO) (noneO) (someO (unD negF (cD (.int 1)))) e M = ok (.tup [b, a]) M := by
  unfold slpD
  rw [h, bindE_v]
  show prtF (.tup [a, b]) none none (some (-1)) M = _
  have q1 : prtI 2 none none (some (-1)) = [1, 0] := by decide
  have q2 : whole 2 none none (some (-1)) = false := by decide
  unfold prtF prtT
  dsimp only
  rw [show [a, b].length = 2 from rfl, q1, q2, if_pos ⟨by decide, by decide⟩, if_neg (by decide)]
  rfl
noncomputable abbrev againS : DenS := seqS (asgS 5 (fnD m__law_spoilt 4 [] (consA (nameD 0) (consA (nameD 1) (consA (nameD 3) (consA (cD (.int 4)) (nilA))))))) (seqS (ifS (binD (eqF) (binD fmodF (fnD m__law_cell 2 [] (consA (nameD 0) (consA (nameD 1) (nilA)))) (cD (.int 3))) (cD (.int 0))) (asgS 5 (fnD m__law_spoilt 4 [] (consA (nameD 0) (consA (nameD 1) (consA (nameD 5) (consA (cD (.int 4)) (nilA))))))) (nilS)) (ifS (unD notF (tstD (fnD m__law_looked_at 1 [] (consA (nameD 5) (nilA))))) (retS (cD (.bl false))) (nilS)))
noncomputable abbrev turnS : DenS := seqS (asgS 3 (fnD m__law_field 4 [] (consA (nameD 0) (consA (nameD 1) (consA (cD (.int 1)) (consA (cD (.int 7)) (nilA))))))) (seqS (ifS (orD (unD notF (tstD (fnD m__law_looked_at 1 [] (consA (nameD 3) (nilA))))) (binD (isTF true) (fnD m_is_field 1 [] (consA (nameD 3) (nilA))) (cD (.bl true)))) (retS (cD (.bl false))) (nilS)) (seqS (forI (nameG 4) (rng1 (consA (cD (.int 4)) (nilA))) againS) (seqS (asgS 6 (callD (tupcF) (consA (cutE (compD (set1 7) (cD (.bl true)) (callD (tupcF) (consA (cutE (compD (set1 8) (cD (.bl true)) (binD addF (nameD 8) (cD (.int 1))) [8] (itD (nameD 7)))) (nilA))) [7] (itD (binD ixF (nameD 3) (cD (.int 0)))))) (nilA)))) (ifS (orD (unD notF (tstD (fnD m__law_looked_at 1 [] (consA (tupD (consA (nameD 6) (consA (binD ixF (nameD 3) (cD (.int 1))) (nilA)))) (nilA))))) (unD notF (tstD (fnD m__law_looked_at 1 [] (consA (slpD (nameD 3) (noneO) (noneO) (someO (unD negF (cD (.int 1))))) (nilA)))))) (retS (cD (.bl false))) (nilS)))))
section
variable {ns : List Int} {k : Nat} {M : Store} {F : D} {a2 a3 a4 a5 a6 a7 a8 : Option D}
theorem again_ok (hn : ns.length ≤ 63) (hF : Fit (10 ^ 20) F) (hM : M[0]? = some (.lst [.int (k : Int)])) (hk : k ≤ 4000) :
    ∃ (b5 : Option D) (k' : Nat) (M' : Store), k' ≤ k + 11 ∧ M'[0]? = some (.lst [.int (k' : Int)]) ∧ againS [some (.scr ns), some (.loc 0), a2, some F, a4, a5, a6, a7, a8] M = some (.nx [some (.scr ns), some (.loc 0), a2, some F, a4, b5, a6, a7, a8], M') := by
  have lt0 : 0 < M.length := get_lt hM
  have hsz := hF.sz
  have hdp := hF.dp
  obtain ⟨y, c1, hc1, y1, y2, y3, y4⟩ := spoilt_ok hn 4 (10 ^ 20) F M k (Nat.le_refl _) hF.ok (by omega) hM (by omega)
  have y4 : m__law_spoilt [.scr ns, .loc 0, F, .int 4] M = ok y (M.set 0 (.lst [.int (c1 : Int)])) := y4
  obtain ⟨M1, hM1⟩ : ∃ M1, M1 = M.set 0 (.lst [.int ((c1 : Nat) : Int)]) := ⟨_, rfl⟩
  rw [← hM1] at y4
  have g1 : M1[0]? = some (.lst [.int (c1 : Int)]) := by rw [hM1]; exact List.getElem?_set_self lt0
  obtain ⟨n, n0, n1, hc⟩ := cell_ok (ns := ns) g1 (by omega) hn
  obtain ⟨M2, hM2⟩ : ∃ M2, M2 = M1.set 0 (.lst [.int ((c1 + 1 : Nat) : Int)]) := ⟨_, rfl⟩
  rw [← hM2] at hc
  have g2 : M2[0]? = some (.lst [.int ((c1 + 1 : Nat) : Int)]) := by rw [hM2]; exact List.getElem?_set_self (get_lt g1)
  obtain ⟨r, hr⟩ : ∃ r, r = n % 3 := ⟨_, rfl⟩
  have m3 : ∀ M, fmodF (.int n) (.int 3) M = ok (.int r) M := fun M => by rw [fmd (by decide), hr]
  by_cases r0 : r = 0
  · obtain ⟨z, c2, hc2, z1, z2, z3, z4⟩ := spoilt_ok hn 4 (10 ^ 20 + 2) y M2 (c1 + 1) (by decide) y1 (by omega) g2 (by omega)
    have z4 : m__law_spoilt [.scr ns, .loc 0, y, .int 4] M2 = ok z (M2.set 0 (.lst [.int (c2 : Int)])) := z4
    obtain ⟨M3, hM3⟩ : ∃ M3, M3 = M2.set 0 (.lst [.int ((c2 : Nat) : Int)]) := ⟨_, rfl⟩
    rw [← hM3] at z4
    have g3 : M3[0]? = some (.lst [.int ((c2 : Nat) : Int)]) := by rw [hM3]; exact List.getElem?_set_self (get_lt g2)
    have lk : ∀ M, m__law_looked_at [z] M = ok (.bl true) M := fun M => looked_ok (B := 10 ^ 20 + 2 + 2) (by decide) z1 (by omega) (by omega)
    refine ⟨some z, c2, M3, by omega, g3, ?_⟩
    unfold againS
    rw [seq_nx (e' := [some (.scr ns), some (.loc 0), a2, some F, a4, some y, a6, a7, a8]) (M' := M1) (by simp [seqS, ifS, retS, raiseF, raiseS, consA, nilA, binD, callD, nameD, cD, bindE_v, thenS_v, bindE_x, thenS_x, unD, parS, asgS, tupD, int2F, eq_int, ne_int, intF0, negF, notF, nilS, brD, fnD, addE, subE, ix0, ix1, dropS, asgG, tupG, consG, nameG, nilG, lstD, andD, orD, tstD, ownS, appS, len_tup, len_lst, tup_tup, wipeE, set1, set2, typ_int, typ_tup, typ_non, typ_lst, isF, chainD, asT, truD, len_row, typ_row, y4])]
    rw [seq_nx (e' := [some (.scr ns), some (.loc 0), a2, some F, a4, some z, a6, a7, a8]) (M' := M3) (by simp [seqS, ifS, retS, raiseF, raiseS, consA, nilA, binD, callD, nameD, cD, bindE_v, thenS_v, bindE_x, thenS_x, unD, parS, asgS, tupD, int2F, eq_int, ne_int, intF0, negF, notF, nilS, brD, fnD, addE, subE, ix0, ix1, dropS, asgG, tupG, consG, nameG, nilG, lstD, andD, orD, tstD, ownS, appS, len_tup, len_lst, tup_tup, wipeE, set1, set2, typ_int, typ_tup, typ_non, typ_lst, isF, chainD, asT, truD, len_row, typ_row, hc, m3, r0, z4])]
    simp [seqS, ifS, retS, raiseF, raiseS, consA, nilA, binD, callD, nameD, cD, bindE_v, thenS_v, bindE_x, thenS_x, unD, parS, asgS, tupD, int2F, eq_int, ne_int, intF0, negF, notF, nilS, brD, fnD, addE, subE, ix0, ix1, dropS, asgG, tupG, consG, nameG, nilG, lstD, andD, orD, tstD, ownS, appS, len_tup, len_lst, tup_tup, wipeE, set1, set2, typ_int, typ_tup, typ_non, typ_lst, isF, chainD, asT, truD, len_row, typ_row, lk]
  · have lk : ∀ M, m__law_looked_at [y] M = ok (.bl true) M := fun M => looked_ok (B := 10 ^ 20 + 2) (by decide) y1 (by omega) (by omega)
    refine ⟨some y, c1 + 1, M2, by omega, g2, ?_⟩
    unfold againS
    rw [seq_nx (e' := [some (.scr ns), some (.loc 0), a2, some F, a4, some y, a6, a7, a8]) (M' := M1) (by simp [seqS, ifS, retS, raiseF, raiseS, consA, nilA, binD, callD, nameD, cD, bindE_v, thenS_v, bindE_x, thenS_x, unD, parS, asgS, tupD, int2F, eq_int, ne_int, intF0, negF, notF, nilS, brD, fnD, addE, subE, ix0, ix1, dropS, asgG, tupG, consG, nameG, nilG, lstD, andD, orD, tstD, ownS, appS, len_tup, len_lst, tup_tup, wipeE, set1, set2, typ_int, typ_tup, typ_non, typ_lst, isF, chainD, asT, truD, len_row, typ_row, y4])]
    rw [seq_nx (e' := [some (.scr ns), some (.loc 0), a2, some F, a4, some y, a6, a7, a8]) (M' := M2) (by simp [seqS, ifS, retS, raiseF, raiseS, consA, nilA, binD, callD, nameD, cD, bindE_v, thenS_v, bindE_x, thenS_x, unD, parS, asgS, tupD, int2F, eq_int, ne_int, intF0, negF, notF, nilS, brD, fnD, addE, subE, ix0, ix1, dropS, asgG, tupG, consG, nameG, nilG, lstD, andD, orD, tstD, ownS, appS, len_tup, len_lst, tup_tup, wipeE, set1, set2, typ_int, typ_tup, typ_non, typ_lst, isF, chainD, asT, truD, len_row, typ_row, hc, m3, r0])]
    simp [seqS, ifS, retS, raiseF, raiseS, consA, nilA, binD, callD, nameD, cD, bindE_v, thenS_v, bindE_x, thenS_x, unD, parS, asgS, tupD, int2F, eq_int, ne_int, intF0, negF, notF, nilS, brD, fnD, addE, subE, ix0, ix1, dropS, asgG, tupG, consG, nameG, nilG, lstD, andD, orD, tstD, ownS, appS, len_tup, len_lst, tup_tup, wipeE, set1, set2, typ_int, typ_tup, typ_non, typ_lst, isF, chainD, asT, truD, len_row, typ_row, lk]
theorem turn_ok (hM : M[0]? = some (.lst [.int (k : Int)])) (hk : k ≤ 3000) (hn : ns.length ≤ 63) :
    Wp (turnS [some (.scr ns), some (.loc 0), a2, a3, a4, a5, a6, a7, a8] M) (fun f M' => (∃ b3 b4 b5 b6 b7 b8, f = .nx [some (.scr ns), some (.loc 0), a2, b3, b4, b5, b6, b7, b8]) ∧ ∃ k' : Nat, M'[0]? = some (.lst [.int (k' : Int)]) ∧ k' ≤ k + 200) := by
  have lt0 : 0 < M.length := get_lt hM
  obtain ⟨w, h, base, H, W, k1, l, hk1, hf⟩ := field_ok (ns := ns) hM (by omega) hn
  obtain ⟨M1, hM1⟩ : ∃ M1, M1 = M.set 0 (.lst [.int ((k1 : Nat) : Int)]) := ⟨_, rfl⟩
  rw [← hM1] at hf
  have g1 : M1[0]? = some (.lst [.int (k1 : Int)]) := by rw [hM1]; exact List.getElem?_set_self lt0
  have v := l.vf
  have w7 := l.w7
  have h7 := l.h7
  have s1 : ∀ x y, x < w → y < h → (H x y).natAbs ≤ 26 := fun x y hx hy => l.small hx hy
  have fF : Fit (10 ^ 20) (fieldD w h H W) := fit_field (by omega) (by omega) (fun x y hx hy => by
    have := s1 x y hx hy
    omega) fun x y hx hy => ws_small (l.ws x y hx hy)
  have fH : Fit (10 ^ 20) (fieldD w h (fun x y => H x y + 1) W) := fit_field (by omega) (by omega) (fun x y hx hy => by
    have := s1 x y hx hy
    show (H x y + 1).natAbs ≤ _
    omega) fun x y hx hy => ws_small (l.ws x y hx hy)
  have isF1 : ∀ M, m_is_field [fieldD w h H W] M = ok (.bl true) M := fun M => isf (p := .fine) (fun M => need_ok v)
  obtain ⟨R, hR⟩ : ∃ R, R = tabD w h (hD H) := ⟨_, rfl⟩
  obtain ⟨R1, hR1⟩ : ∃ R, R = tabD w h (hD fun x y => H x y + 1) := ⟨_, rfl⟩
  obtain ⟨U, hU⟩ : ∃ R, R = tabD w h (wD W) := ⟨_, rfl⟩
  have ef : fieldD w h H W = D.tup [R, U] := by rw [hR, hU]
  have eh : fieldD w h (fun x y => H x y + 1) W = D.tup [R1, U] := by rw [hR1, hU]
  rw [ef] at hf fF isF1
  rw [eh] at fH
  obtain ⟨F, hF⟩ : ∃ F, F = D.tup [R, U] := ⟨_, rfl⟩
  have fS := fF.swap
  have lk1 := look_fit (by decide) fF
  have lk2 := look_fit (by decide) fH
  have lk3 := look_fit (by decide) fS
  have i0 : ∀ M, ixF F (.int 0) M = ok R M := fun M => by rw [hF]; exact ix0 _ _ _
  have i1 : ∀ M, ixF F (.int 1) M = ok U M := fun M => by rw [hF]; exact ix_tup rfl
  have sw : ∀ a4 a5 a6 a7 a8 M, slpD (nameD 3) (noneO) (noneO) (someO (unD negF (cD (.int 1)))) [some (.scr ns), some (.loc 0), a2, some F, a4, a5, a6, a7, a8] M = ok (.tup [U, R]) M := fun a4 a5 a6 a7 a8 M => swap_slp (by rw [← hF]; rfl)
  rw [← hF] at hf fF isF1 lk1
  unfold turnS
  refine wp_nx (e' := [some (.scr ns), some (.loc 0), a2, some F, a4, a5, a6, a7, a8]) (M' := M1) (by simp [seqS, ifS, retS, raiseF, raiseS, consA, nilA, binD, callD, nameD, cD, bindE_v, thenS_v, bindE_x, thenS_x, unD, parS, asgS, tupD, int2F, eq_int, ne_int, intF0, negF, notF, nilS, brD, fnD, addE, subE, ix0, ix1, dropS, asgG, tupG, consG, nameG, nilG, lstD, andD, orD, tstD, ownS, appS, len_tup, len_lst, tup_tup, wipeE, set1, set2, typ_int, typ_tup, typ_non, typ_lst, isF, chainD, asT, truD, len_row, typ_row, hf]) ?_
  have it : ∀ M, isTF true (.bl true) (.bl true) M = ok (.bl false) M := fun M => rfl
  refine wp_nx (e' := [some (.scr ns), some (.loc 0), a2, some F, a4, a5, a6, a7, a8]) (M' := M1) (by simp [seqS, ifS, retS, raiseF, raiseS, consA, nilA, binD, callD, nameD, cD, bindE_v, thenS_v, bindE_x, thenS_x, unD, parS, asgS, tupD, int2F, eq_int, ne_int, intF0, negF, notF, nilS, brD, fnD, addE, subE, ix0, ix1, dropS, asgG, tupG, consG, nameG, nilG, lstD, andD, orD, tstD, ownS, appS, len_tup, len_lst, tup_tup, wipeE, set1, set2, typ_int, typ_tup, typ_non, typ_lst, isF, chainD, asT, truD, len_row, typ_row, lk1, isF1, it]) ?_
  refine wp_for_nx ((List.range 4).map fun (j : Nat) => D.int (j : Int)) (fun j e M' => (∃ k2 : Nat, k2 ≤ k1 + 11 * j ∧ M'[0]? = some (.lst [.int (k2 : Int)])) ∧ ∃ a4 a5, e = [some (.scr ns), some (.loc 0), a2, some F, a4, a5, a6, a7, a8]) (it_rng (n := 4) rfl (by decide)) (fun j d e M' hd hi => ?_) (fun _ _ _ => trivial) ⟨⟨k1, by omega, g1⟩, _, _, rfl⟩ (fun e' M' hi => ?_)
  · obtain ⟨⟨k2, hk2, g2⟩, a4, a5, rfl⟩ := hi
    have hj : j < 4 := (rng_get hd).1
    obtain ⟨b5, k', M2, q1, q2, q3⟩ := again_ok (a2 := a2) (a4 := some d) (a5 := a5) (a6 := a6) (a7 := a7) (a8 := a8) hn fF g2 (by omega)
    exact ⟨trivial, [some (.scr ns), some (.loc 0), a2, some F, some d, a5, a6, a7, a8], M', rfl, wp_of _ q3 ⟨_, .inl rfl, ⟨k', by omega, q2⟩, _, _, rfl⟩⟩
  · obtain ⟨⟨k2, hk2, g2⟩, a4, a5, rfl⟩ := hi
    rw [List.length_map (as := List.range 4), List.length_range] at hk2
    have c := tupcomp (e := [some (.scr ns), some (.loc 0), a2, some F, a4, a5, a6, a7, a8]) (i := 7) (n := h) (g := fun y => rowD w fun x => hD H x y) (f := fun y => rowD w fun x => D.int (H x y + 1)) (di := itD (binD ixF (nameD 3) (cD (.int 0)))) (de := callD tupcF (consA (cutE (compD (set1 8) (cD (.bl true)) (binD addF (nameD 8) (cD (.int 1))) [8] (itD (nameD 7)))) nilA)) (fun M => it_row (by
        show bindE (ok F M) _ = _
        rw [bindE_v]
        show ixF F (.int 0) M = _
        rw [i0, hR])) (by omega) (fun y hy M => tupcomp (i := 8) (n := w) (g := fun x => hD H x y) (f := fun x => D.int (H x y + 1)) (fun M => it_row rfl) (by omega) (fun x hx M => rfl) (fun _ _ => rfl) M) (fun y _ => nl_row fun x _ => rfl) M'
    have c : callD tupcF (consA (cutE (compD (set1 7) (cD (.bl true)) (callD (tupcF) (consA (cutE (compD (set1 8) (cD (.bl true)) (binD addF (nameD 8) (cD (.int 1))) [8] (itD (nameD 7)))) (nilA))) [7] (itD (binD ixF (nameD 3) (cD (.int 0)))))) nilA) [some (.scr ns), some (.loc 0), a2, some F, a4, a5, a6, a7, a8] M' = ok R1 M' := by rw [hR1]; exact c
    refine wp_nx (e' := [some (.scr ns), some (.loc 0), a2, some F, a4, a5, some R1, a7, a8]) (M' := M') (asg_v c) ?_
    exact wp_of (.nx [some (.scr ns), some (.loc 0), a2, some F, a4, a5, some R1, a7, a8]) (M' := M') (by simp [seqS, ifS, retS, raiseF, raiseS, consA, nilA, binD, callD, nameD, cD, bindE_v, thenS_v, bindE_x, thenS_x, unD, parS, asgS, tupD, int2F, eq_int, ne_int, intF0, negF, notF, nilS, brD, fnD, addE, subE, ix0, ix1, dropS, asgG, tupG, consG, nameG, nilG, lstD, andD, orD, tstD, ownS, appS, len_tup, len_lst, tup_tup, wipeE, set1, set2, typ_int, typ_tup, typ_non, typ_lst, isF, chainD, asT, truD, len_row, typ_row, i1, lk2, sw, lk3]) ⟨⟨_, _, _, _, _, _, rfl⟩, k2, g2, by omega⟩
end
theorem law_true : ∀ ns : List Int, ns.length ≤ 63 → (∀ z ∈ ns, Builtin.Int.intBits z ≤ 1048576) → ∃ M, m_law [.scr ns] [] = some (.val (.bl true), M) := by
  intro ns hn _
  refine ⟨[], ?_⟩
  show cutF (ofBody 9 den_law) [.scr ns] [] = ok (.bl true) []
  obtain ⟨L, hL⟩ : ∃ L : Int, L = (ns.length : Int) := ⟨_, rfl⟩
  obtain ⟨m, hm⟩ : ∃ m : Nat, (m : Int) = 3 + (if L < 9 then L else 9) := ⟨(3 + (if L < 9 then L else 9)).toNat, Int.toNat_of_nonneg (by split <;> omega)⟩
  have m12 : m ≤ 12 := by split at hm <;> omega
  refine fv_wp (e0 := [some (.scr ns), none, none, none, none, none, none, none, none]) rfl ?_ rfl
  unfold den_law
  refine wp_nx (e' := [some (.scr ns), some (.loc 0), none, none, none, none, none, none, none]) (M' := [.lst [.int 0]]) (by simp [seqS, ifS, retS, raiseF, raiseS, consA, nilA, binD, callD, nameD, cD, bindE_v, thenS_v, bindE_x, thenS_x, unD, parS, asgS, tupD, int2F, eq_int, ne_int, intF0, negF, notF, nilS, brD, fnD, addE, subE, ix0, ix1, dropS, asgG, tupG, consG, nameG, nilG, lstD, andD, orD, tstD, ownS, appS, len_tup, len_lst, tup_tup, wipeE, set1, set2, typ_int, typ_tup, typ_non, typ_lst, isF, chainD, asT, truD, len_row, typ_row]) ?_
  refine wp_for_nx ((List.range m).map fun (j : Nat) => D.int (j : Int)) (fun j e M' => (∃ a2 a3 a4 a5 a6 a7 a8, e = [some (.scr ns), some (.loc 0), a2, a3, a4, a5, a6, a7, a8]) ∧ ∃ k : Nat, M'[0]? = some (.lst [.int (k : Int)]) ∧ k ≤ 200 * j) (it_rng (by
    have le : ∀ M, lenF [.scr ns] M = ok (.int L) M := fun M => by rw [hL]; exact len_scr
    have mi : ∀ M, minF [.int 9, .int L] M = ok (.int (if L < 9 then L else 9)) M := fun M => rfl
    obtain ⟨x, hx⟩ : ∃ x : Int, x = (if L < 9 then L else 9) := ⟨_, rfl⟩
    rw [← hx] at hm
    simp only [← hx] at mi
    rw [hm]
    simp [consA, nilA, binD, callD, cD, nameD, bindE_v, le, addE]
    rw [show minF [.int 9, .int L] [Ob.lst [.int 0]] = ok (.int x) [Ob.lst [.int 0]] from mi _]
    simp [bindE_v, addE]) (by omega)) (fun j d e M' hd hi => ?_) (fun _ _ _ => trivial) ⟨⟨_, _, _, _, _, _, _, rfl⟩, 0, rfl, Nat.zero_le _⟩ (fun e' M' hi => ?_)
  · obtain ⟨⟨a2, a3, a4, a5, a6, a7, a8, rfl⟩, k, g, hk⟩ := hi
    obtain ⟨hj, rfl⟩ := rng_get hd
    obtain ⟨f, M2, q1, ⟨b3, b4, b5, b6, b7, b8, rfl⟩, k', g', hk'⟩ := turn_ok (M := M') (k := k) (ns := ns) (a2 := some (.int (j : Int))) (a3 := a3) (a4 := a4) (a5 := a5) (a6 := a6) (a7 := a7) (a8 := a8) g (by omega) hn
    exact ⟨trivial, [some (.scr ns), some (.loc 0), some (.int (j : Int)), a3, a4, a5, a6, a7, a8], M', rfl, wp_of _ q1 ⟨_, .inl rfl, ⟨_, _, _, _, _, _, _, rfl⟩, k', g', by omega⟩⟩
  · obtain ⟨⟨a2, a3, a4, a5, a6, a7, a8, rfl⟩, k, g, hk⟩ := hi
    rw [List.length_map (as := List.range m), List.length_range] at hk
    obtain ⟨Mx, q⟩ := bounds_ok (ns := ns) g (by omega) hn
    exact wp_of (.rt (.bl true)) (M' := Mx) (by simp [seqS, ifS, retS, raiseF, raiseS, consA, nilA, binD, callD, nameD, cD, bindE_v, thenS_v, bindE_x, thenS_x, unD, parS, asgS, tupD, int2F, eq_int, ne_int, intF0, negF, notF, nilS, brD, fnD, addE, subE, ix0, ix1, dropS, asgG, tupG, consG, nameG, nilG, lstD, andD, orD, tstD, ownS, appS, len_tup, len_lst, tup_tup, wipeE, set1, set2, typ_int, typ_tup, typ_non, typ_lst, isF, chainD, asT, truD, len_row, typ_row, q]) ⟨rfl, Mx, rfl⟩
end K02
namespace K02
open PySem L2 DL PyProof.Rows
theorem dend {P : Program} {w : World} {K : PySem.W.Frag} {h : Heap} {mg : Str → Option Value} {q : Program} {fa : Addr} (hP : ((P.main.file : Str) == ("/claim/cut.py" : Str)) = true) (hS : (P.main.scope.names.lookup ("super" : Str)).isSome = false) (X : K.In h) (G : h.Ns mainGlobals mg) (c : SaysZ fz mz vz K) (hfa : mg "law" = some (.ref fa))
    (r__law_looked_at : ∃ d, (recsOf q).find? (fun e => e.name == ("_law_looked_at" : Str)) = some d)
    (hden : ∀ ns : List Int, ns.length ≤ 63 → (∀ z ∈ ns, Builtin.Int.intBits z ≤ 1048576) → ∃ M, m_law [.scr ns] [] = some (.val (.bl true), M)) :
    DEnd P w K q 12 63 "script" mg fa := by
  have t : TxOk P (txOf K mg) := txok hP hS X G c
  have e := hfa.symm.trans t.g_law
  cases e
  refine ⟨(txOf K mg).fx, _, [(("_law_looked_at" : Str), cOf K "_law_looked_at", tOf K "_law_looked_at")], m_law, rfl, ?_, ?_, ?_, fun base _ _ tb => ok_law t ⟨tb (cOf K "_law_looked_at", tOf K "_law_looked_at") (by simp)⟩, hden⟩
  · intro y hy
    simp only [List.mem_cons, or_false, List.not_mem_nil] at hy
    rcases hy with rfl
    · exact ⟨r__law_looked_at, (codZ_ok (c.fact 4 1)).2⟩
  · intro y hy
    simp only [Tx.fx, List.mem_cons, or_false, List.not_mem_nil] at hy
    rcases hy with rfl
    · show tOf K "_law_looked_at" ∈ [tOf K "_law_looked_at"]
      simp
  · intro s v
    obtain ⟨oc, od, kV, doc, pm, an, cdv, ct, osl, hf, _⟩ := (F_law c).ex
    show BindsTo s (fdOf K (He.ga K "law")) _ _
    rw [hf]
    exact .of_eq rfl
end K02
open PySem PyProof.Rows
open PySem.W
set_option maxHeartbeats 0 in
theorem PySem.Challenge.cw_hollowrise_k02_fields_looked_at_holds : PySem.Challenge.rw_hollowrise_k02_fields_looked_at.Holds := by
  w_on; o_law
  refine HandSHeadRun.head_imp (r := OpenLaw.row PySem.Challenge.rw_hollowrise_k02_fields_looked_at) (q := K02.qz) (H := K02.hkz) (ob := DL.obZ 5 K02.fz K02.mz) (M := 30000) (loose := K02.nz) (d := HandSHeadRun.topDef (OpenLaw.row PySem.Challenge.rw_hollowrise_k02_fields_looked_at).prog 54) (kwd := []) (fun s => DL.obZ_eq s) K02.runz (by kernel_rfl) (by kernel_rfl) (by kernel_rfl) (by rfl) (by first | assumption | decide +kernel) (by decide +kernel) ⟨rfl, rfl, rfl, rfl, rfl, by decide +kernel⟩ ?hw ?hc
  case hw => w_witness2
  case hc =>
    refine DL.walk_Z (l := PySem.Challenge.rw_hollowrise_k02_fields_looked_at) (n := 63) (k := 12) (x := "script") rfl (by decide) (by kernel_rfl) ⟨rfl, by decide, by decide⟩ ?F
    intro w mg fa h Y G hmg0
    obtain ⟨K, KX, c⟩ := Y
    have hmgL : mg ("law" : PySem.Str) = some (.ref fa) := by
      have e : (HandSHeadRun.topDef (OpenLaw.row PySem.Challenge.rw_hollowrise_k02_fields_looked_at).prog 54).name = ("law" : PySem.Str) := by kernel_rfl
      rw [← e]
      exact hmg0
    exact ⟨K, KX, K02.dend (by kernel_rfl) (by kernel_rfl) KX G c hmgL ⟨HandSHeadRun.topDef (OpenLaw.row PySem.Challenge.rw_hollowrise_k02_fields_looked_at).prog 52, by kernel_rfl⟩ K02.law_true⟩
