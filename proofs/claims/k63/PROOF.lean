import PyProof.Rows.All
import HandS.Base
import HandS.Call
import HandS.List
import HandS.Exc
import HandS.ExcOwn
import HandS.Lambda
import HandS.Comp
import HandS.TryOnly
import HandS.Gcd
import HandS.Wide
import HandS.IsInst
import PyProof.IsRules
import PyProof.TypeOfCall
import PyProof.ReprRoads
import PyProof.CallFns
import PyProof.SliceList
import HandS.Words
import HandS.WordsList
import HandS.WordsExc
import HandS.ExcIs
import KE.KTryMore
import HandS.EndTab
import HandS.Dict
import HandS.EndBits
import KE.KNest
import HandS.Iter
import HandS.ForSpec
import KE.KExcSuper
import HandS.HeadWalk
import HandS.CallRecv
import KE.KExcInit
import HandS.TupMul
import HandS.Conv
import PyProof.EqAt
import PyProof.ReprBulk
import PyProof.FitsInt
import HandS.Deep
import HandS.TupAny
import KE.GoesEnum
import KE.GoesNew
import HandS.Walk
import HandS.Zip
import HandS.SortInts
import HandS.CallLocal
import HandS.Defaults
import HandS.SortRule
import HandS.Head0
import HandS.Head1
import HandS.Head2
import HandS.Head3
import HandS.HeadHook1
import HandS.HeadHook2
import HandS.HeadHook4
import PyProof.MaxThree
import KE.DataEq
import PySem.Challenge.RW_hollowrise_k63_frames
import Wide.FinOn
import OpenK.AllK
import PyProof.EqKinds
import PyProof.TupleCall
import Open.SpecLaws
import KE.OsGo
set_option Elab.async false
set_option linter.all false
set_option maxRecDepth 100000
set_option maxHeartbeats 3900000
namespace DL
open PySem L2
inductive D where
  | non
  | bl (b : Bool)
  | int (i : Int)
  | str (x : Str)
  | tup (ds : List D)
  | lst (ds : List D)
  | scr (ns : List Int)
  | emp
  | loc (n : Nat)
  | exc (c : String) (fs : List (Str × D))
  | ty (n : String)
  | cls (c : String)
  | clo (f c : Addr) (q : Str) (σd : List (Option V)) (is : List Nat) (ds : List D)
  | ktp (ns : List Int)
  deriving Inhabited
/-- what has a number: a list, a dict with ints and texts as keys, one with tuples of these (l: while it is gone through) -/
inductive Ob where
  | lst (ds : List D)
  | dk (l : Bool) (kvs : List (Key × D))
  | dt (l : Bool) (kvs : List (List Key × D))
  deriving Inhabited
abbrev Store := List Ob
abbrev Env := List (Option D)
/-- a list of the text's own -/
def KL (K : PySem.W.Frag) (a : Addr) (xs : List V) : Prop :=
  ∃ (ob : Obj) (us : Array Value) (m : Nat), K.lookup a = some ob ∧ ob.cls = .type "list" ∧ ob.dict = none ∧ ob.data = .seq us m ∧ us.size ≤ sizeLine ∧ Vals xs us.toList
/-- a tuple of the text's own -/
def KT (K : PySem.W.Frag) (a : Addr) (xs : List V) : Prop :=
  ∃ (ob : Obj) (us : Array Value) (m : Nat), K.lookup a = some ob ∧ ob.cls = .type "tuple" ∧ ob.data = .seq us m ∧ us.size ≤ sizeLine ∧ Vals xs us.toList
/-- the fixed things: the text, the classes' places, the tables of code -/
structure Fx where
  K : PySem.W.Frag
  cl : String → Option Addr
  T : List (Addr × Str)
/-- an exception as an object: its class and its own dict's fields -/
def ExAt (H : Hp) (C : Addr) (a : Addr) (dd : Option Addr) : Prop := ∃ φ : Heap → Prop, H a = some (.ext φ) ∧ ∀ h, φ h → ∃ (oe : Obj) (vs : Array Value), h.get? a = some oe ∧ oe.cls = .ref C ∧ oe.dict = dd ∧ oe.data = .fields vs
mutual
def Rep (F : Fx) (L : List Addr) (H : Hp) : D → V → Prop
  | .non, v => v = .non
  | .bl b, v => v = .bl b
  | .int i, v => v = .int i
  | .str x, v => v = .str x
  | .tup ds, v => ∃ a vs, v = .ref a ∧ H a = some (.tup vs) ∧ Reps F L H ds vs
  | .lst ds, v => ∃ a vs, v = .ref a ∧ (H a = some (.lst vs) ∧ a ∉ L) ∧ Reps F L H ds vs
  | .scr ns, v => ∃ a, v = .ref a ∧ ((∃ o, H a = some (.frz o (.lst (ns.map V.int)))) ∨ KL F.K a (ns.map V.int))
  | .emp, v => ∃ a, v = .ref a ∧ H a = some (.dK []) ∧ a ∉ L
  | .loc n, v => ∃ a, v = .ref a ∧ L[n]? = some a
  | .ty n, v => v = .ty n
  | .cls c, v => ∃ C, v = .ref C ∧ F.cl c = some C
  | .ktp ns, v => ∃ a, v = .ref a ∧ KT F.K a (ns.map V.int)
  | .clo f c q σd is ds, v => (v = .ref f ∧ H c = some (LamX.CodeO c q)) ∧ ∃ vs, (∀ (j i : Nat), is[j]? = some i → ∃ w, vs[j]? = some w ∧ σd[i]? = some (some w)) ∧ Reps F L H ds vs
  | .exc c fs, v => ∃ a C dd, v = .ref a ∧ F.cl c = some C ∧ ExAt H C a dd ∧ a ∉ L ∧ (match dd with | none => fs = [] | some x => ∃ ws, H x = some (.xd ws) ∧ x ∉ L ∧ RepF F L H fs ws)
def Reps (F : Fx) (L : List Addr) (H : Hp) : List D → List V → Prop
  | [], vs => vs = []
  | d :: ds, vs => ∃ v r, vs = v :: r ∧ Rep F L H d v ∧ Reps F L H ds r
def RepF (F : Fx) (L : List Addr) (H : Hp) : List (Str × D) → List (Str × V) → Prop
  | [], ws => ws = []
  | (f, d) :: fs, ws => ∃ v r, ws = (f, v) :: r ∧ Rep F L H d v ∧ RepF F L H fs r
end
/-- pairs -/
def RepP {κ : Type} (F : Fx) (L : List Addr) (H : Hp) : List (κ × D) → List (κ × V) → Prop
  | [], vs => vs = []
  | (k, d) :: kvs, vs => ∃ v r, vs = (k, v) :: r ∧ Rep F L H d v ∧ RepP F L H kvs r
/-- it stands there, locked or not -/
def LkAt (H : Hp) (a : Addr) (l : Bool) (u : HO) : Prop := match l with
  | false => H a = some u
  | true => ∃ o, H a = some (.frz o u)
def ObR (F : Fx) (L : List Addr) (H : Hp) (a : Addr) : Ob → Prop
  | .lst ds => ∃ vs, H a = some (.lst vs) ∧ Reps F L H ds vs
  | .dk l kvs => ∃ vs, LkAt H a l (.dK vs) ∧ RepP F L H kvs vs
  | .dt l kvs => ∃ vs, LkAt H a l (.dT vs) ∧ RepP F L H kvs vs
/-- what the store keeps -/
def OwnO : HO → Prop
  | .lst _ => True
  | .dK _ => True
  | .dT _ => True
  | .frz _ u => match u with
    | .dK _ => True
    | .dT _ => True
    | _ => False
  | _ => False
theorem LkAt.any {H : Hp} {a : Addr} {l : Bool} {u : HO} (h : LkAt H a l u) : ∃ o, H a = some o ∧ (o = u ∨ ∃ ob, o = .frz ob u) := by
  cases l with
  | false => exact ⟨u, h, .inl rfl⟩
  | true =>
    obtain ⟨o, h⟩ := h
    exact ⟨_, h, .inr ⟨o, rfl⟩⟩
/-- the store as it lies -/
structure SM (F : Fx) (L : List Addr) (H : Hp) (M : Store) : Prop where
  len : L.length = M.length
  nd : L.Nodup
  obs : ∀ (n : Nat) (a : Addr) (o : Ob), L[n]? = some a → M[n]? = some o → ObR F L H a o
  tbs : LamX.Tabs F.T H
/-- no table -/
abbrev NoTb (o : HO) : Prop := ∀ ps, o ≠ .tbl ps
/-- one state after another: what was known stays, but for the store and the tables; the store's new places were free -/
structure Stp (L : List Addr) (H : Hp) (L' : List Addr) (H' : Hp) : Prop where
  ext : ∀ a o, H a = some o → a ∉ L → (∀ ps, o ≠ .tbl ps) → H' a = some o
  new : ∃ N, L' = L ++ N ∧ ∀ x ∈ N, ∀ o, H x = some o → ∃ ps, o = .tbl ps
  dom : ∀ a o, H a = some o → NoTb o → ∃ u, H' a = some u ∧ NoTb u
  frz : ∀ a o u, a ∈ L → H a = some (.frz o u) → H' a = some (.frz o u)
theorem Stp.refl (L : List Addr) (H : Hp) : Stp L H L H := ⟨fun _ _ e _ _ => e, ⟨[], (List.append_nil L).symm, fun x hx => absurd hx (by simp)⟩, fun a o e n => ⟨o, e, n⟩, fun _ _ _ _ e => e⟩
theorem Stp.trans {L L1 L2 : List Addr} {H H1 H2 : Hp} (a : Stp L H L1 H1) (b : Stp L1 H1 L2 H2) : Stp L H L2 H2 := by
  obtain ⟨N1, e1, f1⟩ := a.new
  obtain ⟨N2, e2, f2⟩ := b.new
  refine ⟨fun x o hx hn ht => b.ext x o (a.ext x o hx hn ht) ?_ ht, ⟨N1 ++ N2, by rw [e2, e1, List.append_assoc], fun x hx o ho => ?_⟩, fun x o hx ht => ?_, fun x o u hx e => b.frz x o u (by rw [e1]; exact List.mem_append_left _ hx) (a.frz x o u hx e)⟩
  · rw [e1]
    intro z
    rcases List.mem_append.mp z with z | z
    · exact hn z
    · obtain ⟨ps, q⟩ := f1 x z o hx
      exact ht ps q
  · rcases List.mem_append.mp hx with z | z
    · exact f1 x z o ho
    · apply Classical.byContradiction
      intro hc
      obtain ⟨u, h1, h2⟩ := a.dom x o ho (fun ps q => hc ⟨ps, q⟩)
      obtain ⟨ps, q⟩ := f2 x z u h1
      exact h2 ps q
  · obtain ⟨u, h1, h2⟩ := a.dom x o hx ht
    exact b.dom x u h1 h2
/-- a new object beside the store -/
theorem Stp.alloc {L : List Addr} {H : Hp} {p : Addr} {o : HO} (hp : H p = none) : Stp L H L (upd H p o) := by
  refine ⟨fun a u e _ _ => ?_, ⟨[], (List.append_nil L).symm, fun x hx => absurd hx (by simp)⟩, fun a u e n => ⟨u, ?_, n⟩, fun a o' u _ e => by rw [upd_ne (ne_of_none e hp)]; exact e⟩
  · rw [upd_ne (ne_of_none e hp)]
    exact e
  · rw [upd_ne (ne_of_none e hp)]
    exact e
/-- a new object of the store -/
theorem Stp.alloc' {L : List Addr} {H : Hp} {p : Addr} {o : HO} (hp : H p = none) : Stp L H (L ++ [p]) (upd H p o) := by
  refine ⟨(Stp.alloc hp).ext, ⟨[p], rfl, fun x hx u hu => ?_⟩, (Stp.alloc (L := L) hp).dom, (Stp.alloc (L := L) hp).frz⟩
  have e : x = p := by simpa using hx
  rw [e, hp] at hu
  cases hu
/-- an object of the store is changed -/
theorem Stp.put {L : List Addr} {H : Hp} {p : Addr} {o : HO} (hp : p ∈ L) (hz : ∀ o' u, H p ≠ some (.frz o' u)) (hn : NoTb o := by exact fun ps z => nomatch z) : Stp L H L (upd H p o) := by
  refine ⟨fun a u e n _ => ?_, ⟨[], (List.append_nil L).symm, fun x hx => absurd hx (by simp)⟩, fun a u e n => ?_, fun a o' u _ e => by rw [upd_ne (fun z => hz o' u (by rw [← z]; exact e))]; exact e⟩
  · rw [upd_ne (fun z => n (by rw [z]; exact hp))]
    exact e
  · by_cases h : a = p
    · rw [h, upd_same]
      exact ⟨o, rfl, hn⟩
    · rw [upd_ne h]
      exact ⟨u, e, n⟩
section
variable {F : Fx} {L L' : List Addr} {H H' : Hp} {M M' : Store}
theorem Stp.get (s : Stp L H L' H') {n : Nat} {a : Addr} (e : L[n]? = some a) : L'[n]? = some a := by
  obtain ⟨N, rfl, _⟩ := s.new
  rw [List.getElem?_append_left (List.getElem?_eq_some_iff.mp e).1]
  exact e
theorem Stp.out (s : Stp L H L' H') {a : Addr} {o : HO} (e : H a = some o) (n : a ∉ L) (ht : NoTb o := by exact fun ps z => nomatch z) : a ∉ L' := by
  obtain ⟨N, rfl, f⟩ := s.new
  intro z
  rcases List.mem_append.mp z with z | z
  · exact n z
  · obtain ⟨ps, q⟩ := f a z o e
    exact ht ps q
theorem SM.get (m : SM F L H M) {n : Nat} {a : Addr} (e : L[n]? = some a) : ∃ o, M[n]? = some o ∧ ObR F L H a o := by
  have h : n < M.length := by rw [← m.len]; exact (List.getElem?_eq_some_iff.mp e).1
  exact ⟨M[n], List.getElem?_eq_getElem h, m.obs n a _ e (List.getElem?_eq_getElem h)⟩
theorem SM.kind (m : SM F L H M) {a : Addr} (e : a ∈ L) : ∃ o, H a = some o ∧ OwnO o := by
  obtain ⟨n, hn⟩ := List.mem_iff_getElem?.mp e
  obtain ⟨o, _, r⟩ := m.get hn
  cases o with
  | lst ds =>
    obtain ⟨vs, h, _⟩ := r
    exact ⟨_, h, trivial⟩
  | dk l kvs =>
    obtain ⟨vs, h, _⟩ := r
    obtain ⟨o, h, rfl | ⟨ob, rfl⟩⟩ := h.any
    · exact ⟨_, h, trivial⟩
    · exact ⟨_, h, trivial⟩
  | dt l kvs =>
    obtain ⟨vs, h, _⟩ := r
    obtain ⟨o, h, rfl | ⟨ob, rfl⟩⟩ := h.any
    · exact ⟨_, h, trivial⟩
    · exact ⟨_, h, trivial⟩
/-- what is known to be of another kind is not of the store -/
theorem SM.not (m : SM F L H M) {a : Addr} {o : HO} (h : H a = some o) (n : ¬ OwnO o) : a ∉ L := fun z => by
  obtain ⟨u, e, q⟩ := m.kind z
  rw [h] at e
  cases e
  exact n q
/-- what is read of a thing that stays -/
theorem rd_stay (s : Stp L H L' H') {a : Addr} {u : HO} (h : Rd H a u) (n : a ∉ L) (ht : ∀ ps, u ≠ .tbl ps) : Rd H' a u := by
  rcases h with h | ⟨o, h⟩
  · exact .inl (s.ext a _ h n ht)
  · exact .inr ⟨o, s.ext a _ h n fun ps z => by cases z⟩
theorem tup_out (m : SM F L H M) {a : Addr} {vs : List V} (h : Rd H a (.tup vs)) : a ∉ L := by
  rcases h with h | ⟨o, h⟩
  · exact m.not h id
  · exact m.not h id
theorem sqt_stay (m : SM F L H M) (s : Stp L H L' H') {a : Addr} {vs : List V} (h : SqT F.K H a vs) : SqT F.K H' a vs := by
  rcases h with h | h
  · exact .inl (rd_stay s h (tup_out m h) fun ps z => by cases z)
  · exact .inr h
theorem exat_stay (s : Stp L H L' H') {C a : Addr} {dd : Option Addr} (h : ExAt H C a dd) (n : a ∉ L) : ExAt H' C a dd ∧ a ∉ L' := by
  obtain ⟨φ, e, q⟩ := h
  exact ⟨⟨φ, s.ext a _ e n fun ps z => (by cases z), q⟩, s.out e n⟩
mutual
theorem Rep.stay (m : SM F L H M) (s : Stp L H L' H') : ∀ (d : D) (v : V), Rep F L H d v → Rep F L' H' d v
  | .non, _, h => h
  | .bl _, _, h => h
  | .int _, _, h => h
  | .str _, _, h => h
  | .ty _, _, h => h
  | .cls _, _, h => h
  | .ktp _, _, h => h
  | .clo f c q σd is ds, _, h => by
    obtain ⟨⟨h1, h2⟩, vs, h3, h4⟩ := h
    refine ⟨⟨h1, s.ext c _ h2 (m.not h2 id) fun ps z => ?_⟩, vs, h3, Reps.stay m s ds vs h4⟩
    · unfold LamX.CodeO at z
      cases z
  | .tup ds, _, h => by
    obtain ⟨a, vs, e, t, r⟩ := h
    exact ⟨a, vs, e, s.ext a _ t (m.not t id) fun ps z => (by cases z), Reps.stay m s ds vs r⟩
  | .lst ds, _, h => by
    obtain ⟨a, vs, e, t, r⟩ := h
    exact ⟨a, vs, e, ⟨s.ext a _ t.1 t.2 fun ps z => (by cases z), s.out t.1 t.2⟩, Reps.stay m s ds vs r⟩
  | .scr ns, _, h => by
    obtain ⟨a, e, t⟩ := h
    refine ⟨a, e, ?_⟩
    rcases t with ⟨o, t⟩ | t
    · exact .inl ⟨o, s.ext a _ t (m.not t id) fun ps z => (by cases z)⟩
    · exact .inr t
  | .emp, _, h => by
    obtain ⟨a, e, t, n⟩ := h
    exact ⟨a, e, s.ext a _ t n fun ps z => (by cases z), s.out t n⟩
  | .loc n, _, h => by
    obtain ⟨a, e, t⟩ := h
    exact ⟨a, e, s.get t⟩
  | .exc c fs, _, h => by
    obtain ⟨a, C, dd, e, hc, x, n, k⟩ := h
    obtain ⟨x', n'⟩ := exat_stay s x n
    refine ⟨a, C, dd, e, hc, x', n', ?_⟩
    cases dd with
    | none => exact k
    | some y =>
      obtain ⟨ws, h1, h2, h3⟩ := k
      exact ⟨ws, s.ext y _ h1 h2 fun ps z => (by cases z), s.out h1 h2, RepF.stay m s fs ws h3⟩
theorem Reps.stay (m : SM F L H M) (s : Stp L H L' H') : ∀ (ds : List D) (vs : List V), Reps F L H ds vs → Reps F L' H' ds vs
  | [], _, h => h
  | d :: ds, _, h => by
    obtain ⟨v, r, e, h1, h2⟩ := h
    exact ⟨v, r, e, Rep.stay m s d v h1, Reps.stay m s ds r h2⟩
theorem RepF.stay (m : SM F L H M) (s : Stp L H L' H') : ∀ (fs : List (Str × D)) (ws : List (Str × V)), RepF F L H fs ws → RepF F L' H' fs ws
  | [], _, h => h
  | (f, d) :: fs, _, h => by
    obtain ⟨v, r, e, h1, h2⟩ := h
    exact ⟨v, r, e, Rep.stay m s d v h1, RepF.stay m s fs r h2⟩
end
end
theorem RepP.stay {κ : Type} {F : Fx} {L L' : List Addr} {H H' : Hp} {M : Store} (m : SM F L H M) (s : Stp L H L' H') : ∀ (kvs : List (κ × D)) (vs : List (κ × V)), RepP F L H kvs vs → RepP F L' H' kvs vs
  | [], _, h => h
  | (k, d) :: kvs, _, h => by
    obtain ⟨v, r, e, h1, h2⟩ := h
    exact ⟨v, r, e, Rep.stay m s d v h1, RepP.stay m s kvs r h2⟩
theorem LkAt.imp {H H' : Hp} {a : Addr} {l : Bool} {u : HO} (ho : OwnO u) (hf : ∀ o, OwnO (.frz o u)) (e : ∀ o, H a = some o → OwnO o → H' a = some o) (h : LkAt H a l u) : LkAt H' a l u := by
  cases l with
  | false => exact e _ h ho
  | true =>
    obtain ⟨o, h⟩ := h
    exact ⟨o, e _ h (hf o)⟩
theorem ObR.stay {F : Fx} {L L' : List Addr} {H H' : Hp} {M : Store} {a : Addr} (m : SM F L H M) (s : Stp L H L' H') (e : ∀ o, H a = some o → OwnO o → H' a = some o) : ∀ o : Ob, ObR F L H a o → ObR F L' H' a o
  | .lst ds, ⟨vs, h, r⟩ => ⟨vs, e _ h trivial, Reps.stay m s ds vs r⟩
  | .dk l ds, ⟨vs, h, r⟩ => ⟨vs, h.imp trivial (fun _ => trivial) e, RepP.stay m s ds vs r⟩
  | .dt l ds, ⟨vs, h, r⟩ => ⟨vs, h.imp trivial (fun _ => trivial) e, RepP.stay m s ds vs r⟩
/-- the names' values -/
def EnvR (F : Fx) (L : List Addr) (H : Hp) (e : Env) (σ : St) : Prop := ∀ (i : Nat) (d : D), e[i]? = some (some d) → ∃ v, σ[i]? = some (some v) ∧ Rep F L H d v
structure SR (F : Fx) (L : List Addr) (H : Hp) (M : Store) (e : Env) (σ : St) : Prop where
  l : σ.length = e.length
  m : SM F L H M
  e : EnvR F L H e σ
theorem EnvR.stay {F : Fx} {L L' : List Addr} {H H' : Hp} {M : Store} {e : Env} {σ : St} (m : SM F L H M) (s : Stp L H L' H') (h : EnvR F L H e σ) : EnvR F L' H' e σ := fun i d q => by
  obtain ⟨v, h1, h2⟩ := h i d q
  exact ⟨v, h1, Rep.stay m s d v h2⟩
theorem SR.stay {F : Fx} {L L' : List Addr} {H H' : Hp} {M M' : Store} {e : Env} {σ : St} (h : SR F L H M e σ) (s : Stp L H L' H') (m : SM F L' H' M') : SR F L' H' M' e σ := ⟨h.l, m, h.e.stay h.m s⟩
/-- an object beside the store leaves the store -/
theorem SM.alloc {F : Fx} {L : List Addr} {H : Hp} {M : Store} {p : Addr} {o : HO} (m : SM F L H M) (hp : H p = none) : SM F L (upd H p o) M := by
  have s : Stp L H L (upd H p o) := Stp.alloc hp
  refine ⟨m.len, m.nd, fun n a ob h1 h2 => ?_, m.tbs.ext fun b x e => by rw [upd_ne (ne_of_none e hp)]; exact e⟩
  exact ObR.stay m s (fun u hu _ => by rw [upd_ne (ne_of_none hu hp)]; exact hu) ob (m.obs n a ob h1 h2)
/-- an exception that leaves: its class, its fields by its own dict -/
def ExR (F : Fx) (L : List Addr) (H : Hp) (c : String) (fs : List (Str × D)) (cls : Value) (dd : Option Addr) : Prop :=
  ∃ C, F.cl c = some C ∧ cls = .ref C ∧ (match dd with | none => fs = [] | some x => ∃ ws, H x = some (.xd ws) ∧ x ∉ L ∧ RepF F L H fs ws)
/-- a result: a value, or an exception; and the store. none: nothing is said -/
inductive Out (α : Type) where
  | val (d : α)
  | exc (c : String) (fs : List (Str × D))
abbrev RD (α : Type) := Option (Out α × Store)
abbrev RE := RD D
abbrev DenE := Env → Store → RE
def ok {α : Type} (d : α) (M : Store) : RD α := some (.val d, M)
def bindE {α β : Type} (r : RD α) (f : α → Store → RD β) : RD β := match r with
  | some (.val d, M) => f d M
  | some (.exc c fs, M) => some (.exc c fs, M)
  | none => none
/-- what is wanted of a result; rp: how it lies -/
def PostG {α β : Type} (F : Fx) (rp : List Addr → Hp → α → β → Prop) (e : Env) (L : List Addr) (H : Hp) (σ : St) (W : WX) (Q : β → Hp → Prop) : RD α → Prop
  | some (.val d, M') => ∀ (L' : List Addr) (H' : Hp) (v : β), Stp L H L' H' → SR F L' H' M' e σ → rp L' H' d v → Q v H'
  | some (.exc c fs, M') => ∀ (L' : List Addr) (H' : Hp) (cls : Value) (dd : Option Addr), Stp L H L' H' → SR F L' H' M' e σ → ExR F L' H' c fs cls dd → W cls dd σ H'
  | none => False
abbrev Post (F : Fx) := PostG (α := D) (β := V) F (Rep F)
abbrev PostA (F : Fx) := PostG (α := List D) (β := List V) F (Reps F)
/-- the expression x is den; a test; arguments -/
def DE (F : Fx) (X : Cx) (W : WX) (x : Expr) (den : DenE) : Prop :=
  ∃ t, PE X x t ∧ ∀ (e : Env) (M : Store) (L : List Addr) (σ : St) (H : Hp) (Q : VK), SR F L H M e σ → Post F e L H σ W Q (den e M) → t σ H Q
def DT (F : Fx) (X : Cx) (W : WX) (x : Expr) (den : DenE) : Prop :=
  ∃ t, PT X x t ∧ ∀ (e : Env) (M : Store) (L : List Addr) (σ : St) (H : Hp) (Q : Bool → Hp → Prop), SR F L H M e σ → Post F e L H σ W (fun v H' => ∃ b, v = .bl b ∧ Q b H') (den e M) → t σ H Q
def DW (F : Fx) (X : Cx) (W : WX) (x : Expr) (den : DenE) : Prop :=
  ∃ t, PW X x t ∧ ∀ (e : Env) (M : Store) (L : List Addr) (σ : St) (H : Hp) (Q : Bool → Hp → Prop), SR F L H M e σ → Post F e L H σ W (fun v H' => ∃ b, v = .bl b ∧ Q b H') (den e M) → t σ H Q
def DA (F : Fx) (X : Cx) (W : WX) (xs : List Expr) (den : Env → Store → RD (List D)) : Prop :=
  ∃ t, PA X xs t ∧ ∀ (e : Env) (M : Store) (L : List Addr) (σ : St) (H : Hp) (Q : List V → Hp → Prop), SR F L H M e σ → PostA F e L H σ W Q (den e M) → t σ H Q
section
variable {α β γ δ : Type} {F : Fx} {rp : List Addr → Hp → α → β → Prop} {rq : List Addr → Hp → γ → δ → Prop} {e : Env} {L L1 : List Addr} {H H1 : Hp} {M : Store} {σ : St} {W : WX} {Q Q' : β → Hp → Prop} {P : δ → Hp → Prop}
/-- as Post, from a state further on -/
theorem PostG.go (s : Stp L H L1 H1) : ∀ {r : RD α}, PostG F rp e L H σ W Q r → PostG F rp e L1 H1 σ W Q r
  | some (.val d, M'), h => fun L' H' v s' r rv => h L' H' v (s.trans s') r rv
  | some (.exc c fs, M'), h => fun L' H' cls dd s' r rv => h L' H' cls dd (s.trans s') r rv
  | none, h => h
theorem PostG.imp (k : ∀ v H', Q v H' → Q' v H') : ∀ {r : RD α}, PostG F rp e L H σ W Q r → PostG F rp e L H σ W Q' r
  | some (.val d, M'), h => fun L' H' v s' r rv => k v H' (h L' H' v s' r rv)
  | some (.exc c fs, M'), h => h
  | none, h => h
/-- one behind the other -/
theorem PostG.bind {f : α → Store → RD γ} (k : ∀ d M1 L1 H1 v, Stp L H L1 H1 → SR F L1 H1 M1 e σ → rp L1 H1 d v → PostG F rq e L1 H1 σ W P (f d M1) → Q v H1) :
    ∀ {r : RD α}, PostG F rq e L H σ W P (bindE r f) → PostG F rp e L H σ W Q r
  | some (.val d, M1), h => fun L1 H1 v s r rv => k d M1 L1 H1 v s r rv (PostG.go s h)
  | some (.exc c fs, M1), h => h
  | none, h => h
theorem PostG.ok {d : α} {v : β} (h : PostG F rp e L H σ W Q (ok d M)) (r : SR F L H M e σ) (rv : rp L H d v) : Q v H := h L H v (Stp.refl L H) r rv
end
end DL
namespace DL
open PySem L2
def nameD (i : Nat) : DenE := fun e M => match e[i]? with
  | some (some d) => ok d M
  | _ => none
def cD (d : D) : DenE := fun _ M => ok d M
/-- the list behind a value -/
def getL (M : Store) : D → Option (List D)
  | .lst ds => some ds
  | .scr ns => some (ns.map D.int)
  | .loc n => match M[n]? with
    | some (.lst ds) => some ds
    | _ => none
  | _ => none
def truD (M : Store) : D → Option Bool
  | .non => some false
  | .bl b => some b
  | .int i => some (i != 0)
  | .str x => if x.length ≤ sizeLine then some ((x.length : Int) != 0) else none
  | .tup ds => some (!ds.isEmpty)
  | .lst ds => some (!ds.isEmpty)
  | .scr ns => some (!(ns.map D.int).isEmpty)
  | .emp => some false
  | .loc n => (getL M (.loc n)).map fun ds => !ds.isEmpty
  | _ => none
section
variable {F : Fx} {X : Cx} {W : WX} {L : List Addr} {H : Hp} {M : Store} {e : Env} {σ : St}
theorem de_name (i : Nat) {x : Str} {pos : Pos} (hN : X.N[i]? = some x := by rfl) (hv : Vis X.env.scope x := by first | exact Or.inl rfl | exact Or.inr (Or.inl rfl) | exact Or.inr (Or.inr rfl)) (h1 : (x == ("__debug__" : Str)) = false := by decide)
    (h2 : (x == ("__classdict__" : Str)) = false := by decide) : DE F X W (.Name x pos) (nameD i) := by
  refine ⟨tVar i, pe_var hN hv h1 h2, fun e M L σ H Q r p => ?_⟩
  unfold nameD at p
  split at p
  · rename_i d hd
    obtain ⟨v, a, b⟩ := r.e i d hd
    exact ⟨v, a, p.ok r b⟩
  · exact False.elim p
theorem de_int {i : Int} {j pos} : DE F X W (.Constant (.int i) j pos) (cD (.int i)) := ⟨_, pe_int, fun e M L σ H Q r p => p.ok r rfl⟩
theorem de_bl {b : Bool} {j pos} : DE F X W (.Constant (.bool b) j pos) (cD (.bl b)) := ⟨_, pe_bl, fun e M L σ H Q r p => p.ok r rfl⟩
theorem de_non {j pos} : DE F X W (.Constant .none j pos) (cD .non) := ⟨_, pe_non, fun e M L σ H Q r p => p.ok r rfl⟩
theorem de_str {x : Str} {j pos} : DE F X W (.Constant (.str x) j pos) (cD (.str x)) := ⟨_, pe_str, fun e M L σ H Q r p => p.ok r rfl⟩
/-- a list stands there -/
def isL (M : Store) (n : Nat) : Bool := match M[n]? with
  | some (.lst _) => true
  | _ => false
theorem isL_at {n : Nat} {ds : List D} (h : M[n]? = some (.lst ds)) : isL M n = true := by
  unfold isL
  rw [h]
theorem isL_out {n : Nat} (h : isL M n = true) : ∃ ds, M[n]? = some (.lst ds) := by
  unfold isL at h
  split at h
  · exact ⟨_, by assumption⟩
  · cases h
theorem SM.lst (m : SM F L H M) {n : Nat} {a : Addr} (e : L[n]? = some a) (h : isL M n = true) : ∃ vs, H a = some (.lst vs) := by
  obtain ⟨ds, h⟩ := isL_out h
  obtain ⟨o, h1, h2⟩ := m.get e
  rw [h] at h1
  cases h1
  obtain ⟨vs, h3, _⟩ := h2
  exact ⟨vs, h3⟩
/-- reading behind what is represented -/
theorem reps_len : ∀ {ds : List D} {vs : List V}, Reps F L H ds vs → ds.length = vs.length
  | [], _, h => by
    have h' : _ = [] := h
    rw [h']
    rfl
  | d :: ds, _, h => by
    obtain ⟨v, r, rfl, _, h2⟩ := h
    rw [List.length_cons, List.length_cons, reps_len h2]
theorem reps_get : ∀ {ds : List D} {vs : List V} {j : Nat} {d : D}, Reps F L H ds vs → ds[j]? = some d → ∃ v, vs[j]? = some v ∧ Rep F L H d v
  | [], _, _, _, _, q => by simp at q
  | a :: ds, _, 0, d, h, q => by
    obtain ⟨v, r, rfl, h1, h2⟩ := h
    have q' : a = d := by simpa using q
    subst q'
    exact ⟨v, rfl, h1⟩
  | a :: ds, _, j + 1, d, h, q => by
    obtain ⟨v, r, rfl, h1, h2⟩ := h
    obtain ⟨u, h3, h4⟩ := reps_get (j := j) h2 (by simpa using q)
    exact ⟨u, by simpa using h3, h4⟩
theorem reps_app : ∀ {ds es : List D} {vs ws : List V}, Reps F L H ds vs → Reps F L H es ws → Reps F L H (ds ++ es) (vs ++ ws)
  | [], _, _, _, h, k => by
    have h' : _ = [] := h
    rw [h']
    exact k
  | d :: ds, _, _, _, h, k => by
    obtain ⟨v, r, rfl, h1, h2⟩ := h
    exact ⟨v, r ++ _, rfl, h1, reps_app h2 k⟩
theorem reps_snoc {ds : List D} {vs : List V} {d : D} {v : V} (h : Reps F L H ds vs) (k : Rep F L H d v) : Reps F L H (ds ++ [d]) (vs ++ [v]) := reps_app h ⟨v, [], rfl, k, rfl⟩
theorem reps_set : ∀ {ds : List D} {vs : List V} {d : D} {v : V} (j : Nat), Reps F L H ds vs → Rep F L H d v → Reps F L H (ds.set j d) (vs.set j v)
  | [], _, _, _, j, h, _ => by
    have h' : _ = [] := h
    rw [h']
    exact (rfl : ([] : List V) = [])
  | a :: ds, _, d, v, 0, h, k => by
    obtain ⟨w, r, rfl, h1, h2⟩ := h
    exact ⟨v, r, rfl, k, h2⟩
  | a :: ds, _, d, v, j + 1, h, k => by
    obtain ⟨w, r, rfl, h1, h2⟩ := h
    exact ⟨w, _, rfl, h1, reps_set j h2 k⟩
theorem reps_ints : ∀ (ns : List Int), Reps F L H (ns.map D.int) (ns.map V.int)
  | [] => rfl
  | n :: ns => ⟨.int n, _, rfl, rfl, reps_ints ns⟩
/-- the list behind a represented value -/
theorem getL_sq (hm : SM F L H M) {d : D} {ds : List D} {v : V} (g : getL M d = some ds) (r : Rep F L H d v) : ∃ a vs, v = .ref a ∧ SqL F.K H a vs ∧ Reps F L H ds vs := by
  cases d with
  | lst es =>
    have g' : es = ds := Option.some.inj g
    subst g'
    obtain ⟨a, vs, e1, e2, e3⟩ := r
    exact ⟨a, vs, e1, .inl (.inl e2.1), e3⟩
  | scr ns =>
    have g' : ns.map D.int = ds := Option.some.inj g
    subst g'
    obtain ⟨a, e1, e2⟩ := r
    refine ⟨a, _, e1, ?_, reps_ints ns⟩
    rcases e2 with ⟨o, e2⟩ | e2
    · exact .inl (.inr ⟨o, e2⟩)
    · exact .inr e2
  | loc n =>
    obtain ⟨a, e1, e2⟩ := r
    obtain ⟨o, h1, h2⟩ := hm.get e2
    cases o with
    | lst es =>
      unfold getL at g
      dsimp only at g
      rw [h1] at g
      have g' : es = ds := Option.some.inj g
      subst g'
      obtain ⟨vs, h3, h4⟩ := h2
      exact ⟨a, vs, e1, .inl (.inl h3), h4⟩
    | dk _ _ => unfold getL at g; dsimp only at g; rw [h1] at g; cases g
    | dt _ _ => unfold getL at g; dsimp only at g; rw [h1] at g; cases g
  | non => exact nomatch g
  | bl b => exact nomatch g
  | int i => exact nomatch g
  | str x => exact nomatch g
  | tup es => exact nomatch g
  | emp => exact nomatch g
  | exc c fs => exact nomatch g
  | ty c => exact nomatch g
  | cls c => exact nomatch g
  | clo f c q σd is ds => exact nomatch g
  | ktp ns => exact nomatch g
theorem tru_of (hm : SM F L H M) {d : D} {v : V} {b : Bool} (g : truD M d = some b) (r : Rep F L H d v) : TruV F.K v H b := by
  have emp : ∀ {ds : List D} {vs : List V}, Reps F L H ds vs → (!ds.isEmpty) = !vs.isEmpty := fun {ds vs} h => by
    have l := reps_len h
    cases ds with
    | nil =>
      cases vs with
      | nil => rfl
      | cons y ys => simp at l
    | cons x xs =>
      cases vs with
      | nil => simp at l
      | cons y ys => rfl
  cases d with
  | non =>
    have r' : v = .non := r
    subst r'
    exact (Option.some.inj g).symm
  | bl c =>
    have r' : v = .bl c := r
    subst r'
    exact (Option.some.inj g).symm
  | int i =>
    have r' : v = .int i := r
    subst r'
    exact (Option.some.inj g).symm
  | str x =>
    have r' : v = .str x := r
    subst r'
    unfold truD at g
    dsimp only at g
    split at g
    · rename_i hx
      exact ⟨hx, (Option.some.inj g).symm⟩
    · cases g
  | tup ds =>
    obtain ⟨a, vs, rfl, e2, e3⟩ := r
    have e2 := (Or.inl (Or.inl e2) : SqT F.K H a vs)
    have g' : (!ds.isEmpty) = b := Option.some.inj g
    exact .inr (.inl ⟨vs, e2, by rw [← g', emp e3]⟩)
  | lst ds =>
    obtain ⟨a, vs, rfl, e2, e3⟩ := getL_sq (ds := ds) hm rfl r
    have g' : (!ds.isEmpty) = b := Option.some.inj g
    exact .inl ⟨vs, e2, by rw [← g', emp e3]⟩
  | scr ns =>
    obtain ⟨a, vs, rfl, e2, e3⟩ := getL_sq (ds := ns.map D.int) hm rfl r
    have g' : (!(ns.map D.int).isEmpty) = b := Option.some.inj g
    exact .inl ⟨vs, e2, by rw [← g', emp e3]⟩
  | emp =>
    obtain ⟨a, rfl, e2, _⟩ := r
    exact .inr (.inr ⟨[], e2, (Option.some.inj g).symm⟩)
  | loc n =>
    unfold truD at g
    dsimp only at g
    cases q : getL M (.loc n) with
    | none => rw [q] at g; cases g
    | some ds =>
      rw [q] at g
      obtain ⟨a, vs, rfl, e2, e3⟩ := getL_sq hm q r
      have g' : (!ds.isEmpty) = b := Option.some.inj g
      exact .inl ⟨vs, e2, by rw [← g', emp e3]⟩
  | exc c fs => cases g
  | ty c => cases g
  | cls c => cases g
  | clo f c q σd is ds => cases g
  | ktp ns => cases g
/-- a value as a test -/
def asT (d : D) (M : Store) : RE := match truD M d with
  | some b => ok (.bl b) M
  | none => none
theorem dt_val (hK : X.K = F.K := by rfl) {x : Expr} {da : DenE} (ha : DE F X W x da) (he : ∀ whole, isTrue x X.env whole = (do let v ← whole; standAt x.pos; holding [v] (truthy v)) := by intro _; rfl) : DT F X W x (fun e M => bindE (da e M) asT) := by
  obtain ⟨t, p1, p2⟩ := ha
  refine ⟨_, pt_truth p1 he, fun e M L σ H Q r p => ?_⟩
  refine p2 e M L σ H _ r (PostG.bind (fun d M1 L1 H1 v s1 r1 rv q => ?_) p)
  unfold asT at q
  split at q
  · rename_i b hb
    obtain ⟨b', e1, e2⟩ := q.ok r1 rfl
    cases e1
    exact ⟨b, by rw [hK]; exact tru_of r1.m hb rv, e2⟩
  · exact False.elim q
/-- an operator by its reading r does f -/
def OpOk (F : Fx) (r : R2) (f : D → D → Store → RE) : Prop := ∀ (d1 d2 : D) (M : Store) (L : List Addr) (H : Hp) (e : Env) (σ : St) (W : WX) (v1 v2 : V) (Q : VK), SR F L H M e σ → Rep F L H d1 v1 → Rep F L H d2 v2 → Post F e L H σ W Q (f d1 d2 M) → r v1 v2 H Q
def binD (f : D → D → Store → RE) (da db : DenE) : DenE := fun e M => bindE (da e M) fun d1 M1 => bindE (db e M1) fun d2 M2 => f d1 d2 M2
theorem bin_ok {x y : Expr} {da db : DenE} {ta tb : TE} {r : R2} {f : D → D → Store → RE} (hf : OpOk F r f)
    (ha : ∀ (e : Env) (M : Store) (L : List Addr) (σ : St) (H : Hp) (Q : VK), SR F L H M e σ → Post F e L H σ W Q (da e M) → ta σ H Q)
    (hb : ∀ (e : Env) (M : Store) (L : List Addr) (σ : St) (H : Hp) (Q : VK), SR F L H M e σ → Post F e L H σ W Q (db e M) → tb σ H Q)
    (e : Env) (M : Store) (L : List Addr) (σ : St) (H : Hp) (Q : VK) (sr : SR F L H M e σ) (p : Post F e L H σ W Q (binD f da db e M)) : tOp r ta tb σ H Q := by
  refine ha e M L σ H _ sr (PostG.bind (fun d1 M1 L1 H1 v1 s1 r1 rv1 q => ?_) p)
  refine hb e M1 L1 σ H1 _ r1 (PostG.bind (fun d2 M2 L2 H2 v2 s2 r2 rv2 q2 => ?_) q)
  exact hf d1 d2 M2 L2 H2 e σ W v1 v2 Q r2 (Rep.stay r1.m s2 d1 v1 rv1) rv2 q2
theorem de_bin {op : Operator} {r : R2} {f : D → D → Store → RE} {x y : Expr} {da db : DenE} {pos : Pos} (hf : OpOk F r f) (ho : OpR X (binaryOp op) r) (ha : DE F X W x da) (hb : DE F X W y db) : DE F X W (.BinOp x op y pos) (binD f da db) := by
  obtain ⟨ta, pa, qa⟩ := ha
  obtain ⟨tb, pb, qb⟩ := hb
  exact ⟨_, pe_op ho pa pb, bin_ok (x := x) (y := y) hf qa qb⟩
theorem de_cmp {op : CmpOp} {r : R2} {f : D → D → Store → RE} {x y : Expr} {da db : DenE} {pos : Pos} (hf : OpOk F r f) (ho : OpR X (compareOp op) r) (ha : DE F X W x da) (hb : DE F X W y db) (hm : behindInMarks op y = false) : DE F X W (.Compare x [op] [y] pos) (binD f da db) := by
  obtain ⟨ta, pa, qa⟩ := ha
  obtain ⟨tb, pb, qb⟩ := hb
  exact ⟨_, pe_cmpR ho pa pb hm, bin_ok (x := x) (y := y) hf qa qb⟩
theorem dt_cmp {op : CmpOp} {r : R2} {f : D → D → Store → RE} {x y : Expr} {da db : DenE} {pos : Pos} (hf : OpOk F r f) (ho : OpR X (compareOp op) r) (ha : DE F X W x da) (hb : DE F X W y db) (hm : behindInMarks op y = false) : DT F X W (.Compare x [op] [y] pos) (binD f da db) := by
  obtain ⟨ta, pa, qa⟩ := ha
  obtain ⟨tb, pb, qb⟩ := hb
  exact ⟨_, pt_cmpR ho pa pb hm, fun e M L σ H Q sr p => bin_ok (x := x) (y := y) hf qa qb e M L σ H _ sr p⟩
theorem orR {g : Value → Value → Sem Value} {r r' : R2} (h : OpR X g r) (h' : OpR X g r') : OpR X g (fun x y H Q => r x y H Q ∨ r' x y H Q) := by
  intro p₀ s₀ σ₀ H₀ x y v u Q₀ I₀ rx ry q
  rcases q with q | q
  · exact h p₀ s₀ σ₀ H₀ x y v u Q₀ I₀ rx ry q
  · exact h' p₀ s₀ σ₀ H₀ x y v u Q₀ I₀ rx ry q
def unD (f : D → Store → RE) (da : DenE) : DenE := fun e M => bindE (da e M) f
def UnOk (F : Fx) (r : V → Hp → VK → Prop) (f : D → Store → RE) : Prop := ∀ (d : D) (M : Store) (L : List Addr) (H : Hp) (e : Env) (σ : St) (W : WX) (v : V) (Q : VK), SR F L H M e σ → Rep F L H d v → Post F e L H σ W Q (f d M) → r v H Q
theorem de_un {op : UnaryOp} {r : V → Hp → VK → Prop} {f : D → Store → RE} {x : Expr} {da : DenE} {pos : Pos} (hf : UnOk F r f) (ho : UnR X (unaryOp op) r) (ha : DE F X W x da) : DE F X W (.UnaryOp op x pos) (unD f da) := by
  obtain ⟨ta, pa, qa⟩ := ha
  exact ⟨_, pe_un ho pa, fun e M L σ H Q sr p => qa e M L σ H _ sr (PostG.bind (fun d1 M1 L1 H1 v1 s1 r1 rv1 q => hf d1 M1 L1 H1 e σ W v1 Q r1 rv1 q) p)⟩
def negF : D → Store → RE
  | .int i, M => ok (.int (-i)) M
  | _, _ => none
theorem neg_ok : UnOk F (rU fun i => .int (-i)) negF := fun d M L H e σ W v Q sr rv p => by
  unfold negF at p
  split at p
  · rename_i i
    have q : v = .int i := rv
    subst q
    exact ⟨i, rfl, p.ok sr rfl⟩
  · exact False.elim p
/-- two ints -/
def intF (c : Int → Int → Bool) (g : Int → Int → D) : D → D → Store → RE
  | .int i, .int j, M => if c i j = true then ok (g i j) M else none
  | _, _, _ => none
theorem int_ok {C : Int → Int → Prop} {c : Int → Int → Bool} {g : Int → Int → V} {g' : Int → Int → D} (hc : ∀ i j, c i j = true → C i j) (hg : ∀ L H i j, Rep F L H (g' i j) (g i j)) : OpOk F (rI C g) (intF c g') := fun d1 d2 M L H e σ W v1 v2 Q sr r1 r2 p => by
  unfold intF at p
  split at p
  · rename_i i j
    have q1 : v1 = .int i := r1
    have q2 : v2 = .int j := r2
    subst q1 q2
    split at p
    · rename_i h
      exact ⟨i, j, rfl, rfl, hc i j h, p.ok sr (hg L H i j)⟩
    · exact False.elim p
  · exact False.elim p
def intF0 (g : Int → Int → D) : D → D → Store → RE
  | .int i, .int j, M => ok (g i j) M
  | _, _, _ => none
theorem int_ok0 {g : Int → Int → V} {g' : Int → Int → D} (hg : ∀ L H i j, Rep F L H (g' i j) (g i j)) : OpOk F (rI0 g) (intF0 g') := fun d1 d2 M L H e σ W v1 v2 Q sr r1 r2 p => by
  unfold intF0 at p
  split at p
  · rename_i i j
    have q1 : v1 = .int i := r1
    have q2 : v2 = .int j := r2
    subst q1 q2
    exact ⟨i, j, rfl, rfl, p.ok sr (hg L H i j)⟩
  · exact False.elim p
abbrev subF := intF0 fun i j => .int (i - j)
theorem sub_ok : OpOk F (rI0 fun i j => .int (i - j)) subF := int_ok0 fun _ _ _ _ => rfl
abbrev ltF := intF0 fun i j => .bl (decide (i < j))
theorem lt_ok : OpOk F (rI0 fun i j => .bl (decide (i < j))) ltF := int_ok0 fun _ _ _ _ => rfl
abbrev leF := intF0 fun i j => .bl (decide (i ≤ j))
theorem le_ok : OpOk F (rI0 fun i j => .bl (decide (i ≤ j))) leF := int_ok0 fun _ _ _ _ => rfl
abbrev gtF := intF0 fun i j => .bl (decide (j < i))
theorem gt_ok : OpOk F (rI0 fun i j => .bl (decide (j < i))) gtF := int_ok0 fun _ _ _ _ => rfl
abbrev geF := intF0 fun i j => .bl (decide (j ≤ i))
theorem ge_ok : OpOk F (rI0 fun i j => .bl (decide (j ≤ i))) geF := int_ok0 fun _ _ _ _ => rfl
end
end DL
namespace DL
open PySem L2
section
variable {F : Fx} {X : Cx} {W : WX} {L : List Addr} {H : Hp} {M : Store} {e : Env} {σ : St}
theorem fresh_out (m : SM F L H M) {p : Addr} (hp : H p = none) : p ∉ L := fun z => by
  obtain ⟨o, q, _⟩ := m.kind z
  rw [hp] at q
  cases q
/-- a new list, a new tuple, as a value -/
theorem post_lst {Q : VK} {ds : List D} {vs : List V} {p : Addr} (h : Post F e L H σ W Q (ok (.lst ds) M)) (sr : SR F L H M e σ) (r : Reps F L H ds vs) (hp : H p = none) : Q (.ref p) (upd H p (.lst vs)) := by
  have s : Stp L H L (upd H p (.lst vs)) := Stp.alloc hp
  exact h L _ (.ref p) s (sr.stay s (sr.m.alloc hp)) ⟨p, vs, rfl, ⟨upd_same, fresh_out sr.m hp⟩, Reps.stay sr.m s ds vs r⟩
theorem post_tup {Q : VK} {ds : List D} {vs : List V} {p : Addr} (h : Post F e L H σ W Q (ok (.tup ds) M)) (sr : SR F L H M e σ) (r : Reps F L H ds vs) (hp : H p = none) : Q (.ref p) (upd H p (.tup vs)) := by
  have s : Stp L H L (upd H p (.tup vs)) := Stp.alloc hp
  exact h L _ (.ref p) s (sr.stay s (sr.m.alloc hp)) ⟨p, vs, rfl, upd_same, Reps.stay sr.m s ds vs r⟩
/-- the list behind a value that is no script -/
def getW (M : Store) : D → Option (List D)
  | .scr _ => none
  | d => getL M d
theorem getW_lst (hm : SM F L H M) {d : D} {ds : List D} {v : V} (g : getW M d = some ds) (r : Rep F L H d v) : ∃ a vs, v = .ref a ∧ H a = some (.lst vs) ∧ Reps F L H ds vs := by
  cases d with
  | lst es =>
    have g' : es = ds := Option.some.inj g
    subst g'
    obtain ⟨a, vs, e1, e2, e3⟩ := r
    exact ⟨a, vs, e1, e2.1, e3⟩
  | loc n =>
    obtain ⟨a, e1, e2⟩ := r
    obtain ⟨o, h1, h2⟩ := hm.get e2
    cases o with
    | lst es =>
      unfold getW getL at g
      dsimp only at g
      rw [h1] at g
      have g' : es = ds := Option.some.inj g
      subst g'
      obtain ⟨vs, h3, h4⟩ := h2
      exact ⟨a, vs, e1, h3, h4⟩
    | dk _ _ => unfold getW getL at g; dsimp only at g; rw [h1] at g; cases g
    | dt _ _ => unfold getW getL at g; dsimp only at g; rw [h1] at g; cases g
  | scr ns => exact nomatch g
  | non => exact nomatch g
  | bl b => exact nomatch g
  | int i => exact nomatch g
  | str x => exact nomatch g
  | tup es => exact nomatch g
  | emp => exact nomatch g
  | exc c fs => exact nomatch g
  | ty c => exact nomatch g
  | cls c => exact nomatch g
  | clo f c q σd is ds => exact nomatch g
  | ktp ns => exact nomatch g
def addF : D → D → Store → RE
  | .int i, .int j, M => ok (.int (i + j)) M
  | .str x, .str y, M => if x.length + y.length ≤ sizeLine then ok (.str (x ++ y)) M else none
  | .tup xs, .tup ys, M => if xs.length + ys.length ≤ sizeLine ∧ xs ≠ [] then ok (.tup (xs ++ ys)) M else none
  | x, y, M => match getW M x, getW M y with
    | some xs, some ys => if xs.length + ys.length ≤ sizeLine then ok (.lst (xs ++ ys)) M else none
    | _, _ => none
abbrev rAddD (K : PySem.W.Frag) : R2 := fun x y H Q => (rI0 (fun i j => .int (i + j)) x y H Q) ∨ ((∃ i j, x = .str i ∧ y = .str j ∧ i.length + j.length ≤ sizeLine ∧ Q (.str (i ++ j)) H) ∨ (rCat x y H Q ∨ rCatT K x y H Q))
theorem opr_add : OpR X (binaryOp .Add) (rAddD X.K) := orR op_add (orR op_add_str (orR op_cat op_catT))
theorem add_ok : OpOk F (rAddD F.K) addF := fun d1 d2 M L H e σ W v1 v2 Q sr r1 r2 p => by
  unfold addF at p
  split at p
  · rename_i i j
    have q1 : v1 = .int i := r1
    have q2 : v2 = .int j := r2
    subst q1 q2
    exact .inl ⟨i, j, rfl, rfl, p.ok sr rfl⟩
  · rename_i x y
    have q1 : v1 = .str x := r1
    have q2 : v2 = .str y := r2
    subst q1 q2
    split at p
    · rename_i hz
      exact .inr (.inl ⟨x, y, rfl, rfl, hz, p.ok sr rfl⟩)
    · exact False.elim p
  · rename_i xs ys
    obtain ⟨a, vs, rfl, a2, a3⟩ := r1
    obtain ⟨b, ws, rfl, b2, b3⟩ := r2
    have a2p := a2
    have a2 := (Or.inl (Or.inl a2) : SqT F.K H a vs)
    have b2 := (Or.inl (Or.inl b2) : SqT F.K H b ws)
    split at p
    · rename_i hz
      have l1 := reps_len a3
      have l2 := reps_len b3
      refine .inr (.inr (.inr ⟨a, b, vs, ws, rfl, rfl, a2, b2, fun z => hz.2 ?_, by rw [← l1, ← l2]; exact hz.1, fun z => ?_, fun z p' hp => ?_⟩))
      · rw [z] at l1
        exact List.length_eq_zero_iff.mp l1
      · have z2 : ys = [] := by
          rw [z] at l2
          exact List.length_eq_zero_iff.mp l2
        rw [z2, List.append_nil] at p
        exact p.ok sr ⟨a, vs, rfl, a2p, a3⟩
      · exact post_tup p sr (reps_app a3 b3) hp
    · exact False.elim p
  · split at p
    · rename_i xs ys h1 h2
      obtain ⟨a, vs, rfl, a2, a3⟩ := getW_lst sr.m h1 r1
      obtain ⟨b, ws, rfl, b2, b3⟩ := getW_lst sr.m h2 r2
      split at p
      · rename_i hz
        have l1 := reps_len a3
        have l2 := reps_len b3
        exact .inr (.inr (.inl ⟨a, b, vs, ws, rfl, rfl, a2, b2, by rw [← l1, ← l2]; exact hz, fun p' hp => post_lst p sr (reps_app a3 b3) hp⟩))
      · exact False.elim p
    · exact False.elim p
def mulF : D → D → Store → RE
  | .int i, .int j, M => if i.natAbs.log2 + j.natAbs.log2 < 1000000 then ok (.int (i * j)) M else none
  | x, .int k, M => match getW M x with
    | some xs => if -(2 ^ 63) ≤ k ∧ k < 2 ^ 63 ∧ xs.length * k.toNat ≤ sizeLine then ok (.lst (List.replicate k.toNat xs).flatten) M else none
    | none => none
  | _, _, _ => none
abbrev rMulD : R2 := fun x y H Q => (rI CMulW (fun i j => .int (i * j)) x y H Q) ∨ rRep x y H Q
theorem opr_mul : OpR X (binaryOp .Mult) rMulD := orR op_mulW op_rep
theorem reps_rep {ds : List D} {vs : List V} (h : Reps F L H ds vs) : ∀ n : Nat, Reps F L H (List.replicate n ds).flatten (List.replicate n vs).flatten
  | 0 => (rfl : ([] : List V) = [])
  | n + 1 => by
    simp only [List.replicate_succ, List.flatten_cons]
    exact reps_app h (reps_rep h n)
theorem mul_ok : OpOk F rMulD mulF := fun d1 d2 M L H e σ W v1 v2 Q sr r1 r2 p => by
  unfold mulF at p
  split at p
  · rename_i i j
    have q1 : v1 = .int i := r1
    have q2 : v2 = .int j := r2
    subst q1 q2
    split at p
    · rename_i hz
      exact .inl ⟨i, j, rfl, rfl, hz, p.ok sr rfl⟩
    · exact False.elim p
  · rename_i k _
    have q2 : v2 = .int k := r2
    subst q2
    split at p
    · rename_i xs h1
      obtain ⟨a, vs, rfl, a2, a3⟩ := getW_lst sr.m h1 r1
      split at p
      · rename_i hz
        exact .inr ⟨a, k, vs, rfl, rfl, a2, hz.1, hz.2.1, by rw [← reps_len a3]; exact hz.2.2, fun p' hp => post_lst p sr (reps_rep a3 _) hp⟩
      · exact False.elim p
    · exact False.elim p
  · exact False.elim p
def CDivG (_ j : Int) : Prop := j ≠ 0 ∧ j.natAbs.log2 < 9000
theorem opr_fdiv : OpR X (binaryOp .FloorDiv) (rI CDivG fun i j => .int (i.fdiv j)) := opI fun i j t u s₀ Q₀ E₀ hc q => PyProof.Rows.floordiv_int hc.1 q (.inl (PyProof.noPylong_of_log2 hc.2))
abbrev fdivF := intF (fun _ j => decide (j ≠ 0 ∧ j.natAbs.log2 < 9000)) fun i j => .int (i.fdiv j)
theorem fdiv_ok : OpOk F (rI CDivG fun i j => .int (i.fdiv j)) fdivF := int_ok (fun i j h => of_decide_eq_true (p := j ≠ 0 ∧ j.natAbs.log2 < 9000) h) fun _ _ _ _ => rfl
abbrev fmodF := intF (fun _ j => decide (j ≠ 0)) fun i j => .int (i.fmod j)
theorem fmod_ok : OpOk F (rI (fun _ j => j ≠ 0) fun i j => .int (i.fmod j)) fmodF := int_ok (fun i j h => of_decide_eq_true h) fun _ _ _ _ => rfl
def CPowG (i j : Int) : Prop := 0 ≤ j ∧ (i.natAbs.log2 + 1) * j.toNat ≤ 134217728
theorem opr_pow : OpR X (binaryOp .Pow) (rI CPowG fun i j => .int (i ^ j.toNat)) := opI fun i j t u s₀ Q₀ E₀ hc q => by
  refine PyProof.Rows.pow_int hc.1 ?_ q
  obtain ⟨n, rfl⟩ := Int.eq_ofNat_of_zero_le hc.1
  have h2 := hc.2
  rw [Int.toNat_natCast] at h2
  have h3 : Builtin.Int.intBits i ≤ i.natAbs.log2 + 1 := by
    unfold Builtin.Int.intBits
    split
    · exact Nat.zero_le _
    · exact Nat.le_refl _
  have h4 : Builtin.Int.intBits i * n ≤ 134217728 := Nat.le_trans (Nat.mul_le_mul_right n h3) h2
  exact_mod_cast h4
abbrev powF := intF (fun i j => decide (0 ≤ j ∧ (i.natAbs.log2 + 1) * j.toNat ≤ 134217728)) fun i j => .int (i ^ j.toNat)
theorem pow_ok : OpOk F (rI CPowG fun i j => .int (i ^ j.toNat)) powF := int_ok (fun i j h => of_decide_eq_true (p := 0 ≤ j ∧ (i.natAbs.log2 + 1) * j.toNat ≤ 134217728) h) fun _ _ _ _ => rfl
mutual
def D.py : D → Option PyData
  | .non => some .none
  | .bl b => some (.bool b)
  | .int i => some (.int i)
  | .str x => some (.str x)
  | .tup ds => (D.pys ds).map .tuple
  | .lst ds => (D.pys ds).map .list
  | _ => none
def D.pys : List D → Option (List PyData)
  | [] => some []
  | d :: ds => match D.py d, D.pys ds with
    | some p, some ps => some (p :: ps)
    | _, _ => none
end
/-- a value read whole -/
def pyV (M : Store) : D → Option PyData
  | .loc n => (getL M (.loc n)).bind fun ds => (D.pys ds).map .list
  | .scr ns => some (.list (ns.map .int))
  | d => D.py d
mutual
theorem dp_of : ∀ {d : D} {v : V} {p : PyData}, Rep F L H d v → D.py d = some p → Dp F.K H v p
  | .non, _, _, r, h => by
    have q : _ = V.non := r
    have h' : PyData.none = _ := Option.some.inj h
    rw [q, ← h']
    exact .non
  | .bl b, _, _, r, h => by
    have q : _ = V.bl b := r
    have h' : PyData.bool b = _ := Option.some.inj h
    rw [q, ← h']
    exact .bl b
  | .int i, _, _, r, h => by
    have q : _ = V.int i := r
    have h' : PyData.int i = _ := Option.some.inj h
    rw [q, ← h']
    exact .int i
  | .str x, _, _, r, h => by
    have q : _ = V.str x := r
    have h' : PyData.str x = _ := Option.some.inj h
    rw [q, ← h']
    exact .str x
  | .tup ds, _, _, r, h => by
    obtain ⟨a, vs, rfl, e2, e3⟩ := r
    have e2 := (Or.inl (Or.inl e2) : SqT F.K H a vs)
    have h1 : (D.pys ds).map PyData.tuple = _ := h
    cases q : D.pys ds with
    | none => rw [q] at h1; cases h1
    | some ps =>
      rw [q] at h1
      have h' : PyData.tuple ps = _ := Option.some.inj h1
      rw [← h']
      exact .tup e2 (dps_of e3 q)
  | .lst ds, _, _, r, h => by
    obtain ⟨a, vs, rfl, e2, e3⟩ := r
    have h1 : (D.pys ds).map PyData.list = _ := h
    cases q : D.pys ds with
    | none => rw [q] at h1; cases h1
    | some ps =>
      rw [q] at h1
      have h' : PyData.list ps = _ := Option.some.inj h1
      rw [← h']
      exact .lst (.inl (.inl e2.1)) (dps_of e3 q)
  | .scr _, _, _, _, h => nomatch h
  | .emp, _, _, _, h => nomatch h
  | .loc _, _, _, _, h => nomatch h
  | .exc _ _, _, _, _, h => nomatch h
  | .ty _, _, _, _, h => nomatch h
  | .cls _, _, _, _, h => nomatch h
  | .clo _ _ _ _ _ _, _, _, _, h => nomatch h
  | .ktp _, _, _, _, h => nomatch h
theorem dps_of : ∀ {ds : List D} {vs : List V} {ps : List PyData}, Reps F L H ds vs → D.pys ds = some ps → DpAll F.K H vs ps
  | [], _, _, r, h => by
    have q : _ = [] := r
    have h' : [] = _ := Option.some.inj h
    rw [q, ← h']
    exact .nil
  | d :: ds, _, _, r, h => by
    obtain ⟨v, vs, rfl, r1, r2⟩ := r
    unfold D.pys at h
    split at h
    · rename_i p ps h1 h2
      have h' : p :: ps = _ := Option.some.inj h
      rw [← h']
      exact .cons (dp_of r1 h1) (dps_of r2 h2)
    · cases h
end
theorem dps_ints : ∀ ns : List Int, DpAll F.K H (ns.map V.int) (ns.map PyData.int)
  | [] => .nil
  | n :: ns => .cons (.int n) (dps_ints ns)
theorem dp_at (hm : SM F L H M) {d : D} {v : V} {p : PyData} (r : Rep F L H d v) (h : pyV M d = some p) : Dp F.K H v p := by
  cases d with
  | loc n =>
    have h1 : (getL M (.loc n)).bind (fun ds => (D.pys ds).map PyData.list) = some p := h
    cases q : getL M (.loc n) with
    | none => rw [q] at h1; cases h1
    | some ds =>
      rw [q] at h1
      obtain ⟨a, vs, rfl, e2, e3⟩ := getL_sq hm q r
      have h2 : (D.pys ds).map PyData.list = some p := h1
      cases q2 : D.pys ds with
      | none => rw [q2] at h2; cases h2
      | some ps =>
        rw [q2] at h2
        have h' : PyData.list ps = p := Option.some.inj h2
        rw [← h']
        exact .lst e2 (dps_of e3 q2)
  | scr ns =>
    obtain ⟨a, vs, rfl, e2, e3⟩ := getL_sq (ds := ns.map D.int) hm rfl r
    obtain ⟨a', e1', e2'⟩ := r
    cases e1'
    have h' : PyData.list (ns.map .int) = p := Option.some.inj h
    rw [← h']
    have sq : SqL F.K H a (ns.map V.int) := by
      rcases e2' with ⟨o, e2'⟩ | e2'
      · exact .inl (.inr ⟨o, e2'⟩)
      · exact .inr e2'
    exact .lst sq (dps_ints ns)
  | non => exact dp_of r h
  | bl b => exact dp_of r h
  | int i => exact dp_of r h
  | str x => exact dp_of r h
  | tup es => exact dp_of r h
  | lst es => exact dp_of r h
  | emp => exact dp_of r h
  | exc c fs => exact dp_of r h
  | ty c => exact dp_of r h
  | cls c => exact dp_of r h
  | clo f c q σd is ds => exact dp_of r h
  | ktp ns => exact dp_of r h
def eqvF (n : Bool) : D → D → Store → RE
  | .int i, .int j, M => ok (.bl (n != decide (i = j))) M
  | .str i, .str j, M => ok (.bl (n != decide (i = j))) M
  | x, y, M => match pyV M x, pyV M y with
    | some p, some q => if SeqAt.shaped p = true ∧ SeqAt.shaped q = true then ok (.bl (n != PyData.eqv p q)) M else none
    | _, _ => none
abbrev eqF := eqvF false
abbrev neF := eqvF true
abbrev rEqV (K : PySem.W.Frag) : R2 := fun x y H Q => rEq x y H Q ∨ rEqD K x y H Q
abbrev rNeV (K : PySem.W.Frag) : R2 := fun x y H Q => rNe x y H Q ∨ rNeD K x y H Q
theorem opr_eq (hu : X.A.units + 64 < cLine) : OpR X (compareOp .Eq) (rEqV X.K) := orR op_eq (op_eqD hu)
theorem opr_ne (hu : X.A.units + 64 < cLine) : OpR X (compareOp .NotEq) (rNeV X.K) := orR op_ne (op_neD hu)
theorem int_dec (i j : Int) : decide (V.int i = V.int j) = decide (i = j) := by
  by_cases h : i = j
  · rw [h, decide_eq_true rfl, decide_eq_true rfl]
  · rw [decide_eq_false h, decide_eq_false fun z => h (V.int.inj z)]
theorem str_dec (i j : Str) : decide (V.str i = V.str j) = decide (i = j) := by
  by_cases h : i = j
  · rw [h, decide_eq_true rfl, decide_eq_true rfl]
  · rw [decide_eq_false h, decide_eq_false fun z => h (V.str.inj z)]
theorem f_ne (b : Bool) : (false != b) = b := by cases b <;> rfl
theorem t_ne (b : Bool) : (true != b) = !b := by cases b <;> rfl
theorem eq_ok : OpOk F (rEqV F.K) eqF := fun d1 d2 M L H e σ W v1 v2 Q sr r1 r2 p => by
  unfold eqF eqvF at p
  split at p
  · rename_i i j
    have q1 : v1 = .int i := r1
    have q2 : v2 = .int j := r2
    subst q1 q2
    rw [f_ne, ← int_dec] at p
    exact .inl ⟨rfl, p.ok sr rfl⟩
  · rename_i i j
    have q1 : v1 = .str i := r1
    have q2 : v2 = .str j := r2
    subst q1 q2
    rw [f_ne, ← str_dec] at p
    exact .inl ⟨rfl, p.ok sr rfl⟩
  · split at p
    · rename_i a b h1 h2
      split at p
      · rename_i hs
        rw [f_ne] at p
        exact .inr ⟨a, b, dp_at sr.m r1 h1, dp_at sr.m r2 h2, hs.1, hs.2, p.ok sr rfl⟩
      · exact False.elim p
    · exact False.elim p
theorem ne_ok : OpOk F (rNeV F.K) neF := fun d1 d2 M L H e σ W v1 v2 Q sr r1 r2 p => by
  unfold neF eqvF at p
  split at p
  · rename_i i j
    have q1 : v1 = .int i := r1
    have q2 : v2 = .int j := r2
    subst q1 q2
    rw [t_ne, ← int_dec] at p
    exact .inl ⟨rfl, p.ok sr rfl⟩
  · rename_i i j
    have q1 : v1 = .str i := r1
    have q2 : v2 = .str j := r2
    subst q1 q2
    rw [t_ne, ← str_dec] at p
    exact .inl ⟨rfl, p.ok sr rfl⟩
  · split at p
    · rename_i a b h1 h2
      split at p
      · rename_i hs
        rw [t_ne] at p
        exact .inr ⟨a, b, dp_at sr.m r1 h1, dp_at sr.m r2 h2, hs.1, hs.2, p.ok sr rfl⟩
      · exact False.elim p
    · exact False.elim p
def isNone : D → Bool
  | .non => true
  | _ => false
theorem isNone_of {d : D} {v : V} (r : Rep F L H d v) : decide (v = .non) = isNone d := by
  cases d with
  | non =>
    have q : v = .non := r
    rw [q]
    rfl
  | bl b => rw [show v = .bl b from r]; rfl
  | int i => rw [show v = .int i from r]; rfl
  | str x => rw [show v = .str x from r]; rfl
  | ty n => rw [show v = .ty n from r]; rfl
  | cls c => obtain ⟨C, rfl, _⟩ := r; rfl
  | clo f c q σd is ds => obtain ⟨⟨rfl, _⟩, _⟩ := r; rfl
  | ktp ns => obtain ⟨a, rfl, _⟩ := r; rfl
  | tup ds => obtain ⟨a, vs, rfl, _⟩ := r; rfl
  | lst ds => obtain ⟨a, vs, rfl, _⟩ := r; rfl
  | scr ds => obtain ⟨a, rfl, _⟩ := r; rfl
  | emp => obtain ⟨a, rfl, _⟩ := r; rfl
  | loc n => obtain ⟨a, rfl, _⟩ := r; rfl
  | exc c fs => obtain ⟨a, C, dd, rfl, _⟩ := r; rfl
def isF (n : Bool) : D → D → Store → RE
  | x, .non, M => ok (.bl (n != isNone x)) M
  | .ty a, .ty b, M => ok (.bl (n != decide (a = b))) M
  | _, _, _ => none
abbrev rIsV (n : Bool) : R2 := fun x y H Q => (y = .non ∧ Q (.bl (n != decide (x = .non))) H) ∨ ∃ a b, x = .ty a ∧ y = .ty b ∧ Q (.bl (n != decide (a = b))) H
theorem beq_type (a b : String) : (Value.type a == .type b) = decide (a = b) := by
  by_cases h : a = b
  · rw [h, decide_eq_true rfl, beq_self_eq_true]
  · rw [decide_eq_false h, beq_eq_false_iff_ne.mpr fun z => h (Value.type.inj z)]
theorem opr_is : OpR X (compareOp .Is) (rIsV false) := by
  refine orR (r := fun x y H Q => y = .non ∧ Q (.bl (false != decide (x = .non))) H) (fun p₀ s₀ σ₀ H₀ x y v u Q₀ I₀ rx ry q => ?_) (fun p₀ s₀ σ₀ H₀ x y v u Q₀ I₀ rx ry q => ?_)
  · obtain ⟨q1, q2⟩ := q
    rw [f_ne] at q2
    exact op_isN p₀ s₀ σ₀ H₀ x y v u Q₀ I₀ rx ry ⟨q1, q2⟩
  · obtain ⟨a, b, rfl, rfl, q2⟩ := q
    cases rx
    cases ry
    rw [f_ne] at q2
    exact wpAny_is_plain rfl ⟨_, H₀, I₀, by rw [beq_type]; rfl, q2⟩
theorem opr_isnot : OpR X (compareOp .IsNot) (rIsV true) := by
  refine orR (r := fun x y H Q => y = .non ∧ Q (.bl (true != decide (x = .non))) H) (fun p₀ s₀ σ₀ H₀ x y v u Q₀ I₀ rx ry q => ?_) (fun p₀ s₀ σ₀ H₀ x y v u Q₀ I₀ rx ry q => ?_)
  · obtain ⟨q1, q2⟩ := q
    rw [t_ne] at q2
    exact op_notN p₀ s₀ σ₀ H₀ x y v u Q₀ I₀ rx ry ⟨q1, q2⟩
  · obtain ⟨a, b, rfl, rfl, q2⟩ := q
    cases rx
    cases ry
    rw [t_ne] at q2
    exact wpAny_isNot_plain rfl ⟨_, H₀, I₀, by rw [beq_type]; rfl, q2⟩
theorem is_ok {n : Bool} : OpOk F (rIsV n) (isF n) := fun d1 d2 M L H e σ W v1 v2 Q sr r1 r2 p => by
  unfold isF at p
  split at p
  · have q2 : v2 = .non := r2
    rw [← isNone_of r1] at p
    exact .inl ⟨q2, p.ok sr rfl⟩
  · rename_i a b
    have q1 : v1 = .ty a := r1
    have q2 : v2 = .ty b := r2
    exact .inr ⟨a, b, q1, q2, p.ok sr rfl⟩
  · exact False.elim p
end
end DL
namespace DL
open PySem L2
section
variable {F : Fx} {X : Cx} {W : WX} {L : List Addr} {H : Hp} {M : Store} {e : Env} {σ : St}
theorem reps_at {ds : List D} {vs : List V} {i : Int} {d : D} (r : Reps F L H ds vs) (h : atI ds i = some d) : ∃ v, atI vs i = some v ∧ Rep F L H d v := by
  unfold atI at h ⊢
  rw [← reps_len r]
  cases q : ixN ds.length i with
  | none => rw [q] at h; cases h
  | some j =>
    rw [q] at h
    exact reps_get r h
def ixF : D → D → Store → RE
  | .tup ds, .int i, M => match atI ds i with
    | some d => ok d M
    | none => none
  | .str z, .int i, M => if z.length ≤ sizeLine then (match atI z.cps.toList i with
    | some c => ok (.str ⟨#[c]⟩) M
    | none => none) else none
  | x, .int i, M => match getL M x with
    | some ds => (match atI ds i with
      | some d => ok d M
      | none => none)
    | none => none
  | _, _, _ => none
abbrev rIxD (K : PySem.W.Frag) : R2 := fun x y H Q => rIxT K x y H Q ∨ (rIxS x y H Q ∨ rIxL K x y H Q)
theorem ixr_all : IxR X (rIxD X.K) := ix_tup.or (ix_str.or ix_list)
theorem ix_ok : OpOk F (rIxD F.K) ixF := fun d1 d2 M L H e σ W v1 v2 Q sr r1 r2 p => by
  unfold ixF at p
  split at p
  · rename_i ds i
    have q2 : v2 = .int i := r2
    subst q2
    obtain ⟨a, vs, rfl, a2, a3⟩ := r1
    have a2 := (Or.inl (Or.inl a2) : SqT F.K H a vs)
    split at p
    · rename_i d hd
      obtain ⟨v, h1, h2⟩ := reps_at a3 hd
      exact .inl ⟨a, vs, i, v, rfl, rfl, a2, h1, p.ok sr h2⟩
    · exact False.elim p
  · rename_i z i
    have q1 : v1 = .str z := r1
    have q2 : v2 = .int i := r2
    subst q1 q2
    split at p
    · rename_i hz
      split at p
      · rename_i c hc
        exact .inr (.inl ⟨z, i, c, rfl, rfl, hz, hc, p.ok sr rfl⟩)
      · exact False.elim p
    · exact False.elim p
  · rename_i i _ _
    have q2 : v2 = .int i := r2
    subst q2
    split at p
    · rename_i ds h1
      obtain ⟨a, vs, rfl, a2, a3⟩ := getL_sq sr.m h1 r1
      split at p
      · rename_i d hd
        obtain ⟨v, h3, h4⟩ := reps_at a3 hd
        exact .inr (.inr ⟨a, vs, i, v, rfl, rfl, a2, h3, p.ok sr h4⟩)
      · exact False.elim p
    · exact False.elim p
  · exact False.elim p
theorem de_ix {x y : Expr} {da db : DenE} {pos : Pos} (ha : DE F X W x da) (hb : DE F X W y db) (hK : X.K = F.K := by rfl) (hs : PlainIx y := by exact fun _ _ => rfl) : DE F X W (.Subscript x y pos) (binD ixF da db) := by
  obtain ⟨ta, pa, qa⟩ := ha
  obtain ⟨tb, pb, qb⟩ := hb
  have h := @ixr_all X
  rw [hK] at h
  exact ⟨_, pe_ix h pa pb hs, bin_ok (x := x) (y := y) ix_ok qa qb⟩
/-- a part of a slice: nothing, or an int -/
def DO (F : Fx) (X : Cx) (W : WX) (x : Option Expr) (den : Env → Store → RD (Option Int)) : Prop :=
  ∃ t, PO X x t ∧ ∀ (e : Env) (M : Store) (L : List Addr) (σ : St) (H : Hp) (Q : Option Int → Hp → Prop), SR F L H M e σ → PostG F (fun _ _ d v => d = v) e L H σ W Q (den e M) → t σ H Q
theorem do_none : DO F X W none (fun _ M => ok none M) := ⟨_, po_none, fun e M L σ H Q sr p => p.ok sr rfl⟩
theorem do_some {x : Expr} {da : DenE} (ha : DE F X W x da) : DO F X W (some x) (fun e M => bindE (da e M) fun d M1 => match d with
    | .int i => ok (some i) M1
    | _ => none) := by
  obtain ⟨ta, pa, qa⟩ := ha
  refine ⟨_, po_some pa, fun e M L σ H Q sr p => qa e M L σ H _ sr (PostG.bind (fun d M1 L1 H1 v s1 r1 rv q => ?_) p)⟩
  split at q
  · rename_i i
    exact ⟨i, rv, q.ok r1 rfl⟩
  · exact False.elim q
def pickL {α : Type} (xs : List α) (lo hi st : Option Int) : List α := (sliceRange (sliceBounds lo hi st xs.length).1 (sliceBounds lo hi st xs.length).2.1 (sliceBounds lo hi st xs.length).2.2).filterMap (xs[·]?)
theorem reps_pick {ds : List D} {vs : List V} (r : Reps F L H ds vs) : ∀ l : List Nat, Reps F L H (l.filterMap (ds[·]?)) (l.filterMap (vs[·]?))
  | [] => (rfl : ([] : List V) = [])
  | n :: l => by
    have ih := reps_pick r l
    rw [List.filterMap_cons, List.filterMap_cons]
    cases q : ds[n]? with
    | none =>
      have q2 : vs[n]? = none := by
        rw [List.getElem?_eq_none_iff] at q ⊢
        rw [← reps_len r]
        exact q
      rw [q2]
      exact ih
    | some d =>
      obtain ⟨v, h1, h2⟩ := reps_get r q
      rw [h1]
      exact ⟨v, _, rfl, h2, ih⟩
theorem vals_pick {vs : List V} {us : List Value} (r : Vals vs us) : ∀ l : List Nat, Vals (l.filterMap (vs[·]?)) (l.filterMap (us.toArray[·]?))
  | [] => .nil
  | n :: l => by
    have ih := vals_pick r l
    rw [List.filterMap_cons, List.filterMap_cons]
    cases q : vs[n]? with
    | none =>
      have q2 : us.toArray[n]? = none := by
        rw [List.getElem?_toArray]
        exact r.none_of q
      rw [q2]
      exact ih
    | some d =>
      obtain ⟨u, h1, h2⟩ := r.get q
      have q2 : us.toArray[n]? = some u := by
        rw [List.getElem?_toArray]
        exact h1
      rw [q2]
      exact .cons h2 ih
/-- xs[lo:hi:st], a list; the step is not 0 -/
def slcF (d : D) (lo hi st : Option Int) (M : Store) : RE := match getL M d with
  | some ds => if st = some 0 then none else ok (.lst (pickL ds lo hi st)) M
  | none => none
theorem de_slice3 {x : Expr} {lo hi st : Option Expr} {da : DenE} {dl dh dt : Env → Store → RD (Option Int)} {pos p2 : Pos} (ha : DE F X W x da) (hl : DO F X W lo dl) (hh : DO F X W hi dh) (ht : DO F X W st dt) (hK : X.K = F.K := by rfl) :
    DE F X W (.Subscript x (.Slice lo hi st p2) pos) (fun e M => bindE (da e M) fun d M1 => bindE (dl e M1) fun l M2 => bindE (dh e M2) fun h M3 => bindE (dt e M3) fun t M4 => slcF d l h t M4) := by
  obtain ⟨ta, pa, qa⟩ := ha
  obtain ⟨tl, pl, ql⟩ := hl
  obtain ⟨th, ph, qh⟩ := hh
  obtain ⟨tt, pt, qt⟩ := ht
  refine ⟨fun σ H Q => ta σ H fun x H1 => tl σ H1 fun l H2 => th σ H2 fun u H3 => tt σ H3 fun t H4 => ∃ a vs, x = .ref a ∧ SqL X.K H4 a vs ∧ t ≠ some 0 ∧ ∀ p, H4 p = none → Q (.ref p) (upd H4 p (.lst (pickL vs l u t))), ⟨fun p₀ s₀ σ₀ H₀ Q₀ I₀ h₀ => ?_⟩, fun e M L σ H Q sr p => ?_⟩
  · refine PyProof.Rows.Subscript_ (thn (pa.run p₀ s₀ σ₀ H₀ _ I₀ h₀) fun v s1 ⟨x1, H1, I1, r1, q1⟩ => ?_)
    refine wpAny_Slice (thn (pl.run p₀ s1 σ₀ H1 _ I1 q1) fun vl s2 ⟨l, H2, I2, pl, q2⟩ => thn (ph.run p₀ s2 σ₀ H2 _ I2 q2) fun vu s3 ⟨u, H3, I3, pu, q3⟩ => ?_)
    refine thn (pt.run p₀ s3 σ₀ H3 _ I3 q3) fun vt s4 ⟨t, H4, I4, pst, q4⟩ => ?_
    obtain ⟨a, vs, rfl, hq, h0, hx⟩ := q4
    have rv : v = Value.ref a := r1
    subst rv
    have I5 : Inv X p₀ σ₀ H4 { s4 with heap := s4.heap.push { cls := .type "slice", data := .fields #[vl, vu, vt] } } := I4.kept (t' := s4.toks) fun b ob q => Heap.get?_push_of_some _ q
    obtain ⟨its, rz, hpl, hz⟩ := I5.list hq
    have hln := rz.length
    obtain ⟨ops, hops⟩ : ∃ ops, subscripted (.Slice lo hi st p2) false (.ref a) (.ref s4.heap.objs.size) = operate ops (getItem (.ref a) (.ref s4.heap.objs.size)) := by
      cases st with
      | none => exact ⟨_, rfl⟩
      | some y => exact ⟨_, rfl⟩
    refine PyProof.Rows.tail_any (ops := ops) hpl.isList.typeIs slot_list_getitem.lookup (wpAny_getItem_list_slice hpl.isList (Heap.IsSliceOf.new _ vl vu vt) pl pu pst h0 ?_ (by rw [List.size_toArray, ← hln]; exact hz)) hops
    have hsz : ({ s4 with heap := s4.heap.push { cls := .type "slice", data := .fields #[vl, vu, vt] } } : Shared).heap.objs.size ≤ _ := Nat.le_refl _
    have hf := I5.hok.fresh hsz
    have vp : Vals (pickL vs l u t) (slicePick its.toArray l u t).toList := by
      unfold pickL slicePick
      rw [List.size_toArray, ← hln]
      exact vals_pick rz _
    have lz : (pickL vs l u t).length ≤ sizeLine := by
      rw [vp.length]
      have h1 : (slicePick its.toArray l u t).toList.length ≤ its.toArray.size := slicePick_size_le its.toArray l u t
      have h2 : its.toArray.size = vs.length := by rw [List.size_toArray, hln]
      exact Nat.le_trans (Nat.le_trans h1 (Nat.le_of_eq h2)) hz
    refine ⟨.ref _, _, I5.laid (o := .lst (pickL vs l u t)) (t' := s4.toks) (fun b w q => Heap.get?_push_of_some _ q) hsz ⟨lz, _, 0, vp, ?_⟩, rfl, hx _ hf⟩
    exact Heap.get?_push_size _ (by rw [Array.toArray_toList] <;> rfl)
  · refine qa e M L σ H _ sr (PostG.bind (fun d1 M1 L1 H1 v1 s1 r1 rv1 q => ?_) p)
    refine ql e M1 L1 σ H1 _ r1 (PostG.bind (fun d2 M2 L2 H2 v2 s2 r2 rv2 q => ?_) q)
    refine qh e M2 L2 σ H2 _ r2 (PostG.bind (fun d3 M3 L3 H3 v3 s3 r3 rv3 q => ?_) q)
    refine qt e M3 L3 σ H3 _ r3 (PostG.bind (fun d4 M4 L4 H4 v4 s4 r4 rv4 q => ?_) q)
    subst rv2 rv3 rv4
    have rv := Rep.stay r3.m s4 d1 v1 (Rep.stay r2.m s3 d1 v1 (Rep.stay r1.m s2 d1 v1 rv1))
    unfold slcF at q
    split at q
    · rename_i ds hd
      obtain ⟨a, vs, rfl, a2, a3⟩ := getL_sq r4.m hd rv
      split at q
      · exact False.elim q
      · rename_i h0
        refine ⟨a, vs, rfl, by rw [hK]; exact a2, h0, fun p' hp => post_lst q r4 ?_ hp⟩
        unfold pickL
        rw [← reps_len a3]
        exact reps_pick a3 _
    · exact False.elim q
def brD {α : Type} (dt : DenE) (da db : Env → Store → RD α) : Env → Store → RD α := fun e M => bindE (dt e M) fun d M1 => match d with
  | .bl true => da e M1
  | .bl false => db e M1
  | _ => none
theorem de_ifExp {c x y : Expr} {dc da db : DenE} {pos : Pos} (hc : DT F X W c dc) (ha : DE F X W x da) (hb : DE F X W y db) : DE F X W (.IfExp c x y pos) (brD dc da db) := by
  obtain ⟨tc, pc, qc⟩ := hc
  obtain ⟨ta, pa, qa⟩ := ha
  obtain ⟨tb, pb, qb⟩ := hb
  refine ⟨_, pe_ifExp pc pa pb, fun e M L σ H Q sr p => qc e M L σ H _ sr (PostG.bind (fun d M1 L1 H1 v s1 r1 rv q => ?_) p)⟩
  split at q
  · refine ⟨true, rv, ?_⟩
    rw [if_pos rfl]
    exact qa e M1 L1 σ H1 Q r1 q
  · refine ⟨false, rv, ?_⟩
    rw [if_neg fun z => Bool.false_ne_true z]
    exact qb e M1 L1 σ H1 Q r1 q
  · exact False.elim q
def andD (da db : DenE) : DenE := brD da db (cD (.bl false))
def orD (da db : DenE) : DenE := brD da (cD (.bl true)) db
def notF : D → Store → RE
  | .bl b, M => ok (.bl (!b)) M
  | _, _ => none
theorem de_one {op} {x : Expr} {da : DenE} {pos : Pos} (ha : DE F X W x da) : DE F X W (.BoolOp op [x] pos) da := by
  obtain ⟨ta, pa, qa⟩ := ha
  exact ⟨ta, pe_one pa, qa⟩
theorem de_and {x y : Expr} {rest : List Expr} {da db : DenE} {pos : Pos} (ha : DE F X W x da) (hb : DE F X W (.BoolOp .And (y :: rest) pos) db) : DE F X W (.BoolOp .And (x :: y :: rest) pos) (andD da db) := by
  obtain ⟨ta, pa, qa⟩ := ha
  obtain ⟨tb, pb, qb⟩ := hb
  refine ⟨_, pe_and pa pb, fun e M L σ H Q sr p => qa e M L σ H _ sr (PostG.bind (fun d M1 L1 H1 v s1 r1 rv q => ?_) p)⟩
  split at q
  · refine ⟨true, rv, ?_⟩
    rw [if_pos rfl]
    exact qb e M1 L1 σ H1 Q r1 q
  · refine ⟨false, rv, ?_⟩
    rw [if_neg fun z => Bool.false_ne_true z]
    exact q.ok r1 rfl
  · exact False.elim q
theorem de_not {x : Expr} {da : DenE} {pos : Pos} (ha : DE F X W x da) : DE F X W (.UnaryOp .Not x pos) (unD notF da) := by
  obtain ⟨ta, pa, qa⟩ := ha
  refine ⟨_, pe_not pa, fun e M L σ H Q sr p => qa e M L σ H _ sr (PostG.bind (fun d M1 L1 H1 v s1 r1 rv q => ?_) p)⟩
  unfold notF at q
  split at q
  · rename_i b
    exact ⟨b, rv, q.ok r1 rfl⟩
  · exact False.elim q
/-- tests -/
theorem DW.dt {x : Expr} {da : DenE} (h : DW F X W x da) : DT F X W x da := by
  obtain ⟨t, p, q⟩ := h
  exact ⟨t, p.pt, q⟩
theorem dw_and1 {x : Expr} {da : DenE} {pos : Pos} (ha : DT F X W x da) : DW F X W (.BoolOp .And [x] pos) da := by
  obtain ⟨ta, pa, qa⟩ := ha
  exact ⟨ta, pw_and1 pa, qa⟩
theorem dw_or1 {x : Expr} {da : DenE} {pos : Pos} (ha : DT F X W x da) : DW F X W (.BoolOp .Or [x] pos) da := by
  obtain ⟨ta, pa, qa⟩ := ha
  exact ⟨ta, pw_or1 pa, qa⟩
theorem dw_and {x y : Expr} {rest : List Expr} {da db : DenE} {pos : Pos} (ha : DT F X W x da) (hb : DW F X W (.BoolOp .And (y :: rest) pos) db) : DW F X W (.BoolOp .And (x :: y :: rest) pos) (andD da db) := by
  obtain ⟨ta, pa, qa⟩ := ha
  obtain ⟨tb, pb, qb⟩ := hb
  refine ⟨_, pw_and pa pb, fun e M L σ H Q sr p => qa e M L σ H _ sr (PostG.bind (fun d M1 L1 H1 v s1 r1 rv q => ?_) p)⟩
  split at q
  · refine ⟨true, rv, ?_⟩
    rw [if_pos rfl]
    exact qb e M1 L1 σ H1 Q r1 q
  · refine ⟨false, rv, ?_⟩
    rw [if_neg fun z => Bool.false_ne_true z]
    obtain ⟨b, hb, hq⟩ := q.ok r1 rfl
    cases hb
    exact hq
  · exact False.elim q
theorem dw_or {x y : Expr} {rest : List Expr} {da db : DenE} {pos : Pos} (ha : DT F X W x da) (hb : DW F X W (.BoolOp .Or (y :: rest) pos) db) : DW F X W (.BoolOp .Or (x :: y :: rest) pos) (orD da db) := by
  obtain ⟨ta, pa, qa⟩ := ha
  obtain ⟨tb, pb, qb⟩ := hb
  refine ⟨_, pw_or pa pb, fun e M L σ H Q sr p => qa e M L σ H _ sr (PostG.bind (fun d M1 L1 H1 v s1 r1 rv q => ?_) p)⟩
  split at q
  · refine ⟨true, rv, ?_⟩
    rw [if_pos rfl]
    obtain ⟨b, hb, hq⟩ := q.ok r1 rfl
    cases hb
    exact hq
  · refine ⟨false, rv, ?_⟩
    rw [if_neg fun z => Bool.false_ne_true z]
    exact qb e M1 L1 σ H1 Q r1 q
  · exact False.elim q
theorem dt_not {x : Expr} {da : DenE} {pos : Pos} (ha : DT F X W x da) : DT F X W (.UnaryOp .Not x pos) (unD notF da) := by
  obtain ⟨ta, pa, qa⟩ := ha
  refine ⟨_, pt_not pa, fun e M L σ H Q sr p => qa e M L σ H _ sr (PostG.bind (fun d M1 L1 H1 v s1 r1 rv q => ?_) p)⟩
  unfold notF at q
  split at q
  · rename_i b
    obtain ⟨b', hb, hq⟩ := q.ok r1 rfl
    cases hb
    exact ⟨b, rv, hq⟩
  · exact False.elim q
abbrev DenA := Env → Store → RD (List D)
def nilA : DenA := fun _ M => ok [] M
def consA (da : DenE) (dr : DenA) : DenA := fun e M => bindE (da e M) fun d M1 => bindE (dr e M1) fun ds M2 => ok (d :: ds) M2
theorem da_nil : DA F X W [] nilA := ⟨_, pa_nil, fun e M L σ H Q sr p => p.ok sr (rfl : ([] : List V) = [])⟩
theorem da_cons {x : Expr} {xs : List Expr} {da : DenE} {dr : DenA} (ha : DE F X W x da) (hr : DA F X W xs dr) (hs : starEach (x :: xs) X.env = (false, eval x X.env) :: starEach xs X.env := by rfl) : DA F X W (x :: xs) (consA da dr) := by
  obtain ⟨ta, pa, qa⟩ := ha
  obtain ⟨tr, pr, qr⟩ := hr
  refine ⟨_, pa_cons pa pr hs, fun e M L σ H Q sr p => qa e M L σ H _ sr (PostG.bind (fun d M1 L1 H1 v s1 r1 rv q => ?_) p)⟩
  refine qr e M1 L1 σ H1 _ r1 (PostG.bind (fun ds M2 L2 H2 vs s2 r2 rvs q2 => ?_) q)
  exact q2.ok r2 ⟨v, vs, rfl, Rep.stay r1.m s2 d v rv, rvs⟩
def tupD (dr : DenA) : DenE := fun e M => bindE (dr e M) fun ds M1 => if ds.length ≤ 100000 then ok (.tup ds) M1 else none
def lstD (dr : DenA) : DenE := fun e M => bindE (dr e M) fun ds M1 => if ds.length ≤ 100000 then ok (.lst ds) M1 else none
theorem sz_ok {n : Nat} (h : n ≤ 100000) : n ≤ sizeLine := Nat.le_trans h (by decide)
theorem de_tup {xs : List Expr} {dr : DenA} {x1} {pos : Pos} (hr : DA F X W xs dr) : DE F X W (.Tuple xs x1 pos) (tupD dr) := by
  obtain ⟨tr, pr, qr⟩ := hr
  refine ⟨_, pe_tup pr, fun e M L σ H Q sr p => qr e M L σ H _ sr (PostG.bind (fun ds M1 L1 H1 vs s1 r1 rv q => ?_) p)⟩
  split at q
  · rename_i hl
    exact ⟨by rw [← reps_len rv]; exact sz_ok hl, fun p' hp => post_tup q r1 rv hp⟩
  · exact False.elim q
theorem de_lst {xs : List Expr} {dr : DenA} {pos : Pos} (hr : DA F X W xs dr) : DE F X W (.List xs pos) (lstD dr) := by
  obtain ⟨tr, pr, qr⟩ := hr
  refine ⟨_, pe_lst pr, fun e M L σ H Q sr p => qr e M L σ H _ sr (PostG.bind (fun ds M1 L1 H1 vs s1 r1 rv q => ?_) p)⟩
  split at q
  · rename_i hl
    exact ⟨by rw [← reps_len rv]; exact sz_ok hl, fun p' hp => post_lst q r1 rv hp⟩
  · exact False.elim q
def CallOk (F : Fx) (r : List V → Hp → VK → Prop) (f : List D → Store → RE) : Prop := ∀ (ds : List D) (M : Store) (L : List Addr) (H : Hp) (e : Env) (σ : St) (W : WX) (vs : List V) (Q : VK), SR F L H M e σ → Reps F L H ds vs → Post F e L H σ W Q (f ds M) → r vs H Q
def callD (f : List D → Store → RE) (dr : DenA) : DenE := fun e M => bindE (dr e M) f
theorem call_post {r : List V → Hp → VK → Prop} {f : List D → Store → RE} (hf : CallOk F r f) {dr : DenA} {t : TA}
    (hr : ∀ (e : Env) (M : Store) (L : List Addr) (σ : St) (H : Hp) (Q : List V → Hp → Prop), SR F L H M e σ → PostA F e L H σ W Q (dr e M) → t σ H Q)
    (e : Env) (M : Store) (L : List Addr) (σ : St) (H : Hp) (Q : VK) (sr : SR F L H M e σ) (p : Post F e L H σ W Q (callD f dr e M)) : tCB r t σ H Q :=
  hr e M L σ H _ sr (PostG.bind (fun ds M1 L1 H1 vs s1 r1 rv q => hf ds M1 L1 H1 e σ W vs Q r1 rv q) p)
theorem de_callB {x : Str} {p pos : Pos} {a : Expr} {as : List Expr} {dr : DenA} {id : String} {r : List V → Hp → VK → Prop} {f : List D → Store → RE} (hf : CallOk F r f) (hc : CallR X (.builtin id) r) (hm : X.mg x = none) (hr : DA F X W (a :: as) dr) (hg : Gl X x := by rfl) (hv : bootBuiltins x = some (.builtin id) := by decide +kernel) (hn : x ≠ "__name__" := by decide) (hdb : (x == ("__debug__" : Str)) = false := by decide)
    (he : starEach (a :: as) X.env = (false, eval a X.env) :: starEach as X.env := by rfl) (hpl : (backTo pos (starEach as X.env)).any (·.1) = false := by rfl) : DE F X W (.Call (.Name x p) (a :: as) [] pos) (callD f dr) := by
  obtain ⟨tr, pr, qr⟩ := hr
  exact ⟨_, pe_callB hc hg hm hv pr hn hdb he hpl, call_post hf qr⟩
theorem de_callTy {x : Str} {p pos : Pos} {a : Expr} {as : List Expr} {dr : DenA} {T : String} {r : List V → Hp → VK → Prop} {f : List D → Store → RE} (hf : CallOk F r f) (hc : CallR X (.type T) r) (hm : X.mg x = none) (hr : DA F X W (a :: as) dr) (hg : Gl X x := by rfl) (hv : bootBuiltins x = some (.type T) := by decide +kernel) (hn : x ≠ "__name__" := by decide) (hdb : (x == ("__debug__" : Str)) = false := by decide)
    (he : starEach (a :: as) X.env = (false, eval a X.env) :: starEach as X.env := by rfl) (hpl : (backTo pos (starEach as X.env)).any (·.1) = false := by rfl) : DE F X W (.Call (.Name x p) (a :: as) [] pos) (callD f dr) := by
  obtain ⟨tr, pr, qr⟩ := hr
  exact ⟨_, pe_callTy hc hg hm hv pr hn hdb he hpl, call_post hf qr⟩
theorem de_callG {x : Str} {p pos : Pos} {a : Expr} {as : List Expr} {dr : DenA} {id : String} {r : List V → Hp → VK → Prop} {f : List D → Store → RE} (hf : CallOk F r f) (hc : CallR X (.builtin id) r) (hm : X.mg x = some (.builtin id)) (hr : DA F X W (a :: as) dr) (hg : Gl X x := by rfl) (hdb : (x == ("__debug__" : Str)) = false := by decide)
    (he : starEach (a :: as) X.env = (false, eval a X.env) :: starEach as X.env := by rfl) (hpl : (backTo pos (starEach as X.env)).any (·.1) = false := by rfl) : DE F X W (.Call (.Name x p) (a :: as) [] pos) (callD f dr) := by
  obtain ⟨tr, pr, qr⟩ := hr
  exact ⟨_, pe_callBfun hc hg hm pr hdb he hpl, call_post hf qr⟩
/-- a built-in class by its name, as a value -/
theorem de_cls {x : Str} {T : String} {pos : Pos} (hm : X.mg x = none) (hg : Gl X x := by rfl) (hv : bootBuiltins x = some (.type T) := by decide +kernel) (hn : x ≠ "__name__" := by decide) (hd : (x == ("__debug__" : Str)) = false := by decide) : DE F X W (.Name x pos) (cD (.ty T)) :=
  ⟨_, pe_bltn (v := .ty T) hg hm hv rfl hn hd, fun e M L σ H Q sr p => p.ok sr rfl⟩
theorem reps1 {d : D} {vs : List V} (h : Reps F L H [d] vs) : ∃ v, vs = [v] ∧ Rep F L H d v := by
  obtain ⟨v, r, rfl, h1, h2⟩ := h
  have h3 : r = [] := h2
  exact ⟨v, by rw [h3], h1⟩
theorem reps2 {d d' : D} {vs : List V} (h : Reps F L H [d, d'] vs) : ∃ v v', vs = [v, v'] ∧ Rep F L H d v ∧ Rep F L H d' v' := by
  obtain ⟨v, r, rfl, h1, h2⟩ := h
  obtain ⟨v', rfl, h3⟩ := reps1 h2
  exact ⟨v, v', rfl, h1, h3⟩
def lenF : List D → Store → RE
  | [.tup ds], M => ok (.int (ds.length : Int)) M
  | [.str x], M => if x.length ≤ sizeLine then ok (.int (x.length : Int)) M else none
  | [.ktp ns], M => ok (.int (ns.length : Int)) M
  | [d], M => match getL M d with
    | some ds => ok (.int (ds.length : Int)) M
    | none => none
  | _, _ => none
abbrev rLenD (K : PySem.W.Frag) : List V → Hp → VK → Prop := fun xs H Q => ∃ x n, xs = [x] ∧ LenV K x H n ∧ Q (.int n) H
theorem len_ok : CallOk F (rLenD F.K) lenF := fun ds M L H e σ W vs Q sr rv p => by
  unfold lenF at p
  split at p
  · obtain ⟨v, rfl, a, ws, rfl, a2, a3⟩ := reps1 rv
    exact ⟨_, _, rfl, .inr ⟨ws, .inl (.inl a2), reps_len a3⟩, p.ok sr rfl⟩
  · rename_i x
    obtain ⟨v, rfl, h1⟩ := reps1 rv
    have q1 : v = .str x := h1
    subst q1
    split at p
    · rename_i hx
      exact ⟨_, _, rfl, ⟨hx, rfl⟩, p.ok sr rfl⟩
    · exact False.elim p
  · rename_i ns
    obtain ⟨v, rfl, a, rfl, a2⟩ := reps1 rv
    exact ⟨_, _, rfl, .inr ⟨_, .inr a2, (List.length_map ..).symm⟩, p.ok sr rfl⟩
  · split at p
    · rename_i ds h1
      obtain ⟨v, rfl, h2⟩ := reps1 rv
      obtain ⟨a, ws, rfl, a2, a3⟩ := getL_sq sr.m h1 h2
      exact ⟨_, _, rfl, .inl ⟨ws, a2, reps_len a3⟩, p.ok sr rfl⟩
    · exact False.elim p
  · exact False.elim p
def absF : List D → Store → RE
  | [.int i], M => ok (.int (if i < 0 then -i else i)) M
  | _, _ => none
theorem abs_ok : CallOk F (fun xs H Q => ∃ i, xs = [.int i] ∧ Q (.int (if i < 0 then -i else i)) H) absF := fun ds M L H e σ W vs Q sr rv p => by
  unfold absF at p
  split at p
  · rename_i i
    obtain ⟨v, rfl, h1⟩ := reps1 rv
    exact ⟨i, by rw [show v = .int i from h1], p.ok sr rfl⟩
  · exact False.elim p
def int2F (g : Int → Int → Int) : List D → Store → RE
  | [.int i, .int j], M => ok (.int (g i j)) M
  | _, _ => none
theorem int2_ok {g : Int → Int → Int} : CallOk F (fun xs H Q => ∃ i j, xs = [.int i, .int j] ∧ Q (.int (g i j)) H) (int2F g) := fun ds M L H e σ W vs Q sr rv p => by
  unfold int2F at p
  split at p
  · rename_i i j
    obtain ⟨v, v', rfl, h1, h2⟩ := reps2 rv
    exact ⟨i, j, by rw [show v = .int i from h1, show v' = .int j from h2], p.ok sr rfl⟩
  · exact False.elim p
abbrev minF := int2F fun i j => if j < i then j else i
abbrev gcdF := int2F fun i j => ((Nat.gcd i.natAbs j.natAbs : Nat) : Int)
theorem gcd_ok : CallOk F rGcd gcdF := fun ds M L H e σ W vs Q sr rv p => int2_ok ds M L H e σ W vs Q sr rv p
end
end DL
namespace DL
open PySem L2
/-- where a def's body stands: what is raised is wished as W; room for k calls; nothing is handled; no repr runs -/
structure Dc (X : Cx) (W : WX) (k : Nat) : Prop where
  tk : Takes X W
  room : Room k X.A
  calm : X.calm = true
  gd : X.A.guards = some []
  own : PassesOwn (model X.prog X.w) X.A X.env X.xe
theorem Dc.mono {X : Cx} {W : WX} {j k : Nat} (d : Dc X W k) (h : j ≤ k) : Dc X W j := ⟨d.tk, d.room.mono h, d.calm, d.gd, d.own⟩
theorem Dc.u64 {X : Cx} {W : WX} {k : Nat} (d : Dc X W k) : X.A.units + 64 < cLine := d.room.units
section
variable {F : Fx} {X : Cx} {W : WX} {L : List Addr} {H : Hp} {M : Store} {e : Env} {σ : St}
def tyN : D → Option String
  | .non => some "NoneType"
  | .bl _ => some "bool"
  | .int _ => some "int"
  | .str _ => some "str"
  | .tup _ => some "tuple"
  | .lst _ => some "list"
  | .scr _ => some "list"
  | .emp => some "dict"
  | .ktp _ => some "tuple"
  | _ => none
/-- with the store -/
def tyM (M : Store) : D → Option String
  | .loc n => match M[n]? with
    | some (Ob.lst _) => some "list"
    | _ => none
  | d => tyN d
/-- a value's class in the heap -/
inductive TyD (K : PySem.W.Frag) (H : Hp) : V → String → Prop
  | non : TyD K H .non "NoneType"
  | bl (b : Bool) : TyD K H (.bl b) "bool"
  | int (i : Int) : TyD K H (.int i) "int"
  | str (x : Str) : TyD K H (.str x) "str"
  | tup {a : Addr} {xs : List V} (q : SqT K H a xs) : TyD K H (.ref a) "tuple"
  | lst {a : Addr} {xs : List V} (q : SqL K H a xs) : TyD K H (.ref a) "list"
  | dic {a : Addr} {kvs : List (Key × V)} (q : H a = some (.dK kvs)) : TyD K H (.ref a) "dict"
theorem tyd_of (hm : SM F L H M) {d : D} {v : V} {T : String} (r : Rep F L H d v) (h : tyN d = some T) : TyD F.K H v T := by
  cases d with
  | non =>
    have q : v = .non := r
    cases Option.some.inj h
    rw [q]
    exact .non
  | bl b =>
    have q : v = .bl b := r
    cases Option.some.inj h
    rw [q]
    exact .bl b
  | int i =>
    have q : v = .int i := r
    cases Option.some.inj h
    rw [q]
    exact .int i
  | str x =>
    have q : v = .str x := r
    cases Option.some.inj h
    rw [q]
    exact .str x
  | tup ds =>
    obtain ⟨a, vs, rfl, e2, _⟩ := r
    cases Option.some.inj h
    exact .tup (.inl (.inl e2))
  | lst ds =>
    obtain ⟨a, vs, rfl, e2, _⟩ := getL_sq (ds := ds) hm rfl r
    cases Option.some.inj h
    exact .lst e2
  | scr ns =>
    obtain ⟨a, vs, rfl, e2, _⟩ := getL_sq (ds := ns.map D.int) hm rfl r
    cases Option.some.inj h
    exact .lst e2
  | loc n => cases h
  | emp =>
    obtain ⟨a, rfl, e2, _⟩ := r
    cases Option.some.inj h
    exact .dic e2
  | exc c fs => cases h
  | ty n => cases h
  | cls n => cases h
  | clo f c q σd is ds => cases h
  | ktp ns =>
    obtain ⟨a, rfl, a2⟩ := r
    cases Option.some.inj h
    exact .tup (.inr a2)
theorem tym_of (hm : SM F L H M) {d : D} {v : V} {T : String} (r : Rep F L H d v) (h : tyM M d = some T) : TyD F.K H v T := by
  by_cases hl : ∃ n, d = .loc n
  · obtain ⟨n, rfl⟩ := hl
    unfold tyM at h
    dsimp only at h
    split at h
    · rename_i ds hd
      cases Option.some.inj h
      obtain ⟨a, rfl, e2⟩ := r
      obtain ⟨o, h1, h2⟩ := hm.get e2
      rw [hd] at h1
      cases h1
      obtain ⟨vs, h3, _⟩ := h2
      exact .lst (.inl (.inl h3))
    · cases h
  · have e : tyM M d = tyN d := by
      cases d with
      | loc n => exact absurd ⟨n, rfl⟩ hl
      | _ => rfl
    rw [e] at h
    exact tyd_of hm r h
theorem TyD.x {K : PySem.W.Frag} {v : V} {T : String} (h : TyD K H v T) : TyX K H v (.type T) := by
  cases h with
  | non => exact .base .non
  | bl b => exact .base (.bl b)
  | int i => exact .base (.int i)
  | str x => exact .base (.str x)
  | tup q =>
    rcases q with (q | ⟨o, q⟩) | ⟨o, its, n, q1, q2, _⟩
    · exact .base (.tup q)
    · exact .fTuple q
    · exact .kTuple q1 q2
  | lst q =>
    rcases q with (q | ⟨o, q⟩) | ⟨o, its, n, q1, q2, _⟩
    · exact .base (.lst q)
    · exact .base (.frz q)
    · exact .kList q1 q2
  | dic q => exact .base (.dK q)
def rTyp (K : PySem.W.Frag) : List V → Hp → VK → Prop := fun vs H Q => ∃ v T, vs = [v] ∧ TyD K H v T ∧ Q (.ty T) H
theorem callr_type : CallR X (.type "type") (rTyp X.K) := by
  intro p₀ s₀ σ₀ H₀ vs us Q₀ I₀ r h
  obtain ⟨v, T, rfl, t, q⟩ := h
  obtain ⟨u, eu1, rx⟩ := vals1 r
  subst eu1
  have fin : EP X p₀ σ₀ Q₀ (.type T) s₀ := ⟨.ty T, H₀, I₀, rfl, q⟩
  cases t with
  | non =>
    have z : u = .none := rx
    subst z
    exact call_type_of (typeIs_none s₀) (by decide +kernel) fin
  | bl b =>
    have z : u = .bool b := rx
    subst z
    exact call_type_of (PySem.typeIs_bool s₀ b) (by decide +kernel) fin
  | int i =>
    obtain ⟨k, rfl⟩ := rx
    exact call_type_of (typeIs_int s₀ i k) (by decide +kernel) fin
  | str x =>
    obtain ⟨k, rfl⟩ := rx
    exact call_type_of (typeIs_str s₀ x k) (by decide +kernel) fin
  | tup q2 =>
    cases rx
    obtain ⟨its, rv, p2, _⟩ := I₀.tuple q2
    exact call_type_of p2.typeIs (by decide +kernel) fin
  | lst q2 =>
    cases rx
    obtain ⟨its, rv, p2, _⟩ := I₀.list q2
    exact call_type_of p2.isList.typeIs (by decide +kernel) fin
  | @dic a kvs q2 =>
    cases rx
    obtain ⟨_, _, ws, _, o, es, ep, h1, h2, _⟩ := (show ObjOk X.prog X.w H₀ s₀.heap a (.dK kvs) from I₀.hok a _ q2)
    exact call_type_of (Tx := "dict") ⟨o, h1, h2.1⟩ (by decide +kernel) fin
def typF : List D → Store → RE
  | [d], M => match tyM M d with
    | some T => ok (.ty T) M
    | none => none
  | _, _ => none
theorem typ_ok : CallOk F (rTyp F.K) typF := fun ds M L H e σ W vs Q sr rv p => by
  unfold typF at p
  split at p
  · obtain ⟨v, rfl, h1⟩ := reps1 rv
    split at p
    · rename_i T hT
      exact ⟨v, T, rfl, tym_of sr.m h1 hT, p.ok sr rfl⟩
    · exact False.elim p
  · exact False.elim p
def isiF : List D → Store → RE
  | [d, .ty S], M => match tyM M d with
    | some T => (match kitB T S with
      | some b => ok (.bl b) M
      | none => none)
    | none => none
  | _, _ => none
theorem isi_ok : CallOk F (rIsi F.K) isiF := fun ds M L H e σ W vs Q sr rv p => by
  unfold isiF at p
  split at p
  · rename_i d S
    obtain ⟨v, v', rfl, h1, h2⟩ := reps2 rv
    have z : v' = .ty S := h2
    subst z
    split at p
    · rename_i T hT
      split at p
      · rename_i b hb
        exact ⟨v, .ty S, .type T, .type S, b, rfl, .ty S, (tym_of sr.m h1 hT).x, kit_ty hb, p.ok sr rfl⟩
      · exact False.elim p
    · exact False.elim p
  · exact False.elim p
end
def PostF (F : Fx) (L : List Addr) (H : Hp) (Q : VK) (E : XK) : RE → Prop
  | some (.val d, M') => ∀ (L' : List Addr) (H' : Hp) (v : V), Stp L H L' H' → SM F L' H' M' → Rep F L' H' d v → Q v H'
  | some (.exc c fs, M') => ∀ (L' : List Addr) (H' : Hp) (cls : Value) (dd : Option Addr), Stp L H L' H' → SM F L' H' M' → ExR F L' H' c fs cls dd → E cls dd H'
  | none => False
abbrev DenF := List D → Store → RE
def spD (F : Fx) (den : DenF) : Sp := fun vs H Q E => ∃ L M ds, SM F L H M ∧ Reps F L H ds vs ∧ PostF F L H Q E (den ds M)
structure FnD (P : Program) (w : World) (F : Fx) (mg : Str → Option Value) (base : Heap) (k : Nat) (f : Addr) (fd : FuncData) (ps : List Str) (den : DenF) : Prop where
  run : ∀ (A : Around) (outer : List PySem.Env) (s : Shared) (H : Hp) (args : Args) (us : List Value) (vs : List V) (Q : VK) (E : XK), Room k A → A.guards = some [] → Env0 P w F.K mg base A outer s H → BindsTo s fd args (ps.zip us) → Vals vs us →
    vs.length = ps.length → spD F den vs H Q E → codeAny (model P w) A (.call (.ref f) args) (CR (L2.CX P w) outer P w H s Q E) s
theorem FnD.mono {P : Program} {w : World} {F : Fx} {mg : Str → Option Value} {base : Heap} {j k : Nat} {f : Addr} {fd : FuncData} {ps : List Str} {den : DenF} (h : FnD P w F mg base j f fd ps den) (hk : j ≤ k) : FnD P w F mg base k f fd ps den :=
  ⟨fun A outer s H args us vs Q E hr => h.run A outer s H args us vs Q E (hr.mono hk)⟩
section
variable {F : Fx} {X : Cx} {W : WX} {k : Nat} {f : Addr} {fd : FuncData} {ps : List Str} {den : DenF} {ds : List Value} {dvs : List V}
/-- f(..) with the defaults dvs behind -/
def tCallD (F : Fx) (W : WX) (den : DenF) (n : Nat) (dvs : List V) (t : TA) : TE := fun σ H Q => t σ H fun vs H1 => (vs ++ dvs).length = n ∧ spD F den (vs ++ dvs) H1 Q (WE W σ)
theorem run_fnD {p₀ : List (Addr × Obj)} {σ : St} {H : Hp} {s : Shared} {Q : VK} {us : List Value} {vs : List V} (hK : X.K = F.K) (h : FnD X.prog X.w F X.mg X.base k f fd ps den) (d : Dc X W k) (hb : Binds X.K fd ps ds) (hd : Vals dvs ds) (I : L2.Inv X p₀ σ H s) (r : Vals vs us)
    (hl : (vs ++ dvs).length = ps.length) (q : spD F den (vs ++ dvs) H Q (WE W σ)) : wpAny (model X.prog X.w) X.A (call (.ref f) us) (EP X p₀ σ Q) X.xe s := by
  have r2 := r.append hd
  have e0 := I.env0
  rw [hK] at e0
  refine wpAny_call (codeAny_mono (h.run X.A X.stack s H ⟨us, []⟩ (us ++ ds) (vs ++ dvs) Q (WE W σ) d.room d.gd e0 (hb s us I.kIn (by rw [← r2.length]; exact hl)) r2 hl q) fun res s' hq => ?_)
  cases res with
  | error y => exact passAt d.tk σ p₀ H s y s' I hq
  | ok fl =>
    cases fl with
    | ret u => exact I.after hq
    | next => exact (show False from hq).elim
    | brk => exact (show False from hq).elim
    | cont => exact (show False from hq).elim
theorem pe_callD {x : Str} {p pos : Pos} {a : Expr} {as : List Expr} {t : TA} (hK : X.K = F.K) (h : FnD X.prog X.w F X.mg X.base k f fd ps den) (d : Dc X W k) (hg : Gl X x) (hm : X.mg x = some (.ref f)) (hk : PySem.W.keepIn X.K (.ref f) = true) (hb : Binds X.K fd ps ds) (hd : Vals dvs ds)
    (ha : PA X (a :: as) t) (hdb : (x == ("__debug__" : Str)) = false := by decide) (he : starEach (a :: as) X.env = (false, eval a X.env) :: starEach as X.env := by rfl) (hpl : (backTo pos (starEach as X.env)).any (·.1) = false := by rfl) :
    PE X (.Call (.Name x p) (a :: as) [] pos) (tCallD F W den ps.length dvs t) := by
  refine ⟨fun p₀ s₀ σ₀ H₀ Q₀ I₀ h₀ => wpAny_Call_Name_kw (ld_glob I₀ hg hm ?_ hdb)⟩
  refine PySem.W.callWith_K (h₀ := X.base) I₀.ok.mod.kin hk (thn (ha.run pos p₀ s₀ σ₀ H₀ _ I₀ h₀) fun us s1 y => ?_) he hpl
  obtain ⟨vs, H1, I1, r, q1, q2⟩ := y
  exact ⟨I1.kIn, run_fnD hK h d hb hd I1 r q1 q2⟩
/-- the arguments as data, defaults dd behind -/
def fnD (den : DenF) (n : Nat) (dd : List D) (dr : DenA) : DenE := fun e M => bindE (dr e M) fun ds M1 => if (ds ++ dd).length = n then den (ds ++ dd) M1 else none
theorem post_fn {L1 : List Addr} {H1 : Hp} {M1 : Store} {e : Env} {σ : St} {Q : VK} (sr : SR F L1 H1 M1 e σ) : ∀ {r : RE}, Post F e L1 H1 σ W Q r → PostF F L1 H1 Q (WE W σ) r
  | some (.val d, M'), h => fun L' H' v s m rv => h L' H' v s (sr.stay s m) rv
  | some (.exc c fs, M'), h => fun L' H' cls dd s m rv => h L' H' cls dd s (sr.stay s m) rv
  | none, h => h
theorem call_fin {dr : DenA} {t : TA} {dd : List D} (hdd : ∀ L H, Reps F L H dd dvs)
    (hr : ∀ (e : Env) (M : Store) (L : List Addr) (σ : St) (H : Hp) (Q : List V → Hp → Prop), SR F L H M e σ → PostA F e L H σ W Q (dr e M) → t σ H Q)
    (n : Nat) (e : Env) (M : Store) (L : List Addr) (σ : St) (H : Hp) (Q : VK) (sr : SR F L H M e σ) (p : Post F e L H σ W Q (fnD den n dd dr e M)) : tCallD F W den n dvs t σ H Q := by
  refine hr e M L σ H _ sr (PostG.bind (fun ds1 M1 L1 H1 vs s1 r1 rv q => ?_) p)
  split at q
  · rename_i hn
    have ra := reps_app rv (hdd L1 H1)
    exact ⟨by rw [← reps_len ra]; exact hn, L1, M1, _, r1.m, ra, post_fn r1 q⟩
  · exact False.elim q
theorem de_call {x : Str} {p pos : Pos} {a : Expr} {as : List Expr} {dr : DenA} {dd : List D} (h : FnD X.prog X.w F X.mg X.base k f fd ps den) (d : Dc X W k) (hm : X.mg x = some (.ref f)) (hk : PySem.W.keepIn X.K (.ref f) = true) (hb : Binds X.K fd ps ds) (hd : Vals dvs ds) (hdd : ∀ L H, Reps F L H dd dvs)
    (hr : DA F X W (a :: as) dr) (hK : X.K = F.K := by rfl) (hg : Gl X x := by rfl) (hdb : (x == ("__debug__" : Str)) = false := by decide) (he : starEach (a :: as) X.env = (false, eval a X.env) :: starEach as X.env := by rfl) (hpl : (backTo pos (starEach as X.env)).any (·.1) = false := by rfl) :
    DE F X W (.Call (.Name x p) (a :: as) [] pos) (fnD den ps.length dd dr) := by
  obtain ⟨tr, pr, qr⟩ := hr
  exact ⟨_, pe_callD hK h d hg hm hk hb hd pr hdb he hpl, call_fin hdd qr ps.length⟩
end
inductive Flw where
  | nx (e : Env)
  | rt (d : D)
  | bk (e : Env)
  | ct (e : Env)
  | ex (c : String) (fs : List (Str × D)) (e : Env)
abbrev RS := Option (Flw × Store)
abbrev DenS := Env → Store → RS
def PostS (F : Fx) (L : List Addr) (H : Hp) (W : WX) (T : Ends) : RS → Prop
  | some (.nx e, M) => ∀ (L' : List Addr) (H' : Hp) (σ' : St), Stp L H L' H' → SR F L' H' M e σ' → T.nx σ' H'
  | some (.bk e, M) => ∀ (L' : List Addr) (H' : Hp) (σ' : St), Stp L H L' H' → SR F L' H' M e σ' → T.bk σ' H'
  | some (.ct e, M) => ∀ (L' : List Addr) (H' : Hp) (σ' : St), Stp L H L' H' → SR F L' H' M e σ' → T.ct σ' H'
  | some (.rt d, M) => ∀ (L' : List Addr) (H' : Hp) (v : V), Stp L H L' H' → SM F L' H' M → Rep F L' H' d v → T.rt v H'
  | some (.ex c fs e, M) => ∀ (L' : List Addr) (H' : Hp) (σ' : St) (cls : Value) (dd : Option Addr), Stp L H L' H' → SR F L' H' M e σ' → ExR F L' H' c fs cls dd → W cls dd σ' H'
  | none => False
def DS (F : Fx) (X : Cx) (W : WX) (st : Stmt) (den : DenS) : Prop :=
  ∃ t, PS X st t ∧ ∀ (e : Env) (M : Store) (L : List Addr) (σ : St) (H : Hp) (T : Ends), SR F L H M e σ → PostS F L H W T (den e M) → t T σ H
def DSs (F : Fx) (X : Cx) (W : WX) (sts : List Stmt) (den : DenS) : Prop :=
  ∃ t, PSs X sts t ∧ ∀ (e : Env) (M : Store) (L : List Addr) (σ : St) (H : Hp) (T : Ends), SR F L H M e σ → PostS F L H W T (den e M) → t T σ H
def thenS {α : Type} (r : RD α) (e : Env) (k : α → Store → RS) : RS := match r with
  | some (.val d, M) => k d M
  | some (.exc c fs, M) => some (.ex c fs e, M)
  | none => none
section
variable {F : Fx} {X : Cx} {W : WX} {L L1 : List Addr} {H H1 : Hp} {M : Store} {e : Env} {σ : St} {T : Ends}
theorem PostS.go (s : Stp L H L1 H1) : ∀ {r : RS}, PostS F L H W T r → PostS F L1 H1 W T r
  | some (.nx e, M), h => fun L' H' σ' s' r => h L' H' σ' (s.trans s') r
  | some (.bk e, M), h => fun L' H' σ' s' r => h L' H' σ' (s.trans s') r
  | some (.ct e, M), h => fun L' H' σ' s' r => h L' H' σ' (s.trans s') r
  | some (.rt d, M), h => fun L' H' v s' r rv => h L' H' v (s.trans s') r rv
  | some (.ex c fs e, M), h => fun L' H' σ' cls dd s' r x => h L' H' σ' cls dd (s.trans s') r x
  | none, h => h
theorem post_then {α β : Type} {rp : List Addr → Hp → α → β → Prop} {Q : β → Hp → Prop} {k : α → Store → RS} (kk : ∀ d M1 L1 H1 v, Stp L H L1 H1 → SR F L1 H1 M1 e σ → rp L1 H1 d v → PostS F L1 H1 W T (k d M1) → Q v H1) :
    ∀ {r : RD α}, PostS F L H W T (thenS r e k) → PostG F rp e L H σ W Q r
  | some (.val d, M1), h => fun L1 H1 v s r rv => kk d M1 L1 H1 v s r rv (PostS.go s h)
  | some (.exc c fs, M1), h => fun L' H' cls dd s' r x => h L' H' σ cls dd s' r x
  | none, h => h
theorem SR.set (sr : SR F L H M e σ) (i : Nat) {d : D} {v : V} (r : Rep F L H d v) : SR F L H M (e.set i (some d)) (σ.set i (some v)) := by
  refine ⟨by rw [List.length_set, List.length_set]; exact sr.l, sr.m, fun j d' q => ?_⟩
  by_cases hj : i = j
  · subst hj
    by_cases hl : i < e.length
    · rw [List.getElem?_set_self hl] at q
      cases q
      refine ⟨v, ?_, r⟩
      rw [List.getElem?_set_self (by rw [sr.l]; exact hl)]
    · rw [List.getElem?_eq_none (by rw [List.length_set]; omega)] at q
      cases q
  · rw [List.getElem?_set_ne hj] at q
    rw [List.getElem?_set_ne hj]
    exact sr.e j d' q
theorem SR.unset (sr : SR F L H M e σ) (i : Nat) (v : Option V) : SR F L H M (e.set i none) (σ.set i v) := by
  refine ⟨by rw [List.length_set, List.length_set]; exact sr.l, sr.m, fun j d' q => ?_⟩
  by_cases hj : i = j
  · subst hj
    by_cases hl : i < e.length
    · rw [List.getElem?_set_self hl] at q
      cases q
    · rw [List.getElem?_eq_none (by rw [List.length_set]; omega)] at q
      cases q
  · rw [List.getElem?_set_ne hj] at q
    rw [List.getElem?_set_ne hj]
    exact sr.e j d' q
def nilS : DenS := fun e M => some (.nx e, M)
def seqS (a b : DenS) : DenS := fun e M => match a e M with
  | some (.nx e', M') => b e' M'
  | r => r
theorem dss_nil : DSs F X W [] nilS := ⟨_, pss_nil, fun e M L σ H T sr p => p L H σ (Stp.refl L H) sr⟩
theorem dss_one {st : Stmt} {a : DenS} (ha : DS F X W st a) : DSs F X W [st] a := by
  obtain ⟨t, p, q⟩ := ha
  exact ⟨t, pss_one p, q⟩
theorem dss_cons {st : Stmt} {sts : List Stmt} {a b : DenS} (ha : DS F X W st a) (hb : DSs F X W sts b) : DSs F X W (st :: sts) (seqS a b) := by
  obtain ⟨t, pt, qt⟩ := ha
  obtain ⟨u, pu, qu⟩ := hb
  refine ⟨_, pss_cons pt pu, fun e M L σ H T sr p => ?_⟩
  refine qt e M L σ H _ sr ?_
  unfold seqS at p
  split at p
  · rename_i e' M' he
    rw [he]
    exact fun L' H' σ' s r => qu e' M' L' σ' H' T r (PostS.go s p)
  · rename_i r hr
    revert p
    cases q : a e M with
    | none => exact id
    | some y =>
      obtain ⟨fl, M'⟩ := y
      cases fl with
      | nx e' => exact absurd q (hr e' M')
      | bk e' => exact id
      | ct e' => exact id
      | rt d => exact id
      | ex c fs e' => exact id
def asgS (i : Nat) (da : DenE) : DenS := fun e M => thenS (da e M) e fun d M1 => some (.nx (e.set i (some d)), M1)
theorem ds_set (i : Nat) {x : Str} {y : Expr} {da : DenE} {pos pos' : Pos} (hN : X.N.Nodup) (ha : DE F X W y da) (hi : X.N[i]? = some x := by rfl) (hx : Loc X.env.scope x := by first | exact Or.inl rfl | exact Or.inr rfl) (hs : swapsWith y (some (.Name x pos')) pos.line X.env = pure false := by rfl)
    (hf : X.fn x = true ∨ X.env.scope.names.lookup x = some .local := by first | exact .inl rfl | exact .inr rfl) : DS F X W (.Assign [.Name x pos'] y pos) (asgS i da) := by
  obtain ⟨t, p, q⟩ := ha
  refine ⟨_, ps_set hN hi hx p hs hf, fun e M L σ H T sr pp => q e M L σ H _ sr (post_then (fun d M1 L1 H1 v s1 r1 rv q2 => ?_) pp)⟩
  exact q2 L1 H1 _ (Stp.refl L1 H1) (r1.set i rv)
def retS (da : DenE) : DenS := fun e M => thenS (da e M) e fun d M1 => some (.rt d, M1)
theorem ds_ret {y : Expr} {da : DenE} {pos : Pos} (ha : DE F X W y da) : DS F X W (.Return (some y) pos) (retS da) := by
  obtain ⟨t, p, q⟩ := ha
  refine ⟨_, ps_ret p, fun e M L σ H T sr pp => q e M L σ H _ sr (post_then (fun d M1 L1 H1 v s1 r1 rv q2 => ?_) pp)⟩
  exact q2 L1 H1 v (Stp.refl L1 H1) r1.m rv
def dropS (da : DenE) : DenS := fun e M => thenS (da e M) e fun _ M1 => some (.nx e, M1)
theorem ds_expr {y : Expr} {da : DenE} {pos : Pos} (ha : DE F X W y da) (hs : swapsWith y none pos.line X.env = pure false := by rfl) : DS F X W (.Expr y pos) (dropS da) := by
  obtain ⟨t, p, q⟩ := ha
  refine ⟨_, ps_expr p hs, fun e M L σ H T sr pp => q e M L σ H _ sr (post_then (fun d M1 L1 H1 v s1 r1 rv q2 => ?_) pp)⟩
  exact q2 L1 H1 σ (Stp.refl L1 H1) r1
def ifS (dc : DenE) (a b : DenS) : DenS := fun e M => thenS (dc e M) e fun d M1 => match d with
  | .bl true => a e M1
  | .bl false => b e M1
  | _ => none
theorem ds_if {c : Expr} {xs ys : List Stmt} {dc : DenE} {a b : DenS} {pos : Pos} (hc : DT F X W c dc) (ha : DSs F X W xs a) (hb : DSs F X W ys b) : DS F X W (.If c xs ys pos) (ifS dc a b) := by
  obtain ⟨tc, pc, qc⟩ := hc
  obtain ⟨ta, pa, qa⟩ := ha
  obtain ⟨tb, pb, qb⟩ := hb
  refine ⟨_, ps_if pc pa pb, fun e M L σ H T sr pp => qc e M L σ H _ sr (post_then (fun d M1 L1 H1 v s1 r1 rv q => ?_) pp)⟩
  split at q
  · refine ⟨true, rv, ?_⟩
    rw [if_pos rfl]
    exact qa e M1 L1 σ H1 T r1 q
  · refine ⟨false, rv, ?_⟩
    rw [if_neg fun z => Bool.false_ne_true z]
    exact qb e M1 L1 σ H1 T r1 q
  · exact False.elim q
end
end DL
namespace DL
open PySem L2
section
variable {F : Fx} {X : Cx} {W : WX} {L L1 : List Addr} {H H1 : Hp} {M : Store} {e : Env} {σ : St} {T : Ends} {k : Nat}
theorem drop_cons {α : Type} : ∀ {xs : List α} {j : Nat} {x : α}, xs[j]? = some x → xs.drop j = x :: xs.drop (j + 1)
  | [], _, _, h => by simp at h
  | a :: xs, 0, x, h => by
    have q : a = x := by simpa using h
    rw [q]
    rfl
  | a :: xs, j + 1, x, h => drop_cons (xs := xs) (j := j) (by simpa using h)
/-- a list that stays (a value; not one of the store) -/
def LstAt (K : PySem.W.Frag) (L : List Addr) (H : Hp) (a : Addr) (vs : List V) : Prop := (H a = some (.lst vs) ∧ a ∉ L) ∨ (∃ o, H a = some (.frz o (.lst vs))) ∨ KL K a vs
theorem LstAt.sq {K : PySem.W.Frag} {a : Addr} {vs : List V} (h : LstAt K L H a vs) : SqL K H a vs := by
  rcases h with ⟨h, _⟩ | ⟨o, h⟩ | h
  · exact .inl (.inl h)
  · exact .inl (.inr ⟨o, h⟩)
  · exact .inr h
theorem LstAt.stay {a : Addr} {vs : List V} (m : SM F L H M) (s : Stp L H L1 H1) (h : LstAt F.K L H a vs) : LstAt F.K L1 H1 a vs := by
  rcases h with ⟨h, n⟩ | ⟨o, h⟩ | h
  · exact .inl ⟨s.ext a _ h n fun ps z => (by cases z), s.out h n⟩
  · exact .inr (.inl ⟨o, s.ext a _ h (m.not h id) fun ps z => (by cases z)⟩)
  · exact .inr (.inr h)
def rngI (lo : Int) (n : Nat) : List D := (List.range n).map fun (j : Nat) => D.int (lo + (j : Int))
def small62 (i : Int) : Bool := decide (-(2 ^ 62) ≤ i ∧ i < 2 ^ 62)
theorem rng_len (lo : Int) (n : Nat) : (rngI lo n).length = n := by
  unfold rngI
  simp only [List.length_range, List.length_map]
def whileS (dt : DenE) (body : DenS) : Nat → DenS
  | 0, _, _ => none
  | n + 1, e, M => match dt e M with
    | some (.val (.bl true), M1) => (match body e M1 with
      | some (.nx e', M') => whileS dt body n e' M'
      | some (.ct e', M') => whileS dt body n e' M'
      | some (.bk e', M') => some (.nx e', M')
      | r => r)
    | some (.val (.bl false), M1) => some (.nx e, M1)
    | some (.exc c fs, M1) => some (.ex c fs e, M1)
    | _ => none
theorem ds_while {c : Expr} {body : List Stmt} {dt : DenE} {db : DenS} {pos : Pos} (fuel : Env → Store → Nat) (d : Dc X W k) (hc : DT F X W c dt) (hb : DSs F X W body db) : DS F X W (.While c body [] pos) (fun e M => whileS dt db (fuel e M) e M) := by
  obtain ⟨tc, pc, qc⟩ := hc
  obtain ⟨tb, pb, qb⟩ := hb
  refine ⟨_, ps_while d.own pc pb, fun e M L σ H T sr pp => ?_⟩
  refine ⟨fun n σ' H' => ∃ L' e' M', Stp L H L' H' ∧ SR F L' H' M' e' σ' ∧ PostS F L' H' W T (whileS dt db n e' M'), ⟨fuel e M, L, e, M, Stp.refl L H, sr, pp⟩, ?_⟩
  rintro n σ' H' ⟨L', e', M', s, r, p⟩
  cases n with
  | zero => exact False.elim p
  | succ n =>
    refine qc e' M' L' σ' H' _ r ?_
    unfold whileS at p
    revert p
    cases hd : dt e' M' with
    | none => exact id
    | some y =>
      obtain ⟨o, M1⟩ := y
      cases o with
      | exc c fs => exact fun p L2 H2 cls dd s2 r2 x => p L2 H2 σ' cls dd s2 r2 x
      | val dv =>
        intro p L2 H2 v s2 r2 rv
        revert p
        cases dv with
        | bl b =>
          cases b with
          | false =>
            intro p
            refine ⟨false, rv, ?_⟩
            rw [if_neg fun z => Bool.false_ne_true z]
            exact p L2 H2 σ' s2 r2
          | true =>
            intro p
            refine ⟨true, rv, ?_⟩
            rw [if_pos rfl]
            refine ⟨fun σ3 H3 => ∃ L' e' M', Stp L H L' H3 ∧ SR F L' H3 M' e' σ3 ∧ PostS F L' H3 W T (whileS dt db n e' M'), fun σ3 H3 z => ⟨n, Nat.lt_succ_self n, z⟩, qb e' M1 L2 σ' H2 _ r2 ?_⟩
            dsimp only at p
            revert p
            cases db e' M1 with
            | none => exact id
            | some y =>
              obtain ⟨fl, M3⟩ := y
              cases fl with
              | nx e3 => exact fun p L3 H3 σ3 s3 r3 => ⟨L3, e3, M3, (s.trans s2).trans s3, r3, PostS.go (s2.trans s3) p⟩
              | ct e3 => exact fun p L3 H3 σ3 s3 r3 => ⟨L3, e3, M3, (s.trans s2).trans s3, r3, PostS.go (s2.trans s3) p⟩
              | bk e3 => exact fun p => PostS.go s2 p
              | rt d3 => exact fun p => PostS.go s2 p
              | ex c fs e3 => exact fun p => PostS.go s2 p
        | non => exact fun p => False.elim p
        | int i => exact fun p => False.elim p
        | str i => exact fun p => False.elim p
        | tup i => exact fun p => False.elim p
        | lst i => exact fun p => False.elim p
        | scr i => exact fun p => False.elim p
        | emp => exact fun p => False.elim p
        | loc i => exact fun p => False.elim p
        | exc c i => exact fun p => False.elim p
        | ty i => exact fun p => False.elim p
        | cls i => exact fun p => False.elim p
        | clo f c q σd i ds => exact fun p => False.elim p
        | ktp ns => exact fun p => False.elim p
def ofBody (n : Nat) (den : DenS) : DenF := fun ds M => match den (ds.map some ++ List.replicate (n - ds.length) none) M with
  | some (.nx _, M') => ok .non M'
  | some (.rt d, M') => ok d M'
  | some (.ex c fs _, M') => some (.exc c fs, M')
  | _ => none
theorem start_env {ds : List D} {vs : List V} (n : Nat) (r : Reps F L H ds vs) (N : List Str) (hn : N.length = n) : EnvR F L H (ds.map some ++ List.replicate (n - ds.length) none) (L2.start N vs) ∧ (L2.start N vs).length = (ds.map some ++ List.replicate (n - ds.length) (none : Option D)).length := by
  have hl := reps_len r
  refine ⟨fun i d q => ?_, ?_⟩
  · by_cases hi : i < ds.length
    · rw [List.getElem?_append_left (by rw [List.length_map]; exact hi), List.getElem?_map] at q
      cases h : ds[i]? with
      | none => rw [h] at q; cases q
      | some d' =>
        rw [h] at q
        cases q
        obtain ⟨v, h1, h2⟩ := reps_get r h
        refine ⟨v, ?_, h2⟩
        unfold L2.start
        rw [List.getElem?_append_left (by rw [List.length_map, ← hl]; exact hi), List.getElem?_map, h1]
        rfl
    · rw [List.getElem?_append_right (by rw [List.length_map]; omega), List.getElem?_replicate] at q
      split at q
      · cases q
      · cases q
  · unfold L2.start
    rw [List.length_append, List.length_append, List.length_map, List.length_map, List.length_replicate, List.length_replicate, hn, hl]
theorem fn_mk0 {P : Program} {w : World} {mg : Str → Option Value} {base : Heap} {f : Addr} {fd : FuncData} {x qual : Str} {st : Stmt} {N ps : List Str} {den : DenS} {n : Nat} (Fn : Fun F.K x qual st f fd) (S : FnScope N ps (defScope st)) (hn : N.length = n)
    (body : ∀ (cdv : Value) (A : Around) (outer : List PySem.Env) (s : Shared) (H : Hp) (E : XK), fd.code = cdv → Dc (cxOf (L2.CX P w) P w F.K mg base N qual (defScope st) f cdv A outer s H E) (fun cls d _ H => E cls d H) k →
      DSs F (cxOf (L2.CX P w) P w F.K mg base N qual (defScope st) f cdv A outer s H E) (fun cls d _ H => E cls d H) (defBody st) den) : FnD P w F mg base (k + 1) f fd ps (ofBody n den) := by
  refine ⟨fun A outer s H args us vs Q E hr hg e0 hb hv hl sp => ?_⟩
  obtain ⟨oc, od, kV, doc, pm, an, cdv, ct, osl, rfl, lk, hcd⟩ := Fn.ex
  refine LamX.run_ofS lk hcd S hr e0 hb hv hl fun hr' => ?_
  have dc : Dc (cxOf (L2.CX P w) P w F.K mg base N qual (defScope st) f cdv A outer s H E) (fun cls d _ H => E cls d H) k := ⟨takes_of rfl rfl rfl rfl, hr', rfl, hg, passes_of rfl⟩
  obtain ⟨t, p1, p2⟩ := body cdv A outer s H E rfl dc
  obtain ⟨L, M, ds, m, r, p⟩ := sp
  obtain ⟨h1, h2⟩ := start_env n r N hn
  refine ⟨t, p1, p2 _ M L _ H _ ⟨h2, m, h1⟩ ?_⟩
  unfold ofBody at p
  revert p
  cases den (ds.map some ++ List.replicate (n - ds.length) none) M with
  | none => exact id
  | some y =>
    obtain ⟨fl, M'⟩ := y
    cases fl with
    | nx e' => exact fun p L' H' σ' s' r' => p L' H' .non s' r'.m rfl
    | rt d => exact id
    | ex c fs e' => exact fun p L' H' σ' cls dd s' r' x => p L' H' cls dd s' r'.m x
    | bk e' => exact False.elim
    | ct e' => exact False.elim
theorem fn_mk {P : Program} {w : World} {mg : Str → Option Value} {base : Heap} {f : Addr} {fd : FuncData} {x qual : Str} {st : Stmt} {N ps : List Str} {den : DenS} {n : Nat} (Fn : Fun F.K x qual st f fd) (S : FnScope N ps (defScope st)) (hn : N.length = n)
    (body : ∀ (cdv : Value) (A : Around) (outer : List PySem.Env) (s : Shared) (H : Hp) (E : XK), Dc (cxOf (L2.CX P w) P w F.K mg base N qual (defScope st) f cdv A outer s H E) (fun cls d _ H => E cls d H) k →
      DSs F (cxOf (L2.CX P w) P w F.K mg base N qual (defScope st) f cdv A outer s H E) (fun cls d _ H => E cls d H) (defBody st) den) : FnD P w F mg base (k + 1) f fd ps (ofBody n den) := fn_mk0 Fn S hn fun cdv A outer s H E _ dc => body cdv A outer s H E dc
/-- the code object told -/
theorem fn_mkC {P : Program} {w : World} {mg : Str → Option Value} {base : Heap} {f c : Addr} {fd : FuncData} {x qual : Str} {st : Stmt} {N ps : List Str} {den : DenS} {n : Nat} (Fn : Fun F.K x qual st f fd) (hc : fd.code = .ref c) (S : FnScope N ps (defScope st)) (hn : N.length = n)
    (body : ∀ (A : Around) (outer : List PySem.Env) (s : Shared) (H : Hp) (E : XK), Dc (cxOf (L2.CX P w) P w F.K mg base N qual (defScope st) f (.ref c) A outer s H E) (fun cls d _ H => E cls d H) k →
      DSs F (cxOf (L2.CX P w) P w F.K mg base N qual (defScope st) f (.ref c) A outer s H E) (fun cls d _ H => E cls d H) (defBody st) den) : FnD P w F mg base (k + 1) f fd ps (ofBody n den) := fn_mk0 Fn S hn fun cdv A outer s H E he dc => by
  have z : cdv = .ref c := he.symm.trans hc
  subst z
  exact body A outer s H E dc
end
end DL
namespace DL
open PySem L2
section
variable {F : Fx} {X : Cx} {W : WX} {L L1 : List Addr} {H H1 : Hp} {M : Store} {e : Env} {σ : St} {T : Ends} {k : Nat}
theorem nodup_at {α : Type} : ∀ {l : List α}, l.Nodup → ∀ {i j : Nat} {x : α}, l[i]? = some x → l[j]? = some x → i = j
  | [], _, _, _, _, q, _ => by simp at q
  | a :: l, n, 0, 0, _, _, _ => rfl
  | a :: l, n, 0, j + 1, x, h, q => by
    have e1 : a = x := by simpa using h
    have e2 : l[j]? = some x := by simpa using q
    rw [← e1] at e2
    exact absurd (List.mem_of_getElem? e2) (List.nodup_cons.mp n).1
  | a :: l, n, i + 1, 0, x, h, q => by
    have e1 : a = x := by simpa using q
    have e2 : l[i]? = some x := by simpa using h
    rw [← e1] at e2
    exact absurd (List.mem_of_getElem? e2) (List.nodup_cons.mp n).1
  | a :: l, n, i + 1, j + 1, x, h, q => by
    have z := nodup_at (l := l) (List.nodup_cons.mp n).2 (i := i) (j := j) (x := x) (by simpa using h) (by simpa using q)
    rw [z]
/-- the tables behind a step that touches none -/
theorem tbs_upd {p : Addr} {o : HO} (m : SM F L H M) (hp : ∀ ps, H p ≠ some (.tbl ps)) (hc : ∀ c q, H p ≠ some (LamX.CodeO c q)) : LamX.Tabs F.T (upd H p o) := by
  intro y hy
  obtain ⟨ps, h1, h2, h3⟩ := m.tbs y hy
  refine ⟨ps, ?_, h2, fun pos cv h => ?_⟩
  · rw [upd_ne (fun z => hp ps (by rw [← z]; exact h1))]
    exact h1
  · obtain ⟨c, e1, e2⟩ := h3 pos cv h
    refine ⟨c, e1, ?_⟩
    rw [upd_ne (fun z => hc c y.2 (by rw [← z]; exact e2))]
    exact e2
/-- a thing of the store is changed -/
theorem SM.putO (m : SM F L H M) {n : Nat} {a : Addr} {ob : Ob} {ho : HO} (hn : L[n]? = some a) (hz : ∀ o' u, H a ≠ some (.frz o' u)) (no : NoTb ho) (r : ∀ L' H', Stp L H L' H' → H' a = some ho → ObR F L' H' a ob) : SM F L (upd H a ho) (M.set n ob) ∧ Stp L H L (upd H a ho) := by
  have ha : a ∈ L := List.mem_of_getElem? hn
  have s : Stp L H L (upd H a ho) := Stp.put ha hz no
  obtain ⟨ws, hw, hwo⟩ := m.kind ha
  refine ⟨⟨by rw [List.length_set]; exact m.len, m.nd, fun j b o h1 h2 => ?_, tbs_upd m (fun ps z => ?_) fun c q z => ?_⟩, s⟩
  · by_cases hj : j = n
    · subst hj
      rw [h1] at hn
      cases hn
      have hl : j < M.length := by
        rw [← m.len]
        exact (List.getElem?_eq_some_iff.mp h1).1
      rw [List.getElem?_set_self hl] at h2
      cases h2
      exact r _ _ s upd_same
    · rw [List.getElem?_set_ne (Ne.symm hj)] at h2
      have ne : b ≠ a := fun z => hj (nodup_at m.nd h1 (by rw [z]; exact hn))
      exact ObR.stay m s (fun u hu _ => by rw [upd_ne ne]; exact hu) o (m.obs j b o h1 h2)
  · rw [hw] at z
    cases z
    exact hwo
  · rw [hw] at z
    unfold LamX.CodeO at z
    cases z
    exact hwo
/-- a list of the store is changed -/
theorem SM.put (m : SM F L H M) {n : Nat} {a : Addr} {ds : List D} {vs ws : List V} (hn : L[n]? = some a) (hz : H a = some (.lst ws)) (r : Reps F L H ds vs) : SM F L (upd H a (.lst vs)) (M.set n (.lst ds)) ∧ Stp L H L (upd H a (.lst vs)) := m.putO hn (fun o' u z => by rw [hz] at z; cases z) (fun ps z => nomatch z) fun L' H' s h => ⟨vs, h, Reps.stay m s ds vs r⟩
/-- a new thing of the store -/
theorem SM.ownO (m : SM F L H M) {p : Addr} {ob : Ob} {ho : HO} (hp : H p = none) (r : ∀ L' H', Stp L H L' H' → H' p = some ho → ObR F L' H' p ob) : SM F (L ++ [p]) (upd H p ho) (M ++ [ob]) ∧ Stp L H (L ++ [p]) (upd H p ho) := by
  have s : Stp L H (L ++ [p]) (upd H p ho) := Stp.alloc' hp
  refine ⟨⟨by rw [List.length_append, List.length_append, m.len]; rfl, List.nodup_append.mpr ⟨m.nd, by simp, fun x hx y hy z => ?_⟩, fun j b o h1 h2 => ?_, m.tbs.ext fun b x h => by rw [upd_ne (ne_of_none h hp)]; exact h⟩, s⟩
  · have hy' : y = p := by simpa using hy
    rw [z, hy'] at hx
    exact fresh_out m hp hx
  · by_cases hj : j < L.length
    · rw [List.getElem?_append_left hj] at h1
      rw [List.getElem?_append_left (by rw [← m.len]; exact hj)] at h2
      exact ObR.stay m s (fun u hu _ => by rw [upd_ne (ne_of_none hu hp)]; exact hu) o (m.obs j b o h1 h2)
    · rw [List.getElem?_append_right (by omega)] at h1
      rw [List.getElem?_append_right (by rw [← m.len]; omega)] at h2
      have hj0 : j - L.length = 0 := by
        have h3 := (List.getElem?_eq_some_iff.mp h1).1
        simp at h3
        omega
      rw [hj0] at h1
      rw [← m.len, hj0] at h2
      have e1 : p = b := by simpa using h1
      have e2 : ob = o := by simpa using h2
      subst e1 e2
      exact r _ _ s upd_same
/-- a new list of the store -/
theorem SM.own (m : SM F L H M) {p : Addr} {ds : List D} {vs : List V} (hp : H p = none) (r : Reps F L H ds vs) : SM F (L ++ [p]) (upd H p (.lst vs)) (M ++ [.lst ds]) ∧ Stp L H (L ++ [p]) (upd H p (.lst vs)) := m.ownO hp fun L' H' s h => ⟨vs, h, Reps.stay m s ds vs r⟩
abbrev DenG := D → DenS
def DG (F : Fx) (X : Cx) (W : WX) (tg : Expr) (den : DenG) : Prop :=
  ∃ t, PG X tg t ∧ ∀ (d : D) (v : V) (e : Env) (M : Store) (L : List Addr) (σ : St) (H : Hp) (T : Ends), SR F L H M e σ → Rep F L H d v → PostS F L H W T (den d e M) → t v σ H T.nx
def DGs (F : Fx) (X : Cx) (W : WX) (tgs : List Expr) (den : List D → DenS) : Prop :=
  ∃ t, PGs X tgs t ∧ ∀ (ds : List D) (vs : List V) (e : Env) (M : Store) (L : List Addr) (σ : St) (H : Hp) (T : Ends), SR F L H M e σ → Reps F L H ds vs → PostS F L H W T (den ds e M) → t vs σ H T.nx
def nameG (i : Nat) : DenG := fun d e M => some (.nx (e.set i (some d)), M)
theorem dg_name (i : Nat) {x : Str} {pos : Pos} (hN : X.N.Nodup) (hi : X.N[i]? = some x := by rfl) (hx : Loc X.env.scope x := by first | exact Or.inl rfl | exact Or.inr rfl) (hf : X.fn x = true ∨ X.env.scope.names.lookup x = some .local := by first | exact .inl rfl | exact .inr rfl) : DG F X W (.Name x pos) (nameG i) :=
  ⟨_, pg_name hN hi hx hf, fun d v e M L σ H T sr rv p => p L H _ (Stp.refl L H) (sr.set i rv)⟩
def nilG : List D → DenS
  | [], e, M => some (.nx e, M)
  | _, _, _ => none
def consG (g : DenG) (gs : List D → DenS) : List D → DenS
  | d :: ds, e, M => (match g d e M with
    | some (.nx e', M') => gs ds e' M'
    | _ => none)
  | _, _, _ => none
theorem dgs_nil : DGs F X W [] nilG := by
  refine ⟨_, pgs_nil, fun ds vs e M L σ H T sr rv p => ?_⟩
  cases ds with
  | nil => exact ⟨rv, p L H σ (Stp.refl L H) sr⟩
  | cons d ds => exact False.elim p
theorem dgs_cons {y : Expr} {ys : List Expr} {g : DenG} {gs : List D → DenS} (h1 : DG F X W y g) (h2 : DGs F X W ys gs) (hs : (assignEach (y :: ys) X.env).map (·.2) = assign y X.env :: (assignEach ys X.env).map (·.2) := by rfl) : DGs F X W (y :: ys) (consG g gs) := by
  obtain ⟨t, p1, q1⟩ := h1
  obtain ⟨u, p2, q2⟩ := h2
  refine ⟨_, pgs_cons p1 p2 hs, fun ds vs e M L σ H T sr rv p => ?_⟩
  cases ds with
  | nil => exact False.elim p
  | cons d ds =>
    obtain ⟨v, r, rfl, r1, r2⟩ := rv
    refine ⟨v, r, rfl, q1 d v e M L σ H { T with nx := fun σ' H' => u r σ' H' T.nx } sr r1 ?_⟩
    have p' : PostS F L H W T (match g d e M with
      | some (.nx e', M') => gs ds e' M'
      | _ => none) := p
    clear p
    revert p'
    cases g d e M with
    | none => exact id
    | some z =>
      obtain ⟨fl, M'⟩ := z
      cases fl with
      | nx e' => exact fun p L' H' σ' s r' => q2 ds r e' M' L' σ' H' T r' (Reps.stay sr.m s ds r r2) (PostS.go s p)
      | bk e' => exact False.elim
      | ct e' => exact False.elim
      | rt d' => exact False.elim
      | ex c fs e' => exact False.elim
def tupG (n : Nat) (gs : List D → DenS) : DenG := fun d e M => match d with
  | .tup ds => if ds.length = n then gs ds e M else none
  | .ktp ns => if ns.length = n then gs (ns.map D.int) e M else none
  | _ => none
theorem dg_tup {ys : List Expr} {kx : Nat} {pos : Pos} {n : Nat} {gs : List D → DenS} (hc : X.calm = true) (h : DGs F X W ys gs) (hK : X.K = F.K := by rfl) (hn : (assignEach ys X.env).length = n := by rfl) (hst : (assignEach ys X.env).findIdx? (·.1) = none := by rfl) : DG F X W (.Tuple ys kx pos) (tupG n gs) := by
  obtain ⟨t, p1, q1⟩ := h
  refine ⟨_, pg_tup hc p1 hn hst, fun d v e M L σ H T sr rv p => ?_⟩
  unfold tupG at p
  split at p
  · rename_i ds
    obtain ⟨a, vs, rfl, a2, a3⟩ := rv
    have a2 := (Or.inl (Or.inl a2) : SqT F.K H a vs)
    split at p
    · rename_i hl
      exact ⟨a, vs, rfl, by rw [hK]; exact a2, by rw [← reps_len a3]; exact hl, q1 ds vs e M L σ H T sr a3 p⟩
    · exact False.elim p
  · rename_i ns
    obtain ⟨a, rfl, a2⟩ := rv
    have a3 : SqT F.K H a (ns.map V.int) := .inr a2
    split at p
    · rename_i hl
      exact ⟨a, _, rfl, by rw [hK]; exact a3, by rw [List.length_map]; exact hl, q1 _ _ e M L σ H T sr (reps_ints ns) p⟩
    · exact False.elim p
  · exact False.elim p
/-- o[i] = .. -/
def subG (dob di : DenE) : DenG := fun d e M => thenS (dob e M) e fun o M1 => thenS (di e M1) e fun i M2 => match o, i with
  | .loc n, .int z => (match M2[n]? with
    | some (.lst ds) => (match ixN ds.length z with
      | some j => some (.nx e, M2.set n (.lst (ds.set j d)))
      | none => none)
    | _ => none)
  | _, _ => none
theorem dg_sub {o i : Expr} {dob di : DenE} {pos : Pos} (ho : DE F X W o dob) (hi : DE F X W i di) (ha : ∀ v, assign (.Subscript o i pos) X.env v = (do
      let o1 ← holding [v] (eval o X.env)
      let i1 ← holding [v, o1] (eval i X.env)
      standAt pos
      holding [v, o1, i1] (setItem o1 i1 v)
      release [v, o1, i1] []) := by intro _; rfl) : DG F X W (.Subscript o i pos) (subG dob di) := by
  obtain ⟨to, p1, q1⟩ := ho
  obtain ⟨ti, p2, q2⟩ := hi
  refine ⟨_, pg_sub p1 p2 set_list ha, fun d v e M L σ H T sr rv p => ?_⟩
  refine q1 e M L σ H _ sr (post_then (fun od M1 L1 H1 ov s1 r1 rov qa => ?_) p)
  refine q2 e M1 L1 σ H1 _ r1 (post_then (fun id' M2 L2 H2 iv s2 r2 riv q => ?_) qa)
  split at q
  · rename_i n z
    split at q
    · rename_i ds hds
      split at q
      · rename_i j hj
        obtain ⟨a, rfl, ha'⟩ := Rep.stay r1.m s2 _ _ rov
        have ziv : iv = .int z := riv
        subst ziv
        obtain ⟨o2, h1, h2⟩ := r2.m.get ha'
        rw [hds] at h1
        cases h1
        obtain ⟨vs, h3, h4⟩ := h2
        have rv2 := Rep.stay r1.m s2 _ _ (Rep.stay sr.m s1 _ _ rv)
        obtain ⟨m3, s3⟩ := SM.put r2.m ha' h3 (reps_set j h4 rv2)
        exact ⟨a, vs, z, j, rfl, rfl, h3, by rw [← reps_len h4]; exact hj, q L2 _ σ s3 (r2.stay s3 m3)⟩
      · exact False.elim q
    · exact False.elim q
  · exact False.elim q
def asgG (da : DenE) (g : DenG) : DenS := fun e M => thenS (da e M) e fun d M1 => g d e M1
theorem ds_asg {tg y : Expr} {da : DenE} {g : DenG} {pos : Pos} (ha : DE F X W y da) (hg : DG F X W tg g) (hs : swapsWithSole [tg] y pos.line X.env = pure false := by rfl) (hw : swappedStores [tg] y X.env = pure none := by rfl) (h1 : (assignEach [tg] X.env).map (·.2) = [assign tg X.env] := by rfl) : DS F X W (.Assign [tg] y pos) (asgG da g) := by
  obtain ⟨ta, p1, q1⟩ := ha
  obtain ⟨t, p2, q2⟩ := hg
  refine ⟨_, ps_asg p1 p2 hs hw h1, fun e M L σ H T sr pp => q1 e M L σ H _ sr (post_then (fun d M1 L1 H1 v s1 r1 rv q => ?_) pp)⟩
  exact q2 d v e M1 L1 σ H1 T r1 rv q
/-- a, b = x, y: two plain names -/
def parS (i j : Nat) (da db : DenE) : DenS := fun e M => thenS (da e M) e fun d M1 => thenS (db e M1) e fun d' M2 => some (.nx ((e.set i (some d)).set j (some d')), M2)
theorem ds_par (i j : Nat) {x y : Str} {a b : Expr} {da db : DenE} {px py pt pos : Pos} {kt k2 pt2} (hc : X.calm = true) (hN : X.N.Nodup) (ha : DE F X W a da) (hb : DE F X W b db) (hi : X.N[i]? = some x := by rfl) (hj : X.N[j]? = some y := by rfl) (hij : i ≠ j := by decide)
    (hx : X.env.scope.names.lookup x = some .local := by rfl) (hy : X.env.scope.names.lookup y = some .local := by rfl) (hw : swappedStores [.Tuple [.Name x px, .Name y py] kt pt] (.Tuple [a, b] k2 pt2) X.env = pure (some [x, y]) := by rfl)
    (hs : swapsWithSole [.Tuple [.Name x px, .Name y py] kt pt] (.Tuple [a, b] k2 pt2) pos.line X.env = pure false := by rfl) (h1 : starEach (a :: [b]) X.env = (false, eval a X.env) :: starEach [b] X.env := by rfl) (h2 : starEach (b :: []) X.env = (false, eval b X.env) :: starEach [] X.env := by rfl) :
    DS F X W (.Assign [.Tuple [.Name x px, .Name y py] kt pt] (.Tuple [a, b] k2 pt2) pos) (parS i j da db) := by
  obtain ⟨ta, p1, q1⟩ := ha
  obtain ⟨tb, p2, q2⟩ := hb
  refine ⟨_, ps_par hc hN hi hj hij hx hy (pa_cons p1 (pa_cons p2 pa_nil h2) h1) hw hs, fun e M L σ H T sr pp => q1 e M L σ H _ sr (post_then (fun d M1 L1 H1 v s1 r1 rv q => ?_) pp)⟩
  refine q2 e M1 L1 σ H1 _ r1 (post_then (fun d2 M2 L2 H2 v2 s2 r2 rv2 q => ?_) q)
  exact ⟨v, v2, rfl, q L2 H2 _ (Stp.refl L2 H2) ((r2.set i (Rep.stay r1.m s2 d v rv)).set j rv2)⟩
def ownS (i : Nat) (dr : DenA) : DenS := fun e M => thenS (dr e M) e fun ds M1 => if ds.length ≤ 100000 then some (.nx (e.set i (some (.loc M1.length))), M1 ++ [.lst ds]) else none
theorem ds_own (i : Nat) {x : Str} {ys : List Expr} {dr : DenA} {p2 pos pos' : Pos} (hN : X.N.Nodup) (hr : DA F X W ys dr) (hi : X.N[i]? = some x := by rfl) (hx : Loc X.env.scope x := by first | exact Or.inl rfl | exact Or.inr rfl) (hs : swapsWith (.List ys p2) (some (.Name x pos')) pos.line X.env = pure false := by rfl)
    (hf : X.fn x = true ∨ X.env.scope.names.lookup x = some .local := by first | exact .inl rfl | exact .inr rfl) : DS F X W (.Assign [.Name x pos'] (.List ys p2) pos) (ownS i dr) := by
  obtain ⟨t, p, q⟩ := hr
  refine ⟨_, ps_set hN hi hx (pe_lst p) hs hf, fun e M L σ H T sr pp => q e M L σ H _ sr (post_then (fun ds M1 L1 H1 vs s1 r1 rv q2 => ?_) pp)⟩
  split at q2
  · rename_i hl
    refine ⟨by rw [← reps_len rv]; exact sz_ok hl, fun p' hp => ?_⟩
    obtain ⟨m3, s3⟩ := SM.own r1.m hp rv
    have r3 := r1.stay s3 m3
    refine q2 _ _ _ s3 (r3.set i ⟨p', rfl, ?_⟩)
    rw [← r1.m.len, List.getElem?_append_right (Nat.le_refl _), Nat.sub_self]
    rfl
  · exact False.elim q2
/-- x.append(y) -/
def appS (dob da : DenE) : DenS := fun e M => thenS (dob e M) e fun o M1 => match o with
  | .loc n => if isL M1 n = true then thenS (da e M1) e fun d M2 => (match M2[n]? with
    | some (.lst ds) => if ds.length < 100000 then some (.nx e, M2.set n (.lst (ds ++ [d]))) else none
    | _ => none) else none
  | _ => none
theorem ds_app {o y : Expr} {dob da : DenE} {apos cpos pos : Pos} (ho : DE F X W o dob) (ha : DE F X W y da) (hb : attributeBase o "append" X.env (eval o X.env) = eval o X.env := by rfl)
    (hw : ((backTo cpos (starEach (y :: []) X.env)).all (fun x => !x.1) && (backToKw cpos (keywordEach [] X.env)).all (fun x => x.1.isSome) && decide ((y :: ([] : List Expr)).length + ([] : List Keyword).length + (if ([] : List Keyword).isEmpty then 0 else 1) < 30)) = true := by rfl)
    (hl : (apos.endLine == cpos.line) = true := by rfl) (h2 : starEach (y :: []) X.env = (false, eval y X.env) :: starEach [] X.env := by rfl) (hpl : (backTo cpos (starEach [] X.env)).any (·.1) = false := by rfl) (hs : swapsWith (.Call (.Attribute o "append" apos) [y] [] cpos) none pos.line X.env = pure false := by rfl) (hK : X.K = F.K := by rfl) :
    DS F X W (.Expr (.Call (.Attribute o "append" apos) [y] [] cpos) pos) (appS dob da) := by
  obtain ⟨to, p1, q1⟩ := ho
  obtain ⟨ta, p2, q2⟩ := ha
  refine ⟨_, ps_expr (pe_bm PySem.F.plainAttrs_list PySem.F.slot_list_append PySem.F.type_list_append mt_append p1 (pa_cons p2 pa_nil h2) hb hw hl h2 hpl) hs, fun e M L σ H T sr pp => q1 e M L σ H _ sr (post_then (fun od M1 L1 H1 ov s1 r1 rov q => ?_) pp)⟩
  split at q
  · rename_i n
    obtain ⟨a, rfl, ha'⟩ := rov
    split at q
    rotate_left
    · exact False.elim q
    rename_i hk
    obtain ⟨ws, hw'⟩ := r1.m.lst ha' hk
    refine ⟨.inl ⟨rfl, ws, .inl (.inl hw')⟩, q2 e M1 L1 σ H1 _ r1 (post_then (fun d M2 L2 H2 v s2 r2 rv q => ?_) q)⟩
    split at q
    · rename_i ds hds
      obtain ⟨o2, h1, h2⟩ := r2.m.get (s2.get ha')
      rw [hds] at h1
      cases h1
      obtain ⟨vs, h3, h4⟩ := h2
      split at q
      · rename_i hz
        obtain ⟨m3, s3⟩ := SM.put r2.m (s2.get ha') h3 (reps_snoc h4 rv)
        refine ⟨a, vs, v, rfl, rfl, h3, ?_, q L2 _ σ s3 (r2.stay s3 m3)⟩
        rw [← reps_len h4]
        exact Nat.lt_of_lt_of_le hz (by decide)
      · exact False.elim q
    · exact False.elim q
  · exact False.elim q
/-- what the text says of an own exception class without __init__ -/
structure ClsF (X : Cx) (C : Addr) (x : Str) : Prop where
  fx : ∃ (B newId initId : String) (bmB : List Value), ExcBaseFacts B newId initId bmB ∧ PySem.W.excIn X.K C bmB newId = true
  gC : X.mg x = some (.ref C)
  kC : PySem.W.keepIn X.K (.ref C) = true
  rs : Raises X (.ref C)
def raiseS (c : String) : DenS := fun e M => some (.ex c [] e, M)
theorem ds_raise {x m : Str} {j : Nat} {p p2 pos pos' : Pos} {C : Addr} (c : String) (d : Dc X W k) (hC : F.cl c = some C) (f : ClsF X C x) (hg : Gl X x := by rfl) (hdb : (x == ("__debug__" : Str)) = false := by decide) : DS F X W (.Raise (some (.Call (.Name x p) [.Constant (.str m) j p2] [] pos)) none pos') (raiseS c) := by
  obtain ⟨B, newId, initId, bmB, hF, hq⟩ := f.fx
  refine ⟨_, ps_raise d.calm d.tk (pmk_own hF hq f.gC f.kC f.rs hg hdb), fun e M L σ H T sr pp => ?_⟩
  exact pp L H σ (.ref C) none (Stp.refl L H) sr ⟨C, hC, rfl, rfl⟩
end
end DL
namespace DL
open PySem L2
/-- an exception's object as it stands, told to the abstract heap -/
def exP (C a : Addr) (dd : Option Addr) : Heap → Prop := fun h => ∃ (oe : Obj) (vs : Array Value), h.get? a = some oe ∧ oe.cls = .ref C ∧ oe.dict = dd ∧ oe.data = .fields vs
section
variable {F : Fx} {X : Cx} {W : WX} {L L1 : List Addr} {H H1 : Hp} {M : Store} {e : DL.Env} {σ : St} {T : Ends} {k : Nat} {p₀ : List (Addr × Obj)} {s : Shared}
/-- an object that nothing told of is told -/
theorem inv_track {a : Addr} {oe : Obj} {vs : Array Value} {φ : Heap → Prop} (I : L2.Inv X p₀ σ H s) (ha : s.heap.get? a = some oe) (hd : oe.data = .fields vs) (na : H a = none) (nL : a ≠ X.env.locals) (n0 : X.s_0.heap.get? a = none) (np : ∀ p ∈ X.pn ++ p₀, p.1 ≠ a) (hφ : φ s.heap)
    (st : ∀ h1 h2 : Heap, φ h1 → (∀ o, h1.get? a = some o → h2.get? a = some o) → φ h2) : L2.Inv X p₀ σ (upd H a (.ext φ)) s := by
  have old : ∀ b o, X.s_0.heap.get? b = some o → b ≠ a := fun b o q z => by
    rw [z, n0] at q
    cases q
  have other : ∀ b (o : HO), H b = some o → upd H a (.ext φ) b = some o := fun b o q => by
    rw [upd_ne (ne_of_none q na)]
    exact q
  refine ⟨I.ok, I.os, I.bare, ⟨I.base.keep, I.base.slot, fun b o q n hx => ?_, I.base.there, fun b xs q => other b _ (I.base.tups b xs q), fun b o u q => other b _ (I.base.frzs b o u q), fun b ps q => ?_⟩, I.loc, I.cell, ?_, fun x c q => ?_, fun p hp => ?_, fun b o q => ?_, I.len⟩
  · rw [upd_ne (old b o q)]
    exact I.base.free b o q n hx
  · obtain ⟨more, z⟩ := I.base.tbls b ps q
    exact ⟨more, other b _ z⟩
  · rw [upd_ne (Ne.symm nL)]
    exact I.free
  · have ne : c ≠ a := fun z => by
      obtain ⟨v, oc, ho, hdc⟩ := I.cell x c q
      rw [z, ha] at ho
      cases ho
      rw [hd] at hdc
      cases hdc
    rw [upd_ne ne]
    exact I.freeC x c q
  · obtain ⟨q1, q2, q3⟩ := I.pin p hp
    refine ⟨q1, ?_, q3⟩
    rw [upd_ne (np p hp)]
    exact q2
  · by_cases hb : b = a
    · subst hb
      rw [upd_same] at q
      cases q
      exact ⟨hφ, ⟨oe, ha⟩, st⟩
    · rw [upd_ne hb] at q
      exact (I.hok b o q).stay (fun c u _ z => z) (fun c z => other c _ z) fun c xs z => other c _ z
theorem flying_keep {B h h' : Heap} {l : List PySem.Env} {a : Addr} {Z : Obj → Prop} (fl : HandSPX.FlyingZ B l a Z h) (kp : ∀ b o, h.get? b = some o → h'.get? b = some o) : HandSPX.FlyingZ B l a Z h' := by
  obtain ⟨k1, k2, k3, oe, vs, T', oT, ts, q1, q2, q3, q4, q5, q6, q7, q8, q9⟩ := fl
  exact ⟨fun b o q => kp b o (k1 b o q), k2, PySem.Heap.FunFrames.of_keeps (fun b o q _ => ⟨o, kp b o q, rfl⟩) k3, oe, vs, T', oT, ts, kp _ _ q1, q2, q3, q4, q5, q6, kp _ _ q7, q8, q9⟩
/-- the classes that a clause names, looked at -/
def Cla (X : Cx) (te : Expr) (ct : Value → Bool) : Prop := ∀ (a : Addr) (pn p₁ : List (Addr × Obj)) (σ : St) (H : Hp) (s : Shared) (cls : Value) (Q : Bool → Shared → Prop) (E : Value → Shared → Prop), L2.Inv (X.suite a pn) p₁ σ H s →
  (∃ oe, s.heap.get? a = some oe ∧ oe.cls = cls) → ct cls = true → (∀ s' : Shared, (∀ b o, s.heap.get? b = some o → s'.heap.get? b = some o) → s'.os = s.os → PyProof.Rows.AllBare s'.gens → Q true s') →
  wpAny (model X.prog X.w) (X.A.mark (some (.ref a))) (eval te X.env) (fun c s₁ => wpAny (model X.prog X.w) (X.A.mark (some (.ref a))) (excMatches (.ref a) c) Q E s₁) E s
theorem ld_cls {a : Addr} {pn p₁ : List (Addr × Obj)} {x : Str} {c : Value} {p : Pos} {Q : Value → Shared → Prop} {E : Value → Shared → Prop} (hc : Names X x c) (I : L2.Inv (X.suite a pn) p₁ σ H s) (q : Q c s) : wpAny (model X.prog X.w) (X.A.mark (some (.ref a))) (eval (.Name x p) X.env) Q E s := by
  obtain ⟨hg, hdb, hm | ⟨hm, hv, hn⟩⟩ := hc
  · exact ld_glob (X := X.suite a pn) I hg hm q hdb
  · exact ld_blt (X := X.suite a pn) I hg hm hv q hn hdb
theorem looks_at {M : Model} {h : Heap} {a : Addr} {oe : Obj} {cls : Value} (ha : h.get? a = some oe) (hc : oe.cls = cls) : PySem.W.Looks M h (typeOf (.ref a)) cls := fun A Q E s k q => wpAny_typeOf_ref (k _ _ ha) (by rw [hc]; exact q)
theorem cla_name {x : Str} {c : Value} {p : Pos} {ct : Value → Bool} (hc : Names X x c) (h : ∀ cls, ct cls = true → PySem.W.exmOne X.K cls c = some true) : Cla X (.Name x p) ct := by
  intro a pn p₁ σ H s cls Q E I hcls hct q
  obtain ⟨oe, h1, h2⟩ := hcls
  exact ld_cls hc I ((PySem.W.exm_one (M := model X.prog X.w) I.kIn (looks_at h1 h2) (h cls hct)).here (q s (fun _ _ z => z) rfl I.bare))
/-- behind the body's exception: the suite with the error at i, then i is empty -/
def sufS (i : Nat) (su : DenS) (c : String) (fs : List (Str × D)) (e' : DL.Env) (M' : Store) : RS := match su (e'.set i (some (.exc c fs))) M' with
  | some (.nx e2, M2) => some (.nx (e2.set i none), M2)
  | some (.bk e2, M2) => some (.bk (e2.set i none), M2)
  | some (.ct e2, M2) => some (.ct (e2.set i none), M2)
  | some (.rt d, M2) => some (.rt d, M2)
  | _ => none
def tryS (i : Nat) (ct : String → Bool) (db su : DenS) : DenS := fun e M => match db e M with
  | some (.ex c fs e', M') => if ct c = true then sufS i su c fs e' M' else none
  | r => r
theorem ds_try {te : Expr} {n : Str} {b₀ : Stmt} {suite body : List Stmt} {pos pos' : Pos} {db su : DenS} {cv : Value → Bool} (i : Nat) (ct : String → Bool) (d : Dc X W k) (hs : X.stack = X.env :: X.outer) (hf : X.env.frame = some X.env.locals) (hex : X.ex = []) (hN : X.N.Nodup) (hi : X.N[i]? = some n) (hln : X.env.kindOf n = some .local)
    (hc : Cla X te cv) (hcv : ∀ c C, F.cl c = some C → ct c = true → cv (.ref C) = true)
    (hb : ∀ (W' : WX) (pn : List (Addr × Obj)) (xe : Value → Shared → Prop), Dc (X.tr pn xe) W' k → DSs F (X.tr pn xe) W' body db)
    (hsu : ∀ (a : Addr) (pn : List (Addr × Obj)), DSs F (X.suite a pn) (fun _ _ _ _ => False) (b₀ :: suite) su) :
    DS F X W (.Try body [.ExceptHandler (some te) (some n) (b₀ :: suite) pos'] [] [] pos) (tryS i ct db su) := by
  refine ⟨fun T σ H => ∃ (e : DL.Env) (M : Store) (L : List Addr), SR F L H M e σ ∧ PostS F L H W T (tryS i ct db su e M), ⟨fun p₁ s₁ σ₁ H₁ T₁ I₁ h₁ => ?_⟩, fun e M L σ H T sr pp => ⟨e, M, L, sr, pp⟩⟩
  obtain ⟨e, M, L, sr, pp⟩ := h₁
  have okk := I₁.ok
  have hfr : X.A.frames = some (X.env :: X.outer) := by rw [okk.frames, hs]
  have lcn : Loc X.env.scope n := .inl hln
  -- the wish about the body's exceptions
  let W' : WX := fun cls dd σ' H' => ∃ (c : String) (fs : List (Str × D)) (e' : DL.Env) (M' : Store) (L' : List Addr), SR F L' H' M' e' σ' ∧ ExR F L' H' c fs cls dd ∧ ct c = true ∧ PostS F L' H' W T₁ (sufS i su c fs e' M')
  let xe' : Value → Shared → Prop := fun u s1 => wpAny (model X.prog X.w) X.A (noteFrame u X.env) (fun _ s2 => wpAny (model X.prog X.w) X.A (setFlight u none) (fun _ s3 => wpAny (model X.prog X.w) X.A (handleBy u X.env [.ExceptHandler (some te) (some n) (b₀ :: suite) pos']) (SP X p₁ T₁) X.xe s3) X.xe s2) X.xe s1
  have tk' : Takes (X.tr (X.pn ++ p₁) xe') W' := by
    intro u s' xx
    obtain ⟨a, B, sI, pins', σ', H', cls, dd, rfl, J', nb, up, sky, na, os, ag, c, fs, e', M', L', sr', hx', hct, pp'⟩ := xx
    have J : L2.Inv X p₁ σ' H' sI := J'.ofTry okk
    have sky' : Sky B (X.env :: X.outer) a (Zc cls dd) X.env.locals s'.heap := by rw [← hs]; exact sky
    show wpAny _ X.A (noteFrame (.ref a) X.env) _ _ _
    have Bn : B.get? a = none := by
      rcases sky' with ⟨_, z, _⟩ | z | z
      · exact z
      · exact z.2.1
      · exact z.2.1
    refine Sky.land Zc.steady hfr hf sky' fun hh ff uu => ?_
    have JL : L2.Inv X p₁ σ' H' { s' with heap := hh } := J.landed nb ff.1 (up.trans uu) os ag
    obtain ⟨ox, xs9, eo, zo, od9⟩ := ff.there
    have nfr : a ∉ frs (X.env :: X.outer) := fun hm => by
      obtain ⟨_, o', e2, hnf⟩ := ff.2.2.1.mem hm
      rw [eo] at e2
      cases e2
      exact hnf _ od9
    have nl1 : a ≠ X.env.locals := fun z => nfr (List.mem_filterMap.mpr ⟨X.env, List.mem_cons_self, by rw [hf, z]⟩)
    have nf1 : a ∉ X.fs := fun hm => by
      obtain ⟨env', he, q⟩ := List.mem_filterMap.mp hm
      exact nfr (List.mem_filterMap.mpr ⟨env', List.mem_cons_of_mem _ he, q⟩)
    have sIn : sI.heap.get? a = none := by
      cases z : sI.heap.get? a with
      | none => rfl
      | some o =>
        have z2 := nb a o z (by rw [hs]; exact nfr)
        rw [Bn] at z2
        cases z2
    have s0n : X.s_0.heap.get? a = none := by
      cases z : X.s_0.heap.get? a with
      | none => rfl
      | some o =>
        obtain ⟨o', z2⟩ := J.base.there a o z (by rw [hex]; simp)
        rw [sIn] at z2
        cases z2
    have np : ∀ p ∈ X.pn ++ p₁, p.1 ≠ a := fun p hp z => by
      obtain ⟨q1, _⟩ := J.pin p hp
      rw [z, sIn] at q1
      cases q1
    have SU := JL.suite eo od9 na nl1 nf1
    refine wpAny_handleBy_cons (codeAny_handlers_test ?_) fun q => nomatch q
    obtain ⟨C, hC, rfl, hfd⟩ := hx'
    refine hc a _ [] σ' H' _ (.ref C) _ _ SU ⟨ox, eo, zo.1⟩ (hcv c C hC hct) fun s4 k4 o4 b4 => ?_
    apply codeAny_handlers_suite_as
    have fl4 : HandSPX.FlyingZ B (X.env :: X.outer) a (Zc (.ref C) dd) s4.heap := flying_keep ff k4
    refine HandSPX.lands_againZ fl4 fun h5 fl5 up5 => ?_
    have up4 : hh.UpToSlots s4.heap := Heap.UpToSlots.of_keeps k4
    have J5 : L2.Inv X p₁ σ' H' { s4 with heap := h5 } := J.landed nb fl5.1 (((up.trans uu).trans up4).trans up5) (o4.trans os) b4
    obtain ⟨oe5, vs5, he5, hz5, hd5⟩ := fl5.there
    have J6 : L2.Inv X p₁ σ' (upd H' a (.ext (exP C a dd))) { s4 with heap := h5 } := inv_track J5 he5 hd5 na nl1 s0n np ⟨oe5, vs5, he5, hz5.1, hz5.2, hd5⟩ fun h1 h2 ⟨o1, w1, q1, q2, q3, q4⟩ kk => ⟨o1, w1, kk _ q1, q2, q3, q4⟩
    have S6 : L2.Inv (X.suite a (X.pn ++ p₁)) [] σ' (upd H' a (.ext (exP C a dd))) { s4 with heap := h5 } :=
      ⟨J6.ok.suite _ _, J6.os, J6.bare, J6.base, J6.loc, J6.cell, J6.free, J6.freeC, fun p hp => J6.pin p (by rw [List.append_nil] at hp; exact hp), J6.hok, J6.len⟩
    have stp : Stp L' H' L' (upd H' a (.ext (exP C a dd))) := Stp.alloc na
    have sr6 : SR F L' (upd H' a (.ext (exP C a dd))) M' e' σ' := sr'.stay stp (sr'.m.alloc na)
    have rep6 : Rep F L' (upd H' a (.ext (exP C a dd))) (.exc c fs) (.ref a) := by
      refine ⟨a, C, dd, rfl, hC, ⟨_, upd_same, fun h z => z⟩, fresh_out sr'.m na, ?_⟩
      cases dd with
      | none => exact hfd
      | some x =>
        obtain ⟨ws, q1, q2, q3⟩ := hfd
        exact ⟨ws, by rw [upd_ne (ne_of_none q1 na)]; exact q1, q2, RepF.stay sr'.m stp fs ws q3⟩
    have back : ∀ {σ7 : L2.St} {H7 : Hp} {s7 : Shared}, L2.Inv (X.suite a (X.pn ++ p₁)) [] σ7 H7 s7 → L2.Inv X p₁ σ7 H7 s7 := fun {σ7 H7 s7} J7 =>
      ⟨okk, J7.os, J7.bare, J7.base, J7.loc, J7.cell, J7.free, J7.freeC, fun p hp => J7.pin p (by rw [List.append_nil]; exact hp), J7.hok, J7.len⟩
    refine store_ok (X := X.suite a (X.pn ++ p₁)) (v := .ref a) S6 hN hi lcn rfl (fun s7 S7 => ?_) (.inr hln)
    obtain ⟨tu, pu, qu⟩ := hsu a (X.pn ++ p₁)
    let T6 : Ends := { nx := fun σ' H' => T₁.nx (σ'.set i none) H', rt := T₁.rt, bk := fun σ' H' => T₁.bk (σ'.set i none) H', ct := fun σ' H' => T₁.ct (σ'.set i none) H' }
    have ps6 : PostS F L' (upd H' a (.ext (exP C a dd))) (fun _ _ _ _ => False) T6 (su (e'.set i (some (.exc c fs))) M') := by
      have pp6 := PostS.go stp pp'
      unfold sufS at pp6
      revert pp6
      cases su (e'.set i (some (.exc c fs))) M' with
      | none => exact id
      | some y =>
        obtain ⟨fl, M7⟩ := y
        cases fl with
        | nx e7 => exact fun q L7 H7 σ7 s7 r7 => q L7 H7 _ s7 (r7.unset i none)
        | bk e7 => exact fun q L7 H7 σ7 s7 r7 => q L7 H7 _ s7 (r7.unset i none)
        | ct e7 => exact fun q L7 H7 σ7 s7 r7 => q L7 H7 _ s7 (r7.unset i none)
        | rt d7 => exact id
        | ex c7 fs7 e7 => exact fun q => (show False from q).elim
    refine wpAny_mono (pu.run [] s7 _ _ T6 S7 (qu _ M' L' _ _ T6 (sr6.set i rep6) ps6)) (fun f s8 hsp => ?_) (fun _ _ z => (show False from z).elim)
    have fin : ∀ {σ8 : L2.St} {H8 : Hp} {Q : Shared → Prop}, L2.Inv (X.suite a (X.pn ++ p₁)) [] σ8 H8 s8 → (∀ s9, L2.Inv X p₁ (σ8.set i none) H8 s9 → Q s9) →
        wpAny (model X.prog X.w) X.A (do bindName X.env n .none; unbindBehindTheSuite X.env n pos') (fun _ s9 => Q s9) X.xe s8 := fun {σ8 H8 Q} S8 hq => gone_ok (back S8) hN hi hln hq
    cases f with
    | next =>
      obtain ⟨σ8, H8, S8, q8⟩ := hsp
      exact fin S8 fun s9 J9 => ⟨_, _, J9, q8⟩
    | brk =>
      obtain ⟨σ8, H8, S8, q8⟩ := hsp
      exact fin S8 fun s9 J9 => ⟨_, _, J9, q8⟩
    | cont =>
      obtain ⟨σ8, H8, S8, q8⟩ := hsp
      exact fin S8 fun s9 J9 => ⟨_, _, J9, q8⟩
    | ret u =>
      obtain ⟨v8, σ8, H8, S8, r8, q8⟩ := hsp
      exact fin S8 fun s9 J9 => ⟨_, _, _, J9, r8, q8⟩
  have dc' : Dc (X.tr (X.pn ++ p₁) xe') W' k := ⟨tk', d.room, d.calm, d.gd, PassesOwn.looking⟩
  obtain ⟨tb, pb, qb⟩ := hb W' (X.pn ++ p₁) xe' dc'
  refine wpAny_Try_except ?_
  have psb : PostS F L H₁ W' T₁ (db e M) := by
    unfold tryS at pp
    revert pp
    cases db e M with
    | none => exact id
    | some y =>
      obtain ⟨fl, M7⟩ := y
      cases fl with
      | nx e7 => exact id
      | bk e7 => exact id
      | ct e7 => exact id
      | rt d7 => exact id
      | ex c7 fs7 e7 =>
        intro q L7 H7 σ7 cls dd s7 r7 x7
        dsimp only at q
        split at q
        · rename_i hct
          exact ⟨c7, fs7, e7, M7, L7, r7, x7, hct, PostS.go s7 q⟩
        · exact False.elim q
  refine wpAny_mono (pb.run [] s₁ σ₁ H₁ T₁ (I₁.toTry _) (qb e M L σ₁ H₁ T₁ sr psb)) (fun f s2 hsp => ?_) (fun u s2 he => he)
  cases f with
  | next =>
    obtain ⟨σ', H', J', q⟩ := hsp
    exact wpAny_execs_nil ⟨σ', H', J'.ofTry okk, q⟩
  | brk =>
    obtain ⟨σ', H', J', q⟩ := hsp
    exact ⟨σ', H', J'.ofTry okk, q⟩
  | cont =>
    obtain ⟨σ', H', J', q⟩ := hsp
    exact ⟨σ', H', J'.ofTry okk, q⟩
  | ret u =>
    obtain ⟨v, σ', H', J', rv9, q⟩ := hsp
    exact ⟨v, σ', H', J'.ofTry okk, rv9, q⟩
end
end DL
namespace DL
open PySem L2
open PySem.W PySem.Spec PySem.Calls PyProof.Rows in
theorem exc_cls {P₁ : Program} {w₁ : World} {A₁ : Around} {E₁ : Value → Shared → Prop} {st : Shared} {K₁ : Frag} {y Dc₁ : Addr} {oy : Obj} {od : Option Obj} {Q₁ : Option Value → Shared → Prop} (ec : L2.ExcC K₁ Dc₁)
    (KX : K₁.In st.heap) (IA : InstAt st.heap y oy Dc₁ od) (fin : Q₁ (some (.ref Dc₁)) { st with toks := st.toks + 1 }) : wpAny (model P₁ w₁) A₁ (getAttr? (.ref y) "__class__") Q₁ E₁ st := by
  have ff : findObj K₁ Dc₁ od "__class__" = some (.bind (.builtin "getset_descriptor.__get__") (.builtin "object.__class__")) := by
    obtain ⟨cdd, hcd, _⟩ := any_some ec.hd
    unfold findObj
    rw [hcd, Option.bind_some, ec.ha, Option.bind_some]
    simp [ec.hn, ec.ht]
  obtain ⟨hp₁, g₁, d₁, t₁, os₁⟩ := st
  have M0 := IA.type (M := model P₁ w₁)
  have M1 := looks_findIn (M := model P₁ w₁) KX ec.hg
  have M2 := looks_findIn (M := model P₁ w₁) KX ec.hk
  have M3 := looks_find (M := model P₁ w₁) KX IA ff
  have isb : Looks (model P₁ w₁) hp₁ (isInstance (.ref y) (.type "BaseException")) true := M0.andThen (looks_subIn KX ec.hs)
  have nb0 : (false && onTheHeap (Value.builtin "BaseException.__getattribute__")) = false := by rfl
  have nb1 : (onTheHeap (Value.ref Dc₁) && Value.builtin "BaseException.__getattribute__" == Value.builtin "object.__getattribute__") = false := by
    rw [show (Value.builtin "BaseException.__getattribute__" == Value.builtin "object.__getattribute__") = false by decide +kernel]
    rfl
  unfold getAttr? getAttrBy?
  unfold getAttrBy
  refine wpAny_bind (wpAny_mkText (wpAny_bind (wpAny_attempt (wpAny_holding (wpAny_bind (M0.at (wpAny_bind (M1.at ?_))))))))
  show wpAny _ _ (if (onTheHeap (Value.ref Dc₁) && Value.builtin "BaseException.__getattribute__" == Value.builtin "object.__getattribute__") = true then _ else _) _ _ _
  rw [nb1, if_neg Bool.false_ne_true]
  unfold getAttrByItsOwn
  unfold hookBefore
  refine wpAny_bind ?_
  rw [if_pos (by rfl : onTheHeap (Value.ref Dc₁) = true)]
  refine M2.at (wpAny_bind (wpAny_attempt (wpAny_holding ?_)))
  unfold callGetattribute
  rw [nb0, if_neg Bool.false_ne_true]
  unfold boundAndCalled
  rw [PySem.F.excAttr_ValueError.ga.bind (.ref y)]
  refine wpAny_bind ?_
  refine wpAny_pure ?_
  show wpAny _ _ (call (.builtin "BaseException.__getattribute__") [.ref y, .str "__class__" t₁]) _ _ _
  refine wpAny_call ?_
  apply codeAny_call_builtin PySem.F.excAttr_ValueError.ga.plain PySem.F.entry_bexc_ga
  refine @check_slot (model P₁ w₁) _ _ ⟨hp₁, g₁, d₁, t₁ + 1, os₁⟩ "BaseException.__getattribute__" "BaseException" "__getattribute__" (.ref y) [.str "__class__" t₁] [] _ (by decide +kernel) (by decide +kernel) isb (PySem.F.args_bexc_ga (.ref y) (.str "__class__" t₁)) ?_
  delta Builtin.«object.__getattribute__»
  refine wpAny_bind (wpAny_of_eq (a := ((Value.ref y : Value), [Value.str "__class__" t₁])) (by first | rfl | (simp only [slotArgs]; rfl)) ?_)
  refine wpAny_bind (wpAny_pure (wpAny_bind (M0.at (wpAny_bind (M3.at ?_)))))
  show wpAny _ _ (holding [Value.builtin "object.__class__"] (call (.builtin "getset_descriptor.__get__") [.builtin "object.__class__", .ref y, .ref Dc₁]) >>= ret) _ _ _
  refine wpAny_bind (wpAny_holding (wpAny_call (class_get (s := ⟨hp₁, g₁, d₁, t₁ + 1, os₁⟩) (ox := oy) (od := od) KX IA ec.hm ?_)))
  refine wpAny_pure ?_
  show wpAny _ _ (handedOut (.ref Dc₁)) _ _ _
  rw [handedOut_of (v := .ref Dc₁) rfl]
  first
    | exact wpAny_pure (wpAny_pure fin)
    | exact wpAny_pure fin
    | exact wpAny_pure (wpAny_bind (wpAny_pure (wpAny_pure fin)))
open PySem.W PySem.Spec PySem.Calls PyProof.Rows in
theorem exc_kit {K₁ : Frag} {y Dc₁ : Addr} {oy : Obj} {od : Option Obj} (ec : L2.ExcC K₁ Dc₁) : KitX K₁ (.ref y) (.ref Dc₁) (fun h => InstAt h y oy Dc₁ od) where
  ty := fun _ _ _ IA => IA.type
  it := fun _ _ KX _ => by
    obtain ⟨cdd, hcd, _⟩ := any_some ec.hd
    unfold clsIn at hcd
    split at hcd
    · rename_i hob
      intro A₂ Q₂ E₂ s₂ kk qq
      unfold isType loadHead
      exact wpAny_bind (wpAny_loadPart (kk _ _ (KX _ _ hob)) (wpAny_pure qq))
    · cases hcd
  ne := fun h tp dd its n sl KX htp => by
    obtain ⟨cdd, hcd, _⟩ := any_some ec.hd
    refine Bool.eq_false_iff.mpr fun qq => ?_
    have ee : Dc₁ = tp := Value.ref.inj (beq_iff_eq.mp qq)
    subst ee
    unfold clsIn at hcd
    split at hcd
    · rename_i hob
      have zz := (KX _ _ hob).symm.trans htp
      cases zz
    · cases hcd
  ca := fun KX IA k => exc_cls ec KX IA k
section
variable {F : Fx} {X : Cx} {W : WX} {L L1 : List Addr} {H H1 : Hp} {M : Store} {e : DL.Env} {σ : L2.St} {T : Ends} {k : Nat} {p₀ : List (Addr × Obj)} {s : Shared}
/-- an own class by its name -/
theorem de_own {x : Str} {pos : Pos} {C : Addr} (c : String) (hC : F.cl c = some C) (hm : X.mg x = some (.ref C)) (hg : Gl X x := by rfl) (hd : (x == ("__debug__" : Str)) = false := by decide) : DE F X W (.Name x pos) (cD (.cls c)) :=
  ⟨_, pe_glob (v := .ref C) hg hm rfl hd, fun e M L σ H Q sr p => p.ok sr ⟨C, rfl, hC⟩⟩
/-- a class as a value: what stands for it -/
def clsU (F : Fx) : D → Option Value
  | .ty S => some (.type S)
  | .cls c => (F.cl c).map .ref
  | _ => none
/-- isinstance, of an error that was kept or of data -/
def isiA (sub : String → D → Option Bool) : List D → Store → RE
  | [.exc c _, t], M => match sub c t with
    | some b => ok (.bl b) M
    | none => none
  | [d, t], M => isiF [d, t] M
  | _, _ => none
def rIsiX (K : PySem.W.Frag) : List V → Hp → VK → Prop := fun vs H Q => ∃ (a C : Addr) (c : V) (u : Value) (b : Bool), vs = [.ref a, c] ∧ ClsV c u ∧ (∃ dd, ExAt H C a dd ∧ ∀ x, dd = some x → ∃ ws, H x = some (.xd ws)) ∧ L2.ExcC K C ∧ PySem.W.kitOne K (.ref C) u = some b ∧ Q (.bl b) H
theorem callr_isiX : CallR X (.builtin "isinstance") (rIsiX X.K) := by
  intro p₀ s₀ σ₀ H₀ vs us Q₀ I₀ r h
  obtain ⟨a, C, c, u, b, rfl, hc, hx, ec, hk, q⟩ := h
  obtain ⟨u1, u2, eu2, r1, r2⟩ := vals2 r
  subst eu2
  cases r1
  have e2 := hc.eq r2
  subst e2
  obtain ⟨dd, ⟨φ, h1, h2⟩, hdd⟩ := hx
  obtain ⟨hφ, _, _⟩ := (show ObjOk X.prog X.w H₀ s₀.heap a (.ext φ) from I₀.hok a _ h1)
  obtain ⟨oe, ws, g1, g2, g3, g4⟩ := h2 _ hφ
  have J : ∃ od, PySem.W.InstAt s₀.heap a oe C od := by
    obtain ⟨ocl, od, oda, osl⟩ := oe
    dsimp only at g2 g3 g4
    subst g2 g3 g4
    cases od with
    | none => exact ⟨none, g1, rfl, rfl, trivial⟩
    | some x =>
      obtain ⟨ws, hx⟩ := hdd x rfl
      obtain ⟨mA, ⟨ob, _, _, hob, hrest⟩, _⟩ := (show ObjOk X.prog X.w H₀ s₀.heap x (.xd ws) from I₀.hok x _ hx)
      exact ⟨some ob, g1, rfl, rfl, hob⟩
  obtain ⟨od, J⟩ := J
  exact PySem.W.kia_one (exc_kit ec) I₀.kIn J hk (fun z => nomatch z) fun tk => ⟨.bl b, H₀, I₀.kept (t' := tk) fun _ _ z => z, rfl, q⟩
theorem orC {g : Value} {r r' : List V → Hp → VK → Prop} (h : CallR X g r) (h' : CallR X g r') : CallR X g (fun vs H Q => r vs H Q ∨ r' vs H Q) := by
  intro p₀ s₀ σ₀ H₀ vs us Q₀ I₀ rv q
  rcases q with q | q
  · exact h p₀ s₀ σ₀ H₀ vs us Q₀ I₀ rv q
  · exact h' p₀ s₀ σ₀ H₀ vs us Q₀ I₀ rv q
theorem callr_isi : CallR X (.builtin "isinstance") (fun vs H Q => rIsiX X.K vs H Q ∨ rIsi X.K vs H Q) := orC callr_isiX call_isi
theorem isiA_ok {sub : String → D → Option Bool} (hs : ∀ c t b C u, F.cl c = some C → clsU F t = some u → sub c t = some b → L2.ExcC F.K C ∧ PySem.W.kitOne F.K (.ref C) u = some b) (hu : ∀ c t b, sub c t = some b → ∃ u, clsU F t = some u) :
    CallOk F (fun vs H Q => rIsiX F.K vs H Q ∨ rIsi F.K vs H Q) (isiA sub) := fun ds M L H e σ W vs Q sr rv p => by
  unfold isiA at p
  split at p
  · rename_i c _ t
    obtain ⟨v, v', rfl, h1, h2⟩ := reps2 rv
    obtain ⟨a, C, dd, rfl, hC, hx, _, hdd⟩ := h1
    have hd0 : ∀ x, dd = some x → ∃ ws, H x = some (.xd ws) := fun x z => by
      subst z
      obtain ⟨ws, q1, _⟩ := hdd
      exact ⟨ws, q1⟩
    split at p
    · rename_i b hb
      obtain ⟨u, hu'⟩ := hu c t b hb
      obtain ⟨ec, hk⟩ := hs c t b C u hC hu' hb
      have hcv : ClsV v' u := by
        cases t with
        | ty S =>
          have z : v' = .ty S := h2
          cases Option.some.inj hu'
          rw [z]
          exact .ty S
        | cls c2 =>
          obtain ⟨C2, rfl, hC2⟩ := h2
          have z : (F.cl c2).map Value.ref = some u := hu'
          rw [hC2] at z
          cases Option.some.inj z
          exact .own C2
        | _ => cases hu'
      exact .inl ⟨a, C, v', u, b, rfl, hcv, ⟨dd, hx, hd0⟩, ec, hk, p.ok sr rfl⟩
    · exact False.elim p
  · exact .inr (isi_ok _ M L H e σ W vs Q sr rv p)
  · exact False.elim p
end
end DL
namespace DL
open PySem L2
/-- the values that a lambda may read: their slots, themselves -/
def capI : Nat → DL.Env → List Nat
  | _, [] => []
  | n, some _ :: e => n :: capI (n + 1) e
  | n, none :: e => capI (n + 1) e
def capD : DL.Env → List D
  | [] => []
  | some d :: e => d :: capD e
  | none :: e => capD e
section
variable {F : Fx} {L : List Addr} {H : Hp} {σ : L2.St}
theorem cap_of : ∀ (e : DL.Env) (n : Nat), (∀ (i : Nat) (d : D), e[i]? = some (some d) → ∃ v, σ[n + i]? = some (some v) ∧ Rep F L H d v) →
    ∃ vs, (∀ (j i : Nat), (capI n e)[j]? = some i → ∃ w, vs[j]? = some w ∧ σ[i]? = some (some w)) ∧ Reps F L H (capD e) vs
  | [], n, _ => ⟨[], fun j i h => by simp [capI] at h, rfl⟩
  | some d :: e, n, h => by
    obtain ⟨v, h1, h2⟩ := h 0 d rfl
    obtain ⟨vs, h3, h4⟩ := cap_of e (n + 1) fun i d' q => by
      obtain ⟨v', q1, q2⟩ := h (i + 1) d' (by simpa using q)
      exact ⟨v', by rw [show n + 1 + i = n + (i + 1) by omega]; exact q1, q2⟩
    refine ⟨v :: vs, fun j i q => ?_, v, vs, rfl, h2, h4⟩
    cases j with
    | zero =>
      have q' : n = i := by simpa [capI] using q
      rw [← q']
      exact ⟨v, rfl, h1⟩
    | succ j => exact h3 j i (by simpa [capI] using q)
  | none :: e, n, h => by
    obtain ⟨vs, h3, h4⟩ := cap_of e (n + 1) fun i d' q => by
      obtain ⟨v', q1, q2⟩ := h (i + 1) d' (by simpa using q)
      exact ⟨v', by rw [show n + 1 + i = n + (i + 1) by omega]; exact q1, q2⟩
    exact ⟨vs, h3, h4⟩
theorem cap_to : ∀ (e : DL.Env) (n : Nat) (vs : List V), (∀ (j i : Nat), (capI n e)[j]? = some i → ∃ w, vs[j]? = some w ∧ σ[i]? = some (some w)) → Reps F L H (capD e) vs →
    ∀ (i : Nat) (d : D), e[i]? = some (some d) → ∃ v, σ[n + i]? = some (some v) ∧ Rep F L H d v
  | [], _, _, _, _, i, d, h => by simp at h
  | some d' :: e, n, vs, h1, h2, i, d, h => by
    obtain ⟨v, r, rfl, h3, h4⟩ := h2
    cases i with
    | zero =>
      have q : d' = d := by simpa using h
      subst q
      obtain ⟨w, q1, q2⟩ := h1 0 n rfl
      have q3 : v = w := by simpa using q1
      subst q3
      exact ⟨v, q2, h3⟩
    | succ i =>
      obtain ⟨w, q1, q2⟩ := cap_to e (n + 1) r (fun j i' q => h1 (j + 1) i' (by simpa [capI] using q)) h4 i d (by simpa using h)
      exact ⟨w, by rw [show n + (i + 1) = n + 1 + i by omega]; exact q1, q2⟩
  | none :: e, n, vs, h1, h2, i, d, h => by
    cases i with
    | zero => simp at h
    | succ i =>
      obtain ⟨w, q1, q2⟩ := cap_to e (n + 1) vs h1 h2 i d (by simpa using h)
      exact ⟨w, by rw [show n + (i + 1) = n + 1 + i by omega]; exact q1, q2⟩
end
/-- what raises nothing -/
def valOnly : RE → RE
  | some (.val d, M) => some (.val d, M)
  | _ => none
open Classical in
/-- the call of what stands in slot i, where that is cl -/
noncomputable def callC (i : Nat) (cl : D) (cden : Store → RE) : DenE := fun e M => match e[i]? with
  | some (some d) => if d = cl then cden M else none
  | _ => none
section
variable {F : Fx} {X : Cx} {W : WX} {L L1 : List Addr} {H H1 : Hp} {M : Store} {e : DL.Env} {σ : L2.St} {k : Nat}
theorem stp_extn (m : SM F L H M) (eN : LamX.ExtN H H1) (T1 : LamX.Tabs F.T H1) : Stp L H L H1 ∧ SM F L H1 M := by
  have s : Stp L H L H1 := ⟨fun a o h _ n => eN a o h n, ⟨[], (List.append_nil L).symm, fun x hx => absurd hx (by simp)⟩, fun a o h n => ⟨o, eN a o h n, n⟩, fun a o u _ h => eN a _ h (fun ps z => nomatch z)⟩
  refine ⟨s, m.len, m.nd, fun n a ob h1 h2 => ?_, T1⟩
  exact ObR.stay m s (fun u hu q => eN a _ hu (fun ps z => by rw [z] at q; exact q)) ob (m.obs n a ob h1 h2)
abbrev ZCx (X : Cx) (Ng : List Str) (x : Str) (sg : Scope) (g : Addr) (cdg : Value) (s : Shared) (H : Hp) : Cx := cxOf (L2.CX X.prog X.w) X.prog X.w X.K X.mg X.base Ng x sg g cdg X.A X.stack s H E0
theorem qual_cx {cx : CXT} {P : Program} {w : World} {K : PySem.W.Frag} {mg : Str → Option Value} {base : Heap} {N : List Str} {q : Str} {sg : Scope} {g : Addr} {cd : Value} {A : Around} {outer : List PySem.Env} {s : Shared} {H : Hp} {E : XK} : (cxOf cx P w K mg base N q sg g cd A outer s H E).env.qual = q ++ ".<locals>." := rfl
end
end DL
namespace DL
open PySem L2
/-- what stands at the law's call: the script at a, empty tables of code -/
structure Ent (K : PySem.W.Frag) (mg : Str → Option Value) (s : Shared) (cs : List (Addr × Addr)) (a : Addr) (us : List Value) (ns : List Int) : Prop where
  kin : K.In s.heap
  glob : s.heap.Ns mainGlobals mg
  blt : ∃ mb, s.heap.Ns builtinsNs mb ∧ ∀ x : Str, x ≠ "__name__" → mb x = bootBuiltins x
  lim : s.heap.NoLimit
  gens : s.gens = #[]
  tab : ∀ p ∈ cs, s.heap.get? p.2 = some { cls := .none, data := .fields #[] }
  tabK : ∀ p ∈ cs, K.lookup p.2 = none
  code : ∀ p ∈ cs, PySem.W.CodeHd s.heap p.1 p.2
  bm : ∃ (m : Addr) (o : Obj), mg "__builtins__" = some (.ref m) ∧ m ≠ builtinsNs ∧ s.heap.get? m = some o ∧ o.cls = .type "module" ∧ o.dict = some builtinsNs ∧ o.data = .plain
  scr : s.heap.get? a = some { cls := .type "list", data := .seq us.toArray }
  isc : PyProof.Rows.IntsAre us ns
  len : ns.length ≤ sizeLine
section
variable {P : Program} {w : World} {F : Fx} {mg : Str → Option Value} {s : Shared} {cs : List (Addr × Addr)} {a : Addr} {us : List Value} {ns : List Int}
theorem Ent.tabAt (e : Ent F.K mg s cs a us ns) {b : Addr} (hb : b ∈ cs.map (·.2)) : s.heap.get? b = some { cls := .none, data := .fields #[] } := by
  obtain ⟨y, h1, h2⟩ := List.mem_map.mp hb
  rw [← h2]
  exact e.tab y h1
theorem Ent.out (e : Ent F.K mg s cs a us ns) : a ∉ cs.map (·.2) := fun hb => by
  have z := e.tabAt hb
  rw [e.scr] at z
  have z2 := congrArg Obj.data (Option.some.inj z)
  cases z2
/-- the abstract heap at the call -/
def entH (cs : List (Addr × Addr)) (u : Option (Addr × HO)) : Hp := fun b => match u with
  | some (a, o) => if b = a then some o else if b ∈ cs.map (·.2) then some (.tbl #[]) else none
  | none => if b ∈ cs.map (·.2) then some (.tbl #[]) else none
/-- what an abstract heap at the call is -/
structure EntH (e : Ent F.K mg s cs a us ns) (H : Hp) : Prop where
  tb : ∀ b ∈ cs.map (·.2), H b = some (.tbl #[])
  known : ∀ b o, H b = some o → (b ∈ cs.map (·.2) ∧ o = .tbl #[]) ∨ (b = a ∧ F.K.lookup a = none ∧ o = .frz { cls := .type "list", data := .seq us.toArray } (.lst (ns.map V.int)))
  rep : ∀ L, Rep F L H (.scr ns) (.ref a)
theorem ent_ok (e : Ent F.K mg s cs a us ns) {H : Hp} (h : EntH e H) : HOk P w H s.heap := fun b o q => by
  rcases h.known b o q with ⟨h1, rfl⟩ | ⟨rfl, _, rfl⟩
  · exact e.tabAt h1
  · refine ⟨e.scr, ?_, us, _, vals_ints e.isc, e.scr⟩
    rw [List.length_map]
    exact e.len
theorem ent_plain (e : Ent F.K mg s cs a us ns) {H : Hp} (h : EntH e H) {b : Addr} {ob : Obj} (hb : s.heap.get? b = some ob) (n1 : ∀ z n, ob.data ≠ .seq z n) (n2 : ob.data ≠ .fields #[]) : H b = none := by
  cases q : H b with
  | none => rfl
  | some o =>
    exfalso
    rcases h.known b o q with ⟨h1, _⟩ | ⟨rfl, _⟩
    · rw [e.tabAt h1] at hb
      cases hb
      exact n2 rfl
    · rw [e.scr] at hb
      cases hb
      exact n1 _ _ rfl
theorem ent_ns (e : Ent F.K mg s cs a us ns) {H : Hp} (h : EntH e H) {b : Addr} {m : Str → Option Value} (hb : s.heap.Ns b m) : (hidT s.heap H).Ns b m := by
  obtain ⟨ob, es, ep, h1, h2, h3⟩ := hb
  refine ⟨ob, es, ep, hidT_get h1 (ent_plain e h h1 (fun z n q => ?_) fun q => ?_), h2, h3⟩
  · rw [h2] at q
    cases q
  · rw [h2] at q
    cases q
theorem ent_k (e : Ent F.K mg s cs a us ns) {H : Hp} (h : EntH e H) : F.K.In (hidT s.heap H) := fun b ob q => by
  refine hidT_get (e.kin b ob q) ?_
  cases z : H b with
  | none => rfl
  | some o =>
    exfalso
    rcases h.known b o z with ⟨h1, _⟩ | ⟨rfl, h1, _⟩
    · obtain ⟨y, y1, y2⟩ := List.mem_map.mp h1
      rw [← y2, e.tabK y y1] at q
      cases q
    · rw [h1] at q
      cases q
theorem ent_tb (e : Ent F.K mg s cs a us ns) {H : Hp} (h : EntH e H) : ∀ p ∈ cs, LamX.TabB (hidT s.heap H) mg p.1 p.2 := fun p hp => by
  have htp := e.tab p hp
  obtain ⟨og, esg, epg, hg1, hg2, _⟩ := id e.glob
  refine ⟨?_, ?_, fun z => ?_⟩
  · obtain ⟨o, vs, file, tf, flags, tg, inF, text, tt, c1, c2, c3, c4⟩ := e.code p hp
    refine ⟨o, vs, file, tf, flags, tg, inF, text, tt, hidT_get c1 (ent_plain e h c1 (fun z n q => ?_) fun q => ?_), c2, c3, c4⟩
    · rw [c3] at q
      cases q
    · rw [c3] at q
      cases q
      have z := c4.1
      simp at z
  · obtain ⟨m, o, b1, b2, b3, b4, b5, b6⟩ := e.bm
    refine ⟨m, o, b1, b2, fun q => ?_, fun q => ?_, hidT_get b3 (ent_plain e h b3 (fun z n q => ?_) fun q => ?_), b4, b5, b6⟩
    · rw [q, hg1] at b3
      cases b3
      rw [hg2] at b6
      cases b6
    · rw [q, htp] at b3
      cases b3
      cases b6
    · rw [b6] at q
      cases q
    · rw [b6] at q
      cases q
  · rw [z, htp] at hg1
    cases hg1
    cases hg2
/-- the abstract heap at the call is there -/
theorem ent_ex (e : Ent F.K mg s cs a us ns) : ∃ H, EntH e H := by
  have rv := vals_ints e.isc
  cases hk : F.K.lookup a with
  | some o =>
    have z := e.kin a o hk
    rw [e.scr] at z
    cases z
    refine ⟨entH cs none, fun b hb => if_pos hb, fun b o q => ?_, fun L => ⟨a, rfl, .inr ⟨_, us.toArray, _, hk, rfl, rfl, rfl, ?_, rv⟩⟩⟩
    · rcases Classical.em (b ∈ cs.map (·.2)) with hb | hb
      · exact .inl ⟨hb, (Option.some.inj ((if_pos hb).symm.trans q)).symm⟩
      · have z := (if_neg hb).symm.trans q
        cases z
    · rw [List.size_toArray, ← rv.length, List.length_map]
      exact e.len
  | none =>
    refine ⟨entH cs (some (a, .frz { cls := .type "list", data := .seq us.toArray } (.lst (ns.map V.int)))), fun b hb => ?_, fun b o q => ?_, fun L => ⟨a, rfl, .inl ⟨_, if_pos rfl⟩⟩⟩
    · refine (if_neg (fun z => ?_)).trans (if_pos hb)
      rw [z] at hb
      exact e.out hb
    · by_cases hb : b = a
      · subst hb
        exact .inr ⟨rfl, hk, (Option.some.inj ((if_pos rfl).symm.trans q)).symm⟩
      · have z := (if_neg hb).symm.trans q
        rcases Classical.em (b ∈ cs.map (·.2)) with hb2 | hb2
        · exact .inl ⟨hb2, (Option.some.inj ((if_pos hb2).symm.trans z)).symm⟩
        · have z2 := (if_neg hb2).symm.trans z
          cases z2
/-- THE CALL: the law's promise gives its end -/
theorem ent_call {k : Nat} {fa : Addr} {fd : FuncData} {x : Str} {den : DenF} (e : Ent F.K mg s cs a us ns) (hr : Room k callerA) (hT : ∀ y ∈ F.T, y.1 ∈ cs.map (·.2)) (hb : ∀ (s : Shared) (u : Value), BindsTo s fd ⟨[u], []⟩ [(x, u)])
    (hF : ∀ base : Heap, F.K.In base → base.Ns mainGlobals mg → (∀ p ∈ cs, LamX.TabB base mg p.1 p.2) → FnD P w F mg base k fa fd [x] den) (hden : ∃ M, den [.scr ns] [] = some (.val (.bl true), M)) :
    codeAny (model P w) callerA (.call (.ref fa) ⟨[.ref a], []⟩) (fun r s' => r = .ok (.ret (.bool true)) ∧ OldK s.heap s'.heap ∧ s'.os = s.os ∧ PyProof.Rows.AllBare s'.gens) s := by
  obtain ⟨H, h⟩ := ent_ex e
  obtain ⟨M, hM⟩ := hden
  obtain ⟨mb, hb1, hb2⟩ := e.blt
  obtain ⟨ml, hl1, hl2⟩ := id e.lim
  have md : L2.Mod F.K mg (hidT s.heap H) := ⟨ent_k e h, ent_ns e h e.glob, ⟨mb, ent_ns e h hb1, hb2⟩, ⟨ml, ent_ns e h hl1, hl2⟩⟩
  have e0 : Env0 P w F.K mg (hidT s.heap H) callerA [] s H := by
    refine ⟨rfl, md, fun b o z => of_hidT z, Nat.le_of_eq (hidT_size _ _), trivial, fun b z => ?_, ent_ok e h, .of_eq e.gens⟩
    exact absurd (show b ∈ ([] : List Addr) from z) (by simp)
  have sp : spD F den [.ref a] H (fun v _ => v = .bl true) fun _ _ _ => False := by
    refine ⟨[], [], [.scr ns], ⟨rfl, List.nodup_nil, fun n b o z => by simp at z, fun y hy => LamX.TabS.nil (h.tb _ (hT y hy))⟩, ⟨.ref a, [], rfl, h.rep [], rfl⟩, ?_⟩
    rw [hM]
    exact fun L' H' v _ _ rv => rv
  refine codeAny_mono ((hF _ (ent_k e h) (ent_ns e h e.glob) (ent_tb e h)).run callerA [] s H ⟨[.ref a], []⟩ [.ref a] [.ref a] _ _ hr rfl e0 (hb s (.ref a)) (.cons rfl .nil) rfl sp) fun r s' q => ?_
  cases r with
  | error y =>
    obtain ⟨_, _, _, _, _, _, _, _, _, _, _, _, z⟩ := q
    exact z.elim
  | ok fl =>
    cases fl with
    | next => exact (show False from q).elim
    | brk => exact (show False from q).elim
    | cont => exact (show False from q).elim
    | ret u =>
      obtain ⟨v, H', ho, hba, un, hok', rv, hv⟩ := q
      have hv' : v = .bl true := hv
      subst hv'
      obtain rfl : u = Value.bool true := rv
      have same : ∀ b o, b ∉ cs.map (·.2) → s.heap.get? b = some o → s'.heap.get? b = some o := fun b o nb z => by
        cases q2 : H b with
        | none => exact un.keep b o z q2 (by intro y; exact absurd (show b ∈ ([] : List Addr) from y) (by simp)) (by simp)
        | some u2 =>
          rcases h.known b u2 q2 with ⟨h1, _⟩ | ⟨rfl, _, rfl⟩
          · exact absurd h1 nb
          · rw [e.scr] at z
            cases z
            exact (hok' _ _ (un.frzs _ _ _ q2)).1
      have more : ∀ b ∈ cs.map (·.2), ∃ m : Array Value, s'.heap.get? b = some { cls := .none, data := .fields m } := fun b hb => by
        obtain ⟨m, z⟩ := un.tbls b #[] (h.tb b hb)
        exact ⟨_, hok' b _ z⟩
      refine ⟨rfl, ⟨fun b o z => ?_, fun b o z => ?_⟩, ho, hba⟩
      · by_cases hb3 : b ∈ cs.map (·.2)
        · obtain ⟨m, hm⟩ := more b hb3
          obtain ⟨y, y1, y2⟩ := List.mem_map.mp hb3
          subst y2
          rw [e.tab y y1] at z
          cases z
          exact .inr (.inl ⟨((e.code y y1).tab (e.tab y y1)).isCodeTable, rfl, #[], m, rfl, by rw [Array.empty_append]; exact hm⟩)
        · exact .inl (same b o hb3 z)
      · by_cases hb3 : b ∈ cs.map (·.2)
        · obtain ⟨m, hm⟩ := more b hb3
          exact ⟨_, hm⟩
        · exact ⟨o, same b o hb3 z⟩
end
end DL
namespace DL
open PySem L2
section
variable {F : Fx} {X : Cx} {W : WX} {k : Nat}
abbrev DenO := DL.Env → Store → RD (Option Int)
def noneO : DenO := fun _ M => ok none M
def someO (da : DenE) : DenO := fun e M => bindE (da e M) fun d M1 => match d with
  | .int i => ok (some i) M1
  | _ => none
theorem do_no : DO F X W none noneO := do_none
theorem do_so {x : Expr} {da : DenE} (ha : DE F X W x da) : DO F X W (some x) (someO da) := do_some ha
def slD (da : DenE) (dl dh dt : DenO) : DenE := fun e M => bindE (da e M) fun d M1 => bindE (dl e M1) fun l M2 => bindE (dh e M2) fun h M3 => bindE (dt e M3) fun t M4 => slcF d l h t M4
theorem de_sl {x : Expr} {lo hi st : Option Expr} {da : DenE} {dl dh dt : DenO} {pos p2 : Pos} (ha : DE F X W x da) (hl : DO F X W lo dl) (hh : DO F X W hi dh) (ht : DO F X W st dt) (hK : X.K = F.K := by rfl) : DE F X W (.Subscript x (.Slice lo hi st p2) pos) (slD da dl dh dt) := de_slice3 ha hl hh ht hK
def tstD (da : DenE) : DenE := fun e M => bindE (da e M) asT
theorem dt_v {x : Expr} {da : DenE} (ha : DE F X W x da) (hK : X.K = F.K := by rfl) (he : ∀ whole, isTrue x X.env whole = (do let v ← whole; standAt x.pos; holding [v] (truthy v)) := by intro _; rfl) : DT F X W x (tstD da) := dt_val hK ha he
def empD : DenE := fun _ M => ok .emp M
theorem de_emp {pos : Pos} : DE F X W (.Dict [] [] pos) empD := by
  refine ⟨_, pe_dnewK, fun e M L σ H Q sr p => fun p' hp => ?_⟩
  have s : Stp L H L (upd H p' (.dK [])) := Stp.alloc hp
  exact p L _ (.ref p') s (sr.stay s (sr.m.alloc hp)) ⟨p', rfl, upd_same, fresh_out sr.m hp⟩
def lamD (gden : (Store → RE) → Store → RE) (db : DenE) : DenE := fun e M => valOnly (gden (fun M' => db e M') M)
def wlS (fuel : DL.Env → Store → Nat) (dt : DenE) (db : DenS) : DenS := fun e M => whileS dt db (fuel e M) e M
theorem ds_wl {c : Expr} {body : List Stmt} {dt : DenE} {db : DenS} {pos : Pos} (fuel : DL.Env → Store → Nat) (d : Dc X W k) (hc : DT F X W c dt) (hb : DSs F X W body db) : DS F X W (.While c body [] pos) (wlS fuel dt db) := ds_while fuel d hc hb
end
end DL
namespace DL
open PySem L2 PyProof.Rows
/-- what is known at the head's heap of the law's def at fa -/
def DEnd (P : Program) (w : World) (K : PySem.W.Frag) (q : Program) (k n : Nat) (x : Str) (mg : Str → Option Value) (fa : Addr) : Prop :=
  ∃ (F : Fx) (fd : FuncData) (xs : List (Str × Addr × Addr)) (den : DenF), F.K = K ∧
    (∀ y ∈ xs, (∃ d, (recsOf q).find? (fun e => e.name == y.1) = some d) ∧ PySem.W.tabIn K y.1 = some y.2 ∧ K.lookup y.2.2 = none) ∧
    (∀ y ∈ F.T, y.1 ∈ (xs.map (·.2)).map (·.2)) ∧ (∀ (s : Shared) (u : Value), BindsTo s fd ⟨[u], []⟩ [(x, u)]) ∧
    (∀ base : Heap, F.K.In base → base.Ns mainGlobals mg → (∀ p ∈ xs.map (·.2), LamX.TabB base mg p.1 p.2) → FnD P w F mg base k fa fd [x] den) ∧
    ∀ ns : List Int, ns.length ≤ n → (∀ z ∈ ns, Builtin.Int.intBits z ≤ 1048576) → ∃ M, den [.scr ns] [] = some (.val (.bl true), M)
end DL
namespace DL
open PySem L2
mutual
/-- no list's number from n on -/
def nlD (n : Nat) : D → Bool
  | .loc k => decide (k < n)
  | .tup ds => nlDs n ds
  | .lst ds => nlDs n ds
  | .exc _ fs => nlF n fs
  | .clo _ _ _ _ _ ds => nlDs n ds
  | _ => true
def nlDs (n : Nat) : List D → Bool
  | [] => true
  | d :: ds => nlD n d && nlDs n ds
def nlF (n : Nat) : List (Str × D) → Bool
  | [] => true
  | (_, d) :: fs => nlD n d && nlF n fs
end
def nlOb (n : Nat) : Ob → Bool
  | .lst ds => nlDs n ds
  | .dk _ kvs => nlDs n (kvs.map (·.2))
  | .dt _ kvs => nlDs n (kvs.map (·.2))
section
variable {F : Fx} {L N : List Addr} {H : Hp}
mutual
theorem Rep.cut : ∀ (d : D) (v : V), nlD L.length d = true → Rep F (L ++ N) H d v → Rep F L H d v
  | .non, _, _, h => h
  | .bl _, _, _, h => h
  | .int _, _, _, h => h
  | .str _, _, _, h => h
  | .ty _, _, _, h => h
  | .cls _, _, _, h => h
  | .ktp _, _, _, h => h
  | .scr _, _, _, h => h
  | .emp, _, _, ⟨a, e, h, n⟩ => ⟨a, e, h, fun z => n (List.mem_append_left _ z)⟩
  | .tup ds, _, q, ⟨a, vs, e, h, r⟩ => ⟨a, vs, e, h, Reps.cut ds vs q r⟩
  | .lst ds, _, q, ⟨a, vs, e, ⟨h, n⟩, r⟩ => ⟨a, vs, e, ⟨h, fun z => n (List.mem_append_left _ z)⟩, Reps.cut ds vs q r⟩
  | .loc k, _, q, ⟨a, e, h⟩ => ⟨a, e, by
    have lt : k < L.length := of_decide_eq_true q
    rwa [List.getElem?_append_left lt] at h⟩
  | .clo f c q σd is ds, _, z, ⟨h1, vs, h2, h3⟩ => ⟨h1, vs, h2, Reps.cut ds vs z h3⟩
  | .exc c fs, _, q, ⟨a, C, dd, e, h1, h2, h3, h4⟩ => by
    refine ⟨a, C, dd, e, h1, h2, fun z => h3 (List.mem_append_left _ z), ?_⟩
    cases dd with
    | none => exact h4
    | some x =>
      obtain ⟨ws, k1, k2, k3⟩ := h4
      exact ⟨ws, k1, fun z => k2 (List.mem_append_left _ z), RepF.cut fs ws q k3⟩
theorem Reps.cut : ∀ (ds : List D) (vs : List V), nlDs L.length ds = true → Reps F (L ++ N) H ds vs → Reps F L H ds vs
  | [], _, _, h => h
  | d :: ds, _, q, ⟨v, r, e, h1, h2⟩ => by
    have q' : (nlD L.length d && nlDs L.length ds) = true := q
    rw [Bool.and_eq_true] at q'
    exact ⟨v, r, e, Rep.cut d v q'.1 h1, Reps.cut ds r q'.2 h2⟩
theorem RepF.cut : ∀ (fs : List (Str × D)) (ws : List (Str × V)), nlF L.length fs = true → RepF F (L ++ N) H fs ws → RepF F L H fs ws
  | [], _, _, h => h
  | (f, d) :: fs, _, q, ⟨v, r, e, h1, h2⟩ => by
    have q' : (nlD L.length d && nlF L.length fs) = true := q
    rw [Bool.and_eq_true] at q'
    exact ⟨v, r, e, Rep.cut d v q'.1 h1, RepF.cut fs r q'.2 h2⟩
end
mutual
theorem Rep.nl : ∀ (d : D) (v : V), Rep F L H d v → nlD L.length d = true
  | .non, _, _ => rfl
  | .bl _, _, _ => rfl
  | .int _, _, _ => rfl
  | .str _, _, _ => rfl
  | .ty _, _, _ => rfl
  | .cls _, _, _ => rfl
  | .ktp _, _, _ => rfl
  | .scr _, _, _ => rfl
  | .emp, _, _ => rfl
  | .tup ds, _, ⟨_, vs, _, _, r⟩ => Reps.nl ds vs r
  | .lst ds, _, ⟨_, vs, _, _, r⟩ => Reps.nl ds vs r
  | .loc k, _, ⟨a, _, h⟩ => decide_eq_true (by
    rcases Nat.lt_or_ge k L.length with z | z
    · exact z
    · rw [List.getElem?_eq_none z] at h
      cases h)
  | .clo f c q σd is ds, _, ⟨_, vs, _, h⟩ => Reps.nl ds vs h
  | .exc c fs, _, ⟨_, _, dd, _, _, _, _, h4⟩ => by
    cases dd with
    | none =>
      have e : fs = [] := h4
      rw [e]
      rfl
    | some x =>
      obtain ⟨ws, _, _, k3⟩ := h4
      exact RepF.nl fs ws k3
theorem Reps.nl : ∀ (ds : List D) (vs : List V), Reps F L H ds vs → nlDs L.length ds = true
  | [], _, _ => rfl
  | d :: ds, _, ⟨v, r, _, h1, h2⟩ => by
    show (nlD L.length d && nlDs L.length ds) = true
    rw [Rep.nl d v h1, Reps.nl ds r h2]
    rfl
theorem RepF.nl : ∀ (fs : List (Str × D)) (ws : List (Str × V)), RepF F L H fs ws → nlF L.length fs = true
  | [], _, _ => rfl
  | (f, d) :: fs, _, ⟨v, r, _, h1, h2⟩ => by
    show (nlD L.length d && nlF L.length fs) = true
    rw [Rep.nl d v h1, RepF.nl fs r h2]
    rfl
end
theorem RepP.cut {κ : Type} : ∀ (kvs : List (κ × D)) (vs : List (κ × V)), nlDs L.length (kvs.map (·.2)) = true → RepP F (L ++ N) H kvs vs → RepP F L H kvs vs
  | [], _, _, h => h
  | (k, d) :: kvs, _, q, ⟨v, r, e, h1, h2⟩ => by
    have q' : (nlD L.length d && nlDs L.length (kvs.map (·.2))) = true := q
    rw [Bool.and_eq_true] at q'
    exact ⟨v, r, e, Rep.cut d v q'.1 h1, RepP.cut kvs r q'.2 h2⟩
theorem RepP.nl {κ : Type} : ∀ (kvs : List (κ × D)) (vs : List (κ × V)), RepP F L H kvs vs → nlDs L.length (kvs.map (·.2)) = true
  | [], _, _ => rfl
  | (k, d) :: kvs, _, ⟨v, r, _, h1, h2⟩ => by
    show (nlD L.length d && nlDs L.length (kvs.map (·.2))) = true
    rw [Rep.nl d v h1, RepP.nl kvs r h2]
    rfl
/-- behind the call the first lists are as before, or know none of the later ones -/
def CutOk (M M' : Store) : Prop := M.length ≤ M'.length ∧ ∀ (n : Nat) (ob : Ob), n < M.length → M'[n]? = some ob → M[n]? = some ob ∨ nlOb M.length ob = true
/-- a told value: none of the later lists, or one of these, as it is now -/
def cutD (n : Nat) (M' : Store) : D → Option D
  | .loc k => if k < n then some (.loc k) else match M'[k]? with
    | some (.lst ds) => if nlDs n ds = true then some (.lst ds) else none
    | _ => none
  | d => if nlD n d = true then some d else none
open Classical in
noncomputable def cutR (M : Store) : RE → RE
  | some (.val d, M') => if CutOk M M' then (match cutD M.length M' d with
    | some d' => some (.val d', M'.take M.length)
    | _ => none) else none
  | some (.exc c fs, M') => if CutOk M M' ∧ nlF M.length fs = true then some (.exc c fs, M'.take M.length) else none
  | _ => none
noncomputable def cutF (den : DenF) : DenF := fun ds M => cutR M (den ds M)
theorem SM.cut {M M' : Store} {L0 : List Addr} {H0 : Hp} (m0 : SM F L H0 M) (m : SM F (L ++ N) H M') (c : CutOk M M') : SM F L H (M'.take M.length) := by
  have hl := m0.len
  refine ⟨?_, (List.nodup_append.mp m.nd).1, fun n a ob h1 h2 => ?_, m.tbs⟩
  · rw [List.length_take, hl]
    exact (Nat.min_eq_left c.1).symm
  · have lt : n < L.length := by
      rcases Nat.lt_or_ge n L.length with z | z
      · exact z
      · rw [List.getElem?_eq_none z] at h1
        cases h1
    have h1' : (L ++ N)[n]? = some a := by rw [List.getElem?_append_left lt]; exact h1
    have h2' : M'[n]? = some ob := by
      rw [List.getElem?_take] at h2
      split at h2
      · exact h2
      · cases h2
    have r := m.obs n a ob h1' h2'
    have q : nlOb L.length ob = true := by
      rcases c.2 n ob (by rw [← hl]; exact lt) h2' with z | z
      · have r0 := m0.obs n a ob h1 z
        cases ob with
        | lst ds =>
          obtain ⟨vs, _, k⟩ := r0
          exact Reps.nl ds vs k
        | dk l ds =>
          obtain ⟨vs, _, k⟩ := r0
          exact RepP.nl ds vs k
        | dt l ds =>
          obtain ⟨vs, _, k⟩ := r0
          exact RepP.nl ds vs k
      · rw [hl]
        exact z
    cases ob with
    | lst ds =>
      obtain ⟨vs, k1, k2⟩ := r
      exact ⟨vs, k1, Reps.cut ds vs q k2⟩
    | dk l ds =>
      obtain ⟨vs, k1, k2⟩ := r
      exact ⟨vs, k1, RepP.cut ds vs q k2⟩
    | dt l ds =>
      obtain ⟨vs, k1, k2⟩ := r
      exact ⟨vs, k1, RepP.cut ds vs q k2⟩
theorem Rep.cutD {M M' : Store} {d d' : D} {v : V} (hl : L.length = M.length) (m : SM F (L ++ N) H M') (h : cutD M.length M' d = some d') (r : Rep F (L ++ N) H d v) : Rep F L H d' v := by
  have gen : (if nlD M.length d = true then some d else none) = some d' → Rep F L H d' v := fun h => by
    split at h
    · rename_i q
      cases h
      rw [← hl] at q
      exact Rep.cut d v q r
    · cases h
  cases d with
  | loc k =>
    unfold DL.cutD at h
    simp only at h
    split at h
    · rename_i lt
      cases h
      obtain ⟨a, e, z⟩ := r
      rw [← hl] at lt
      rw [List.getElem?_append_left lt] at z
      exact ⟨a, e, z⟩
    · rename_i ge
      split at h
      · rename_i ds hm
        split at h
        · rename_i q
          cases h
          obtain ⟨a, e, z⟩ := r
          obtain ⟨vs, k1, k2⟩ := m.obs k a _ z hm
          rw [← hl] at q ge
          refine ⟨a, vs, e, ⟨k1, fun ha => ?_⟩, Reps.cut ds vs q k2⟩
          rw [List.getElem?_append_right (by omega)] at z
          exact (List.nodup_append.mp m.nd).2.2 a ha a (List.mem_of_getElem? z) rfl
        · cases h
      · cases h
  | non => exact gen h
  | bl b => exact gen h
  | int i => exact gen h
  | str x => exact gen h
  | tup es => exact gen h
  | lst es => exact gen h
  | scr ns => exact gen h
  | emp => exact gen h
  | exc c fs => exact gen h
  | ty n => exact gen h
  | cls n => exact gen h
  | clo f c q σd is ds => exact gen h
  | ktp ns => exact gen h
theorem ExR.cut {c : String} {fs : List (Str × D)} {cls : Value} {dd : Option Addr} (q : nlF L.length fs = true) (h : ExR F (L ++ N) H c fs cls dd) : ExR F L H c fs cls dd := by
  obtain ⟨C, h1, h2, h3⟩ := h
  refine ⟨C, h1, h2, ?_⟩
  cases dd with
  | none => exact h3
  | some x =>
    obtain ⟨ws, k1, k2, k3⟩ := h3
    exact ⟨ws, k1, fun z => k2 (List.mem_append_left _ z), RepF.cut fs ws q k3⟩
theorem Stp.cut {L1 : List Addr} {H1 : Hp} (s : Stp L H L1 H1) : Stp L H L H1 := ⟨s.ext, ⟨[], (List.append_nil L).symm, fun x hx => absurd hx (by simp)⟩, s.dom, s.frz⟩
theorem FnD.cut {P : Program} {w : World} {mg : Str → Option Value} {base : Heap} {k : Nat} {f : Addr} {fd : FuncData} {ps : List Str} {den : DenF} (h : FnD P w F mg base k f fd ps den) : FnD P w F mg base k f fd ps (cutF den) := by
  refine ⟨fun A outer s H args us vs Q E hr hg e0 hb hv hl sp => h.run A outer s H args us vs Q E hr hg e0 hb hv hl ?_⟩
  obtain ⟨L, M, ds, m, r, p⟩ := sp
  refine ⟨L, M, ds, m, r, ?_⟩
  unfold cutF cutR at p
  cases hd : den ds M with
  | none => rw [hd] at p; exact p
  | some y =>
    rw [hd] at p
    obtain ⟨o, M'⟩ := y
    cases o with
    | val d =>
      intro L' H' v s1 m1 rv
      obtain ⟨N, e, _⟩ := s1.new
      subst e
      simp only at p
      split at p
      · rename_i c
        split at p
        · rename_i d' hd'
          exact p L H' v s1.cut (SM.cut (L0 := L) m m1 c) (Rep.cutD m.len m1 hd' rv)
        · exact False.elim p
      · exact False.elim p
    | exc c fs =>
      intro L' H' cls dd s1 m1 rx
      obtain ⟨N, e, _⟩ := s1.new
      subst e
      simp only at p
      split at p
      · rename_i c
        exact p L H' cls dd s1.cut (SM.cut (L0 := L) m m1 c.1) (ExR.cut (by rw [m.len]; exact c.2) rx)
      · exact False.elim p
end
theorem cutOk_app {M M1 X : Store} (hl : M1.length = M.length) (h : ∀ (n : Nat) (ob : Ob), n < M.length → M1[n]? = some ob → M[n]? = some ob ∨ nlOb M.length ob = true) : CutOk M (M1 ++ X) := by
  refine ⟨by rw [List.length_append]; omega, fun n ob lt e => ?_⟩
  rw [List.getElem?_append_left (by omega)] at e
  exact h n ob lt e
theorem cut_val {den : DenF} {ds : List D} {d d' : D} {M X : Store} (h : den ds M = ok d (M ++ X)) (hd : cutD M.length (M ++ X) d = some d') : cutF den ds M = ok d' M := by
  unfold cutF
  rw [h]
  show cutR M (some (.val d, M ++ X)) = _
  unfold cutR
  simp only
  rw [if_pos (cutOk_app rfl fun n ob _ e => .inl e), hd]
  show some (Out.val d', (M ++ X).take M.length) = _
  rw [List.take_left']
  · rfl
  · rfl
theorem cut_exc {den : DenF} {ds : List D} {c : String} {fs : List (Str × D)} {M X : Store} (h : den ds M = some (.exc c fs, M ++ X)) (hf : nlF M.length fs = true) : cutF den ds M = some (.exc c fs, M) := by
  unfold cutF
  rw [h]
  unfold cutR
  simp only
  rw [if_pos ⟨cutOk_app rfl fun n ob _ e => .inl e, hf⟩, List.take_left']
  rfl
/-- the first lists changed, too -/
theorem cut_val2 {den : DenF} {ds : List D} {d d' : D} {M M1 X : Store} (h : den ds M = ok d (M1 ++ X)) (hl : M1.length = M.length) (hc : ∀ (n : Nat) (ob : Ob), n < M.length → M1[n]? = some ob → M[n]? = some ob ∨ nlOb M.length ob = true) (hd : cutD M.length (M1 ++ X) d = some d') : cutF den ds M = ok d' M1 := by
  unfold cutF
  rw [h]
  show cutR M (some (.val d, M1 ++ X)) = _
  unfold cutR
  simp only
  rw [if_pos (cutOk_app hl hc), hd]
  show some (Out.val d', (M1 ++ X).take M.length) = _
  rw [List.take_left']
  · rfl
  · exact hl
end DL
namespace DL
open PySem L2
section
variable {F : Fx} {X : Cx} {W : WX} {L L1 : List Addr} {H H1 : Hp} {M : Store} {e : DL.Env} {σ : L2.St} {T : Ends} {k : Nat}
/-- a tuple or a list -/
def iSq (K : PySem.W.Frag) (tl : TE) : TI := fun σ H R => tl σ H fun x H1 => ∃ a, x = .ref a ∧ (((∃ xs, SqL K H1 a xs) ∧ R (Itl K a) H1) ∨ ((∃ xs, SqT K H1 a xs) ∧ R (Itt K a) H1))
theorem pi_sq {tg l : Expr} {tl : TE} (hl : PE X l tl) : PI X tg l (iSq X.K tl) := by
  refine ⟨fun pns s σ H R I h => ?_⟩
  refine thn (hl.run pns s σ H _ I h) fun v s1 hh => ?_
  obtain ⟨x, H2, I1, r1, a, ex, q⟩ := hh
  subst ex
  cases r1
  rcases q with ⟨⟨xs, hq⟩, q⟩ | ⟨⟨xs, hq⟩, q⟩
  · obtain ⟨its, rv, p, hz⟩ := I1.list hq
    apply wpAny_pyIter_list p.isList
    refine ⟨s1.heap.objs.size, [s1.heap.objs.size], _, _, H2, rfl, I1.kept (t' := s1.toks) fun b o z => Heap.get?_push_of_some _ z, turn_list a _, ⟨_, Heap.get?_push_size _ rfl, rfl, rfl⟩, fun b hb => ?_, q⟩
    obtain rfl : b = s1.heap.objs.size := by simpa using hb
    exact I1.fpOk Nat.le.refl (I1.hok.fresh Nat.le.refl)
  · obtain ⟨its, rv, p, hz⟩ := I1.tuple hq
    have pt : s1.heap.IsTuple a its.toArray := p
    apply wpAny_pyIter_tuple pt
    refine ⟨s1.heap.objs.size, [s1.heap.objs.size], _, _, H2, rfl, I1.kept (t' := s1.toks) fun b o z => Heap.get?_push_of_some _ z, turn_tuple a _, ⟨_, Heap.get?_push_size _ rfl, rfl, rfl⟩, fun b hb => ?_, q⟩
    obtain rfl : b = s1.heap.objs.size := by simpa using hb
    exact I1.fpOk Nat.le.refl (I1.hok.fresh Nat.le.refl)
/-- the iterator J goes through ds, as long as the store is as chk asks -/
structure Walk (F : Fx) (L1 : List Addr) (H1 : Hp) (J : It) (ds : List D) (chk : Store → Prop) : Prop where
  stop : ∀ (L' : List Addr) (H' : Hp) (M' : Store), Stp L1 H1 L' H' → SM F L' H' M' → chk M' → J.stop ds.length H'
  step : ∀ (i : Nat) (d : D), ds[i]? = some d → ∀ (L' : List Addr) (H' : Hp) (M' : Store), Stp L1 H1 L' H' → SM F L' H' M' → chk M' → J.go i H' ∧ ∀ (x : V) (H'' : Hp), J.yld i H' x H'' → Stp L' H' L' H'' ∧ SM F L' H'' M' ∧ Rep F L' H'' d x
abbrev DItems := List D × (Store → Prop)
abbrev DenI := DL.Env → Store → RD DItems
def DI (F : Fx) (X : Cx) (W : WX) (tg it : Expr) (den : DenI) : Prop :=
  ∃ wi, PI X tg it wi ∧ ∀ (e : DL.Env) (M : Store) (L : List Addr) (σ : L2.St) (H : Hp) (R : It → Hp → Prop), SR F L H M e σ → PostG F (fun L' H' (p : DItems) (J : It) => Walk F L' H' J p.1 p.2) e L H σ W R (den e M) → wi σ H R
/-- the items of what is gone through -/
def itemsF (d : D) (M : Store) : RD DItems := match d with
  | .tup ds => ok (ds, fun _ => True) M
  | .lst ds => ok (ds, fun _ => True) M
  | .scr ns => ok (ns.map D.int, fun _ => True) M
  | .ktp ns => ok (ns.map D.int, fun _ => True) M
  | .loc n => match M[n]? with
    | some (.lst ds) => ok (ds, fun M' => M'[n]? = some (.lst ds)) M
    | _ => none
  | _ => none
def itD (da : DenE) : DenI := fun e M => bindE (da e M) itemsF
theorem walk_at {a : Addr} {vs : List V} {ds : List D} {chk : Store → Prop} (m : SM F L H M) (r : Reps F L H ds vs) (h : ∀ (L' : List Addr) (H' : Hp) (M' : Store), Stp L H L' H' → SM F L' H' M' → chk M' → ∃ ws, SqL F.K H' a ws ∧ Reps F L' H' ds ws) : Walk F L H (Itl F.K a) ds chk := by
  refine ⟨fun L' H' M' s m' c => ?_, fun i d hd L' H' M' s m' c => ?_⟩
  · obtain ⟨ws, q, rr⟩ := h L' H' M' s m' c
    exact ⟨ws, q, Nat.le_of_eq (reps_len rr).symm⟩
  · obtain ⟨ws, q, rr⟩ := h L' H' M' s m' c
    obtain ⟨y, h1, h2⟩ := reps_get rr hd
    refine ⟨⟨ws, y, q, h1⟩, fun x H'' hy => ?_⟩
    obtain ⟨rfl, z⟩ := hy
    have e := z ws q
    rw [h1] at e
    cases e
    exact ⟨Stp.refl _ _, m', h2⟩
theorem walk_tup {a : Addr} {vs : List V} {ds : List D} {chk : Store → Prop} (m : SM F L H M) (q0 : SqT F.K H a vs) (r : Reps F L H ds vs) : Walk F L H (Itt F.K a) ds chk := by
  refine ⟨fun L' H' M' s m' c => ?_, fun i d hd L' H' M' s m' c => ?_⟩
  · exact ⟨vs, sqt_stay m s q0, Nat.le_of_eq (reps_len r).symm⟩
  · obtain ⟨y, h1, h2⟩ := reps_get r hd
    refine ⟨⟨vs, y, sqt_stay m s q0, h1⟩, fun x H'' hy => ?_⟩
    obtain ⟨rfl, z⟩ := hy
    have e := z vs (sqt_stay m s q0)
    rw [h1] at e
    cases e
    exact ⟨Stp.refl _ _, m', Rep.stay m s _ _ h2⟩
theorem di_sq {tg l : Expr} {da : DenE} (ha : DE F X W l da) (hK : X.K = F.K := by rfl) : DI F X W tg l (itD da) := by
  obtain ⟨t, p, q⟩ := ha
  refine ⟨_, pi_sq p, fun e M L σ H R sr pp => q e M L σ H _ sr (PostG.bind (fun d M1 L1 H1 v s1 r1 rv p2 => ?_) pp)⟩
  rw [hK]
  cases d with
  | tup ds =>
    obtain ⟨a, vs, rfl, a2, a3⟩ := rv
    have a2 := (Or.inl (Or.inl a2) : SqT F.K H1 a vs)
    exact ⟨a, rfl, .inr ⟨⟨vs, a2⟩, p2.ok r1 (walk_tup r1.m a2 a3)⟩⟩
  | lst ds =>
    obtain ⟨a, vs, rfl, a2, a3⟩ := rv
    refine ⟨a, rfl, .inl ⟨⟨vs, (LstAt.sq (L := L1) (.inl a2))⟩, p2.ok r1 (walk_at r1.m a3 fun L' H' M' s m' _ => ⟨vs, (LstAt.stay r1.m s (.inl a2)).sq, Reps.stay r1.m s _ _ a3⟩)⟩⟩
  | scr ns =>
    obtain ⟨a, rfl, a2⟩ := rv
    have a3 : LstAt F.K L1 H1 a (ns.map V.int) := .inr a2
    exact ⟨a, rfl, .inl ⟨⟨_, a3.sq⟩, p2.ok r1 (walk_at r1.m (reps_ints ns) fun L' H' M' s m' _ => ⟨_, (LstAt.stay r1.m s a3).sq, reps_ints ns⟩)⟩⟩
  | loc n =>
    obtain ⟨a, rfl, a2⟩ := rv
    unfold itemsF at p2
    simp only at p2
    split at p2
    · rename_i ds hm
      obtain ⟨vs, k1, k2⟩ := r1.m.obs n a _ a2 hm
      refine ⟨a, rfl, .inl ⟨⟨vs, .inl (.inl k1)⟩, p2.ok r1 (walk_at r1.m k2 fun L' H' M' s m' c => ?_)⟩⟩
      obtain ⟨ws, j1, j2⟩ := m'.obs n a _ (s.get a2) c
      exact ⟨ws, .inl (.inl j1), j2⟩
    · exact False.elim p2
  | non => exact False.elim p2
  | bl b => exact False.elim p2
  | int i => exact False.elim p2
  | str x => exact False.elim p2
  | emp => exact False.elim p2
  | exc c fs => exact False.elim p2
  | ty n => exact False.elim p2
  | cls n => exact False.elim p2
  | clo f c q σd is ds => exact False.elim p2
  | ktp ns =>
    obtain ⟨a, rfl, a2⟩ := rv
    have a3 : SqT F.K H1 a (ns.map V.int) := .inr a2
    exact ⟨a, rfl, .inr ⟨⟨_, a3⟩, p2.ok r1 (walk_tup r1.m a3 (reps_ints ns))⟩⟩
end
end DL
namespace DL
open PySem L2
section
variable {F : Fx} {X : Cx} {W : WX} {L L1 : List Addr} {H H1 : Hp} {M : Store} {e : DL.Env} {σ : L2.St} {T : Ends} {k : Nat}
noncomputable def cutE (da : DenE) : DenE := fun e M => cutR M (da e M)
theorem SR.cut {M' : Store} {N : List Addr} (sr : SR F L H M e σ) (s : Stp L H (L ++ N) H1) (m : SM F (L ++ N) H1 M') (c : CutOk M M') : SR F L H1 (M'.take M.length) e σ :=
  sr.stay s.cut (SM.cut (L0 := L) sr.m m c)
theorem post_cut {Q : VK} {r : RE} (sr : SR F L H M e σ) (pp : Post F e L H σ W Q (cutR M r)) : Post F e L H σ W Q r := by
  unfold cutR at pp
  cases hd : r with
  | none => rw [hd] at pp; exact pp
  | some y =>
    rw [hd] at pp
    obtain ⟨o, M'⟩ := y
    cases o with
    | val d =>
      intro L' H' v s1 r1 rv
      obtain ⟨N, e1, _⟩ := s1.new
      subst e1
      simp only at pp
      split at pp
      · rename_i c
        split at pp
        · rename_i d' hd'
          exact pp L H' v s1.cut (SR.cut sr s1 r1.m c) (Rep.cutD sr.m.len r1.m hd' rv)
        · exact False.elim pp
      · exact False.elim pp
    | exc c fs =>
      intro L' H' cls dd s1 r1 rx
      obtain ⟨N, e1, _⟩ := s1.new
      subst e1
      simp only at pp
      split at pp
      · rename_i c
        exact pp L H' cls dd s1.cut (SR.cut sr s1 r1.m c.1) (ExR.cut (by rw [sr.m.len]; exact c.2) rx)
      · exact False.elim pp
theorem de_cut {x : Expr} {da : DenE} (ha : DE F X W x da) : DE F X W x (cutE da) := by
  obtain ⟨t, p, q⟩ := ha
  exact ⟨t, p, fun e M L σ H Q sr pp => q e M L σ H Q sr (post_cut sr pp)⟩
theorem cutE_val {da : DenE} {d d' : D} {M X : Store} (h : da e M = ok d (M ++ X)) (hd : cutD M.length (M ++ X) d = some d') : cutE da e M = ok d' M := cut_val (den := fun _ M => da e M) (ds := []) h hd
def canE (F : Fx) (W : WX) (da : DenE) : TE := fun σ H Q => ∃ (e : DL.Env) (M : Store) (L : List Addr), SR F L H M e σ ∧ Post F e L H σ W Q (da e M)
def canT (F : Fx) (W : WX) (da : DenE) : TT := fun σ H Q => ∃ (e : DL.Env) (M : Store) (L : List Addr), SR F L H M e σ ∧ Post F e L H σ W (fun v H' => ∃ b, v = .bl b ∧ Q b H') (da e M)
theorem DE.can {x : Expr} {da : DenE} (h : DE F X W x da) : PE X x (canE F W da) := by
  obtain ⟨t, p, q⟩ := h
  exact ⟨fun pins s σ H Q I hh => by
    obtain ⟨e, M, L, sr, pp⟩ := hh
    exact p.run pins s σ H Q I (q e M L σ H Q sr pp)⟩
theorem DT.can {x : Expr} {da : DenE} (h : DT F X W x da) : PT X x (canT F W da) := by
  obtain ⟨t, p, q⟩ := h
  exact ⟨fun pins s σ H Q I hh => by
    obtain ⟨e, M, L, sr, pp⟩ := hh
    exact p.run pins s σ H Q I (q e M L σ H Q sr pp)⟩
def wipeE (e : DL.Env) : List Nat → DL.Env
  | [] => e
  | v :: vs => (wipeE e vs).set v none
theorem wipeE_len (e : DL.Env) : ∀ vs : List Nat, (wipeE e vs).length = e.length
  | [] => rfl
  | v :: vs => by unfold wipeE; rw [List.length_set, wipeE_len e vs]
theorem EnvR.wipe (h : EnvR F L H e σ) : ∀ vs : List Nat, EnvR F L H (wipeE e vs) (wipe σ vs)
  | [] => h
  | v :: vs => fun i d q => by
    have ih := EnvR.wipe h vs
    unfold wipeE at q
    by_cases hi : v = i
    · subst hi
      by_cases lt : v < (wipeE e vs).length
      · rw [List.getElem?_set_self lt] at q
        cases q
      · rw [List.getElem?_eq_none (by simpa using lt)] at q
        cases q
    · rw [List.getElem?_set_ne hi] at q
      obtain ⟨v', a, b⟩ := ih i d q
      refine ⟨v', ?_, b⟩
      unfold L2.wipe
      rw [List.getElem?_set_ne hi]
      exact a
theorem SR.wipe (sr : SR F L H M e σ) (vs : List Nat) : SR F L H M (wipeE e vs) (L2.wipe σ vs) := ⟨by rw [L2.wipe_length, wipeE_len]; exact sr.l, sr.m, EnvR.wipe sr.e vs⟩
theorem wipe_set {σ : L2.St} {i : Nat} {x : Option V} : ∀ {vs : List Nat}, i ∈ vs → L2.wipe (σ.set i x) vs = L2.wipe σ vs
  | [], h => absurd h (by simp)
  | v :: vs, h => by
    unfold L2.wipe
    by_cases hv : i ∈ vs
    · rw [wipe_set hv]
    · have e : i = v := by
        rcases (List.mem_cons.mp h) with z | z
        · exact z
        · exact absurd z hv
      subst e
      have key : ∀ (us : List Nat), i ∉ us → L2.wipe (σ.set i x) us = (L2.wipe σ us).set i x := by
        intro us
        induction us with
        | nil => intro _; rfl
        | cons u us ih =>
          intro hu
          unfold L2.wipe
          rw [ih fun z => hu (List.mem_cons_of_mem _ z), List.set_comm]
          intro z
          exact hu (by rw [z]; exact List.mem_cons_self)
      rw [key vs hv, List.set_set]
end
end DL
namespace DL
open PySem L2
/-- what raises is nothing here -/
def bindV {α β : Type} (r : RD α) (f : α → Store → RD β) : RD β := match r with
  | some (.val d, M) => f d M
  | _ => none
open Classical in
noncomputable def compL (chk : Store → Prop) (set : D → DL.Env → Option DL.Env) (dt de : DenE) (e0 : DL.Env) (n0 : Nat) : List D → Store → RD Unit
  | [], M => if chk M then ok () M else none
  | d :: ds, M => if chk M then (match set d e0 with
    | some e1 => bindV (dt e1 M) fun b M2 => (match b with
      | .bl true => bindV (de e1 M2) fun y M3 => (match M3[n0]? with
        | some (.lst acc) => if acc.length < 100000 then compL chk set dt de e0 n0 ds (M3.set n0 (.lst (acc ++ [y]))) else none
        | _ => none)
      | .bl false => compL chk set dt de e0 n0 ds M2
      | _ => none)
    | none => none) else none
noncomputable def compD (set : D → DL.Env → Option DL.Env) (dt de : DenE) (vs : List Nat) (di : DenI) : DenE := fun e M => bindE (di e M) fun p M1 => bindE (compL p.2 set dt de (wipeE e vs) M1.length p.1 (M1 ++ [.lst []])) fun _ M2 => ok (.loc M1.length) M2
section
variable {F : Fx} {X : Cx} {W : WX} {L L1 : List Addr} {H H1 : Hp} {M : Store} {e : DL.Env} {σ : L2.St} {T : Ends} {k : Nat}
def TgOk (F : Fx) (vs : List Nat) (g : TG) (set : D → DL.Env → Option DL.Env) : Prop :=
  ∀ (d : D) (v : V) (e e' : DL.Env) (L : List Addr) (H : Hp) (M : Store) (σ : L2.St) (Q : L2.St → Hp → Prop), SR F L H M e σ → Rep F L H d v → set d e = some e' → (∀ σ', SR F L H M e' σ' → L2.wipe σ' vs = L2.wipe σ vs → Q σ' H) → g v σ H Q
def set1 (i : Nat) : D → DL.Env → Option DL.Env := fun d e => some (e.set i (some d))
def set2 (i j : Nat) : D → DL.Env → Option DL.Env := fun d e => match d with
  | .tup [a, b] => some ((e.set i (some a)).set j (some b))
  | _ => none
theorem tg1 {i : Nat} {vs : List Nat} (hi : i ∈ vs) : TgOk F vs (gName i) (set1 i) := fun d v e e' L H M σ Q sr rv hs q => by
  cases hs
  exact q _ (sr.set i rv) (wipe_set hi)
theorem wipe_none {τ : L2.St} : ∀ us : List Nat, (∀ u ∈ us, ∀ x, τ[u]? ≠ some (some x)) → L2.wipe τ us = τ
  | [], _ => rfl
  | u :: us, h => by
    unfold L2.wipe
    rw [wipe_none us fun v hv => h v (List.mem_cons_of_mem _ hv)]
    have hu := h u List.mem_cons_self
    apply List.ext_getElem?
    intro j
    by_cases hj : u = j
    · subst hj
      by_cases lt : u < τ.length
      · rw [List.getElem?_set_self lt]
        cases q : τ[u]? with
        | none =>
          rw [List.getElem?_eq_none_iff] at q
          omega
        | some y =>
          cases y with
          | none => rfl
          | some x => exact absurd q (hu x)
      · rw [List.getElem?_eq_none (by rw [List.length_set]; omega), List.getElem?_eq_none (by omega)]
    · rw [List.getElem?_set_ne hj]
theorem wipe_idem (σ : L2.St) (vs : List Nat) : L2.wipe (L2.wipe σ vs) vs = L2.wipe σ vs := wipe_none vs fun u hu x q => (L2.wipe_some q).2 hu
abbrev W0 : WX := fun _ _ _ _ => False
theorem pts_yes : PTs X [] (canT F W0 (cD (.bl true))) := ⟨fun pins s σ H Q I h => by
  obtain ⟨e, M, L, sr, p⟩ := h
  obtain ⟨b, eb, q⟩ := p.ok (v := .bl true) sr (show Rep F L H (.bl true) (.bl true) from rfl)
  cases eb
  exact pts_nil.run pins s σ H Q I q⟩
abbrev BX (X : Cx) (scope : Scope) (s : Shared) (H : Hp) (C : Addr) (cl : List (Str × Addr)) (fp : List Addr) : Cx := X.blk s H scope (compEnvC scope cl C X.env) fp
theorem Dc.blk {scope : Scope} {s : Shared} {C : Addr} {cl : List (Str × Addr)} {fp : List Addr} (d : Dc X W k) : Dc (BX X scope s H C cl fp) W0 k := ⟨LamX.takes0, d.room, d.calm, d.gd, PassesOwn.never⟩
theorem comp_t {wi : TI} {di : DenI} {g : TG} {vs : List Nat} {set : D → DL.Env → Option DL.Env} {dt de : DenE}
    (qi : ∀ (e : DL.Env) (M : Store) (L : List Addr) (σ : L2.St) (H : Hp) (R : It → Hp → Prop), SR F L H M e σ → PostG F (fun L' H' (p : DItems) (J : It) => Walk F L' H' J p.1 p.2) e L H σ W R (di e M) → wi σ H R) (hgo : TgOk F vs g set) :
    ∀ (e : DL.Env) (M : Store) (L : List Addr) (σ : L2.St) (H : Hp) (Q : VK), SR F L H M e σ → Post F e L H σ W Q (compD set dt de vs di e M) → tLc wi g (canT F W0 dt) (canE F W0 de) vs σ H Q := by
  refine fun e M L σ H Q sr pp => qi e M L σ H _ sr (PostG.bind (fun p M1 L1 H1 J s1 r1 w p2 => ?_) pp)
  intro A hA
  obtain ⟨mo, so⟩ := SM.own (F := F) (p := A) (ds := []) (vs := []) r1.m hA rfl
  have hn0 : (L1 ++ [A])[M1.length]? = some A := by
    rw [← r1.m.len, List.getElem?_append_right (Nat.le_refl _), Nat.sub_self]
    rfl
  let Inv' : Nat → Hp → Prop := fun i Hc => i ≤ p.1.length ∧ ∃ (L' : List Addr) (M' : Store), Stp (L1 ++ [A]) (upd H1 A (.lst [])) L' Hc ∧ SM F L' Hc M' ∧
    Post F e L' Hc σ W Q (bindE (compL p.2 set dt de (wipeE e vs) M1.length (p.1.drop i) M') fun _ M2 => ok (.loc M1.length) M2)
  refine ⟨fun i m Hc => m = p.1.length - i ∧ Inv' i Hc, ⟨_, rfl, Nat.zero_le _, _, _, Stp.refl _ _, mo, ?_⟩, ?_⟩
  · exact PostG.go so p2
  rintro i m Hc ⟨rfl, hi, L', M', s', m', pr⟩
  have s1' : Stp L1 H1 L' Hc := so.trans s'
  by_cases hlt : i < p.1.length
  · right
    have hd : p.1[i]? = some p.1[i] := List.getElem?_eq_getElem hlt
    rw [drop_cons hd] at pr
    unfold compL at pr
    split at pr
    · rename_i hc
      obtain ⟨hgo1, hy⟩ := w.step i _ hd L' Hc M' s1' m' hc
      refine ⟨hgo1, fun Hn => Inv' (i + 1) Hn, fun H' q => ⟨_, by omega, rfl, q⟩, fun x H' y => ?_⟩
      obtain ⟨sx, mx, rx⟩ := hy x H' y
      split at pr
      · rename_i e1 he1
        have srx : SR F L' H' M' e σ := r1.stay (s1'.trans sx) mx
        refine hgo _ x _ e1 L' H' M' _ _ (srx.wipe vs) rx he1 fun σ2 sr2 hw => ⟨hw.trans (wipe_idem σ vs), e1, M', L', sr2, ?_⟩
        cases hdt : dt e1 M' with
        | none => rw [hdt] at pr; exact False.elim pr
        | some yt =>
          rw [hdt] at pr
          obtain ⟨ot, M2⟩ := yt
          cases ot with
          | exc c fs => exact False.elim pr
          | val b =>
            intro L2 H2 vb sb rb rvb
            have pr2 : Post F e L' Hc σ W Q (bindE (match b with
              | .bl true => bindV (de e1 M2) fun y M3 => (match M3[M1.length]? with
                | some (.lst acc) => if acc.length < 100000 then compL p.2 set dt de (wipeE e vs) M1.length (p.1.drop (i + 1)) (M3.set M1.length (.lst (acc ++ [y]))) else none
                | _ => none)
              | .bl false => compL p.2 set dt de (wipeE e vs) M1.length (p.1.drop (i + 1)) M2
              | _ => none) fun _ M2 => ok (.loc M1.length) M2) := pr
            cases b with
            | bl bb =>
              cases bb with
              | false =>
                refine ⟨false, rvb, ?_⟩
                simp only [if_neg (fun z : false = true => Bool.noConfusion z)]
                exact ⟨hlt, L2, M2, (s'.trans sx).trans sb, rb.m, PostG.go (sx.trans sb) pr2⟩
              | true =>
                refine ⟨true, rvb, ?_⟩
                simp only [if_true]
                refine ⟨e1, M2, L2, rb, ?_⟩
                cases hde : de e1 M2 with
                | none => simp only [hde, bindV] at pr2; exact False.elim pr2
                | some ye =>
                  obtain ⟨oe, M3⟩ := ye
                  cases oe with
                  | exc c fs => simp only [hde, bindV] at pr2; exact False.elim pr2
                  | val y =>
                    simp only [hde, bindV] at pr2
                    intro L3 H3 vy sy ry rvy
                    have hA3 : L3[M1.length]? = some A := sy.get (sb.get (sx.get (s'.get hn0)))
                    split at pr2
                    · rename_i acc hacc
                      split at pr2
                      · rename_i hlen
                        obtain ⟨va, a1, a2⟩ := ry.m.obs _ A _ hA3 hacc
                        obtain ⟨mp, sp⟩ := SM.put ry.m hA3 a1 (reps_snoc a2 rvy)
                        refine ⟨va, a1, ?_, hlt, L3, _, (((s'.trans sx).trans sb).trans sy).trans sp, mp, PostG.go (((sx.trans sb).trans sy).trans sp) pr2⟩
                        rw [← reps_len a2]
                        exact Nat.lt_trans hlen (by decide)
                      · exact False.elim pr2
                    · exact False.elim pr2
            | non => exact False.elim pr2
            | int i => exact False.elim pr2
            | str x => exact False.elim pr2
            | tup es => exact False.elim pr2
            | lst es => exact False.elim pr2
            | scr ns => exact False.elim pr2
            | emp => exact False.elim pr2
            | loc n => exact False.elim pr2
            | exc c fs => exact False.elim pr2
            | ty n => exact False.elim pr2
            | cls n => exact False.elim pr2
            | clo f c q σd is ds => exact False.elim pr2
            | ktp ns => exact False.elim pr2
      · exact False.elim pr
    · exact False.elim pr
  · left
    have hz : i = p.1.length := by omega
    subst hz
    rw [List.drop_length] at pr
    unfold compL at pr
    split at pr
    · rename_i hc
      exact ⟨w.stop L' Hc M' s1' m' hc, pr L' Hc (.ref A) (Stp.refl _ _) (r1.stay s1' m') ⟨A, rfl, s'.get hn0⟩⟩
    · exact False.elim pr
theorem de_comp {elt tg iter : Expr} {ifs : List Expr} {scope : Scope} {own : List (Str × Nat)} {pos : Pos} {di : DenI} {g : TG} {set : D → DL.Env → Option DL.Env} {dt de : DenE} (d : Dc X W k) (hN : X.N.Nodup) (hi : DI F X W tg iter di) (bo : BlkOk X.N X.env.scope scope own)
    (hg : ∀ (s : Shared) (H : Hp) (C : Addr) (cl : List (Str × Addr)) (fp : List Addr), PG (BX X scope s H C cl fp) tg g) (hgo : TgOk F (own.map (·.2)) g set)
    (ht : ∀ (s : Shared) (H : Hp) (C : Addr) (cl : List (Str × Addr)) (fp : List Addr), Dc (BX X scope s H C cl fp) W0 k → PTs (BX X scope s H C cl fp) ifs (canT F W0 dt))
    (he : ∀ (s : Shared) (H : Hp) (C : Addr) (cl : List (Str × Addr)) (fp : List Addr), Dc (BX X scope s H C cl fp) W0 k → DE F (BX X scope s H C cl fp) W0 elt de) (hs : ∀ x, foldedSetIterable iter X.env x = pure x := by intro _; rfl) :
    DE F X W (.ListComp elt [⟨tg, iter, ifs, 0⟩] scope pos) (compD set dt de (own.map (·.2)) di) := by
  obtain ⟨wi, pi, qi⟩ := hi
  exact ⟨_, pe_lc d.calm hN pi bo hg (fun s H C cl fp => ht s H C cl fp d.blk) (fun s H C cl fp => (he s H C cl fp d.blk).can) hs, comp_t qi hgo⟩
end
end DL
namespace DL
open PySem L2
open Classical in
noncomputable def forIL (g : DenG) (chk : Store → Prop) (body : DenS) : List D → DenS
  | [], e, M => if chk M then some (.nx e, M) else none
  | d :: ds, e, M => if chk M then (match g d e M with
    | some (.nx e1, M1) => (match body e1 M1 with
      | some (.nx e', M') => forIL g chk body ds e' M'
      | some (.ct e', M') => forIL g chk body ds e' M'
      | some (.bk e', M') => some (.nx e', M')
      | r => r)
    | _ => none) else none
noncomputable def forI (g : DenG) (di : DenI) (body : DenS) : DenS := fun e M => thenS (di e M) e fun p M1 => forIL g p.2 body p.1 e M1
section
variable {F : Fx} {X : Cx} {W : WX} {L L1 : List Addr} {H H1 : Hp} {M : Store} {e : DL.Env} {σ : L2.St} {T : Ends} {k : Nat}
theorem ds_forI {tg it : Expr} {body : List Stmt} {di : DenI} {g : DenG} {db : DenS} {pos : Pos} (d : Dc X W k) (hi : DI F X W tg it di) (hg : DG F X W tg g) (hb : DSs F X W body db) (hs : ∀ x, foldedSetIterable it X.env x = pure x := by intro _; rfl) :
    DS F X W (.For tg it body [] pos) (forI g di db) := by
  obtain ⟨wi, pi, qi⟩ := hi
  obtain ⟨tg', pg, qg⟩ := hg
  obtain ⟨tb, pb, qb⟩ := hb
  refine ⟨_, ps_for d.own d.calm pi pg pb hs, fun e M L σ H T sr pp => qi e M L σ H _ sr (post_then (fun p M1 L1 H1 J s1 r1 w q => ?_) pp)⟩
  let In : Nat → L2.St → Hp → Prop := fun i σ' H' => i ≤ p.1.length ∧ ∃ (L' : List Addr) (e' : DL.Env) (M' : Store), Stp L1 H1 L' H' ∧ SR F L' H' M' e' σ' ∧ PostS F L' H' W T (forIL g p.2 db (p.1.drop i) e' M')
  refine ⟨fun i m σ' H' => m = p.1.length - i ∧ In i σ' H', ⟨_, rfl, Nat.zero_le _, L1, e, M1, Stp.refl _ _, r1, q⟩, ?_⟩
  rintro i m σ' H' ⟨rfl, hi, L', e', M', s, r, pr⟩
  by_cases hlt : i < p.1.length
  · right
    have hd : p.1[i]? = some p.1[i] := List.getElem?_eq_getElem hlt
    rw [drop_cons hd] at pr
    unfold forIL at pr
    split at pr
    · rename_i hc
      obtain ⟨hgo, hy⟩ := w.step i _ hd L' H' M' s r.m hc
      refine ⟨hgo, fun σ2 H2 => In (i + 1) σ2 H2, fun σ2 H2 z => ⟨_, by omega, rfl, z⟩, fun x H2 y => ?_⟩
      obtain ⟨sx, mx, rx⟩ := hy x H2 y
      have rr : SR F L' H2 M' e' σ' := r.stay sx mx
      refine qg _ x e' M' L' σ' H2 { T with nx := fun σ2 H2 => tb { T with nx := fun σ2 H2 => In (i + 1) σ2 H2, ct := fun σ2 H2 => In (i + 1) σ2 H2, bk := T.nx } σ2 H2 } rr rx ?_
      revert pr
      cases g p.1[i] e' M' with
      | none => exact False.elim
      | some yg =>
        obtain ⟨fg, Mg⟩ := yg
        cases fg with
        | nx e1 =>
          intro pr L3 H3 σ3 s3 r3
          refine qb e1 Mg L3 σ3 H3 _ r3 ?_
          revert pr
          simp only
          cases db e1 Mg with
          | none => exact False.elim
          | some yb =>
            obtain ⟨fb, Mb⟩ := yb
            cases fb with
            | nx e2 => exact fun pr L4 H4 σ4 s4 r4 => ⟨hlt, L4, e2, Mb, ((s.trans sx).trans s3).trans s4, r4, PostS.go ((sx.trans s3).trans s4) pr⟩
            | ct e2 => exact fun pr L4 H4 σ4 s4 r4 => ⟨hlt, L4, e2, Mb, ((s.trans sx).trans s3).trans s4, r4, PostS.go ((sx.trans s3).trans s4) pr⟩
            | bk e2 => exact fun pr L4 H4 σ4 s4 r4 => pr L4 H4 σ4 ((sx.trans s3).trans s4) r4
            | rt d2 => exact fun pr => PostS.go (T := T) (sx.trans s3) pr
            | ex c fs e2 => exact fun pr => PostS.go (T := T) (sx.trans s3) pr
        | rt d2 => exact False.elim
        | bk e2 => exact False.elim
        | ct e2 => exact False.elim
        | ex c fs e2 => exact False.elim
    · exact False.elim pr
  · left
    have hz : i = p.1.length := by omega
    subst hz
    rw [List.drop_length] at pr
    unfold forIL at pr
    split at pr
    · rename_i hc
      exact ⟨w.stop L' H' M' s r.m hc, pr L' H' σ' (Stp.refl _ _) r⟩
    · exact False.elim pr
theorem walk_rng {lo : Int} {n : Nat} : Walk F L H (Itr lo n) (rngI lo n) (fun _ => True) := by
  refine ⟨fun L' H' M' s m c => by rw [rng_len]; exact Nat.le_refl _, fun i d hd L' H' M' s m c => ?_⟩
  have hi : i < n := by
    have := (List.getElem?_eq_some_iff.mp hd).1
    rwa [rng_len] at this
  refine ⟨hi, fun x H'' y => ?_⟩
  obtain ⟨rfl, rfl⟩ := y
  have e : d = .int (lo + (i : Int)) := by
    unfold rngI at hd
    rw [List.getElem?_map, List.getElem?_range hi] at hd
    exact (Option.some.inj hd).symm
  subst e
  exact ⟨Stp.refl _ _, m, rfl⟩
def rng1 (dr : DenA) : DenI := fun e M => bindE (dr e M) fun ds M1 => match ds with
  | [.int n] => if small62 n = true then ok (rngI 0 n.toNat, fun _ => True) M1 else none
  | _ => none
def rng2 (dr : DenA) : DenI := fun e M => bindE (dr e M) fun ds M1 => match ds with
  | [.int a, .int b] => if small62 a = true ∧ small62 b = true then ok (rngI a (b - a).toNat, fun _ => True) M1 else none
  | _ => none
theorem di_rng1 {tg a : Expr} {da : DenE} {p pos : Pos} (hm : X.mg "range" = none) (ha : DE F X W a da) (hg : Gl X "range" := by rfl) (hse : starEach [a] X.env = [(false, eval a X.env)] := by rfl) (hst : starEach (a :: []) X.env = (false, eval a X.env) :: starEach [] X.env := by rfl) :
    DI F X W tg (.Call (.Name "range" p) [a] [] pos) (rng1 (consA da nilA)) := by
  obtain ⟨t, pa, qa⟩ := da_cons ha da_nil hst
  refine ⟨_, pi_range1 hg hm pa hse, fun e M L σ H R sr pp => qa e M L σ H _ sr (PostG.bind (fun ds M1 L1 H1 vs s1 r1 rv p2 => ?_) pp)⟩
  split at p2
  · rename_i n
    obtain ⟨v, rfl, h1⟩ := reps1 rv
    obtain rfl : v = .int n := h1
    split at p2
    · rename_i hz
      have z : -(2 ^ 62) ≤ n ∧ n < 2 ^ 62 := of_decide_eq_true hz
      exact ⟨n, rfl, z.1, z.2, p2.ok r1 walk_rng⟩
    · exact False.elim p2
  · exact False.elim p2
end
end DL
namespace DL
open PySem L2 PySem.W PySem.Calls PyProof.Rows PySem.HandSPX Builtin Builtin.ObjectAttr
abbrev iniS (y : Str) : Scope := { kind := .function, names := [("self", .local), (y, .local), ("__class__", .free), ("super", .globalImplicit)], isGenerator := false, isCoroutine := false, more := [] }
/-- a built-in base of own errors: its name, its __new__ and __init__, its mro -/
structure EB (B nw ini : String) (tl : List Value) : Prop where
  F : ExcBaseFacts B nw ini tl
  S : KxsFacts B ini
  P : StoreFacts B tl "object.__setattr__" "object"
  ob : tl.contains (.type "object") = true
  ne : tl.isEmpty = false
theorem eb_VE : EB "ValueError" "ValueError.__new__" "ValueError.__init__" [.type "ValueError", .type "Exception", .type "BaseException", .type "object"] := ⟨PySem.F.excBase_ValueError, kxs_ValueError, PySem.F.store_ValueError, by decide +kernel, rfl⟩
/-- own classes ahead of tl -/
def refsB (tl : List Value) : List Value → Bool
  | [] => false
  | .ref c :: r => refsB tl r
  | a :: r => a :: r == tl
theorem refsB_cases {tl : List Value} {a : Value} {r : List Value} (e : refsB tl (a :: r) = true) : (∃ c, a = .ref c ∧ refsB tl r = true) ∨ a :: r = tl := by
  cases a with
  | ref c => exact .inl ⟨c, rfl, e⟩
  | _ => exact .inr (beq_iff_eq.mp e)
theorem refsB_pass {B nw ini : String} {tl : List Value} (b : EB B nw ini tl) (self : Value) : ∀ l : List Value, refsB tl l = true → refuseLoop self "__setattr__" l = pure ()
  | [], e => by cases e
  | a :: r, e => by
    obtain ⟨c, rfl, q⟩ | q := refsB_cases e
    · rw [refuseLoop_ref]
      exact refsB_pass b self r q
    · rw [q]
      exact b.P.passes self
theorem refsB_has {tl : List Value} (X : String) : ∀ l : List Value, refsB tl l = true → l.contains (.type X) = tl.contains (.type X)
  | [], e => by cases e
  | a :: r, e => by
    obtain ⟨c, rfl, q⟩ | q := refsB_cases e
    · rw [List.contains_cons, refsB_has X r q]
      rfl
    · rw [q]
theorem refsB_ne {tl : List Value} : ∀ {l : List Value}, refsB tl l = true → l.isEmpty = false
  | [], e => by cases e
  | _ :: _, _ => rfl
/-- the __init__ of class C: super().__init__(msg); self.f = y -/
structure IniTxt (P : Program) (K : PySem.W.Frag) (C fI : Addr) (f y : Str) : Prop where
  cls : ∃ (B nw ini : String) (tl : List Value), EB B nw ini tl ∧ ∃ nm q N bs bm sn sb ab col dd k0 k1 k2 k3 k5, K.lookup C = some (excClassObj nm q C N bs bm true sn sb ab col dd k0 k1 k2 k3 k5 nw) ∧ (refsB tl bm = true) ∧
    ks_superIn K C C "__init__" = some (some (.builtin ini)) ∧ subIn K (.ref C) (.type B) = some true ∧ excInitIn K C tl nw = true
  sat : findIn K (.ref C) "__setattr__" = some (some (.builtin "object.__setattr__"))
  noF : findIn K (.ref C) f = some none
  ini1 : findIn K (.ref C) "__init__" = some (some (.ref fI))
  tfn : typeIn K (.ref fI) = some (.type "function")
  opq : nsIn K cStatics "thirdparty.any" = some none
  sub : mroIn K C (.ref C) = some true
  fn : ∃ (oc : Value) (od an : Option Addr) (dV kV doc pm ct : Value) (cda cc : Addr) (osl : Array (Option Value)) (qual msg : Str) (pa : Arguments) (p0 p1 p2 p3 p4 p5 q1 q2 q3 q4 : Pos) (j : Nat) (ar : Arg) (vs : Array Value) (file : Str) (tf : Tok) (ccl cl : Value) (cdd cld : Option Addr) (ccs csl : Array (Option Value)),
    K.lookup fI = some ⟨oc, od, .func (ksFn "__init__" qual pa [.Expr (.Call (.Attribute (.Call (.Name "super" p0) [] [] p1) "__init__" p2) [.Constant (.str msg) j p3] [] p4) p5, .Assign [.Attribute (.Name "self" q1) f q2] (.Name y q3) q4] (iniS y) dV kV doc pm an (.ref cda) ct cc), osl⟩ ∧
    codeIn K (.ref cda) qual = true ∧ (pa.posonlyargs ++ pa.args).head? = some ar ∧ ar.arg = "self" ∧ K.lookup cda = some ⟨ccl, cdd, .fields vs, ccs⟩ ∧ vs[2]? = some (.str file tf) ∧ ((P.main.file : Str) == file) = true ∧
    K.lookup cc = some ⟨cl, cld, .cell (some (.ref C)), csl⟩ ∧ (iniS y).names.lookup ("super" : Str) = some .globalImplicit ∧ (iniS y).names.lookup ("__class__" : Str) = some .free ∧ (iniS y).names.lookup ("self" : Str) = some .local ∧ (iniS y).names.lookup y = some .local ∧ (p2.endLine == p4.line) = true
  top : (P.main.scope.names.lookup ("super" : Str)).isSome = false
/-- a made error of class C with the field f -/
structure OwnMade (h h' : Heap) (e C d : Addr) (f : Str) (v : Value) : Prop where
  keep : ∀ (q : Addr) (ob : Obj), h.get? q = some ob → h'.get? q = some ob
  new : h.objs.size ≤ e
  obj : ∃ (oe : Obj) (ws : Array Value), h'.get? e = some oe ∧ oe.cls = .ref C ∧ oe.dict = some d ∧ oe.data = .fields ws ∧ ws[1]? = some .none
  dbig : h.objs.size ≤ d
  dne : d ≠ e
  ns : h'.Ns1 d (fun z => if z = f then some v else none)
section
variable {prog : Program} {w : World} {A : Around} {E : Value → Shared → Prop} {R : Result → Shared → Prop} {s : Shared} {K : PySem.W.Frag} {mg mb : Str → Option Value} {C fI : Addr} {f y : Str}
theorem mcall_super {env : PySem.Env} {p0 p1 p2 p3 p4 : Pos} {msg : Str} {j : Nat} (hl : (p2.endLine == p4.line) = true) : eval (.Call (.Attribute (.Call (.Name "super" p0) [] [] p1) "__init__" p2) [.Constant (.str msg) j p3] [] p4) env = (do
      let ov ← attributeBase (.Call (.Name "super" p0) [] [] p1) "__init__" env (eval (.Call (.Name "super" p0) [] [] p1) env)
      standAt p2.atName
      let (g, first) ← holding [ov] (getMethod ov "__init__" (plainOf (.Call (.Name "super" p0) [] [] p1) env))
      callWith p4 g first (backTo p4 (starEach [.Constant (.str msg) j p3] env)) []) := by
  rw [arm_eval_Call]
  have e : (fun ov => methodCall (.Call (.Name "super" p0) [] [] p1) "__init__" p2 p4 env ov ([Expr.Constant (.str msg) j p3].length + ([] : List Keyword).length) (backTo p4 (starEach [.Constant (.str msg) j p3] env)) (backToKw p4 (keywordEach [] env))) = fun ov => (do
      let (g, first) ← holding [ov] (getMethod ov "__init__" (plainOf (.Call (.Name "super" p0) [] [] p1) env))
      callWith p4 g first (backTo p4 (starEach [.Constant (.str msg) j p3] env)) []) := funext fun ov => mcall_line rfl hl
  exact congrArg (fun tr : Value → Sem Value => (do
    let ov ← attributeBase (.Call (.Name "super" p0) [] [] p1) "__init__" env (eval (.Call (.Name "super" p0) [] [] p1) env)
    standAt p2.atName
    tr ov)) e
/-- the first field of an own error, whatever its base -/
theorem exc_osaB {B nw ini : String} {tl : List Value} (eb : EB B nw ini tl) {hp : Heap} {g : Array GenState} {d : Drawn} {t : Nat} {os : OsState} {name : Str} {tk : Tok} {v : Value} {x C : Addr} {fv : Array Value} {cd : ClassData}
    (X : K.In hp) (hx : hp.get? x = some { cls := .ref C, data := .fields fv }) (hcd : clsIn K C = some cd) (hm : refsB tl cd.mro = true) (hh : cd.hasDict = true) (ha : findIn K (.ref C) name = some none)
    (fin : ∀ (g1 : Heap) (tk1 : Nat) (dx : Addr), (∀ p o, p ≠ x → hp.get? p = some o → g1.get? p = some o) → hp.objs.size ≤ dx → dx ≠ x → g1.get? x = some { cls := .ref C, dict := some dx, data := .fields fv } →
      g1.Ns1 dx (fun z => if z = name then some v else none) → R (.ok (.ret .none)) ⟨g1, g, d, tk1, os⟩) :
    codeAny (model prog w) A (.call (.builtin "object.__setattr__") { pos := [.ref x, .str name tk, v], kw := [] }) R ⟨hp, g, d, t, os⟩ := by
  have SF : StoreFacts "object" _ "object.__setattr__" "object" := PySem.F.store_object
  have far : x ≠ hp.objs.size := Nat.ne_of_lt (Heap.lt_size hx)
  have I : InstAt hp x { cls := .ref C, data := .fields fv } C none := ⟨hx, rfl, rfl, trivial⟩
  have hob : cd.mro.contains (.type "object") = true := by rw [refsB_has "object" _ hm, eb.ob]
  have hcls : Looks (model prog w) hp (classData C) cd := looks_clsIn X hcd
  have hmr : Looks (model prog w) hp (mroOf (.ref C)) cd.mro := (looks_clsIn X hcd).andThen .now
  have none3 : Looks (model prog w) hp (storeTaker? none) none := .now
  have inn : mroIn K C (.type "object") = some true := by
    unfold mroIn
    rw [hcd, Option.bind_some, if_neg (by rw [refsB_ne hm]; decide), hob]
  refine codeAny_call_builtin SF.slot.plain SF.entry (@check_slot (model prog w) _ _ ⟨hp, g, d, t, os⟩ "object.__setattr__" "object" "__setattr__" (.ref x) [.str name tk, v] [] _ SF.kind SF.split (I.type.andThen (looks_mroIn X inn)) (SF.args (.ref x) (.str name tk) v) ?_)
  rw [osa_eq, refuse_eq]
  refine wpAny_bind <| wpAny_bind <| I.type.at <| wpAny_bind <| hmr.at ?_
  rw [refsB_pass eb _ _ hm]
  refine wpAny_pure (wpAny_bind (I.type.at (wpAny_bind ((looks_findIn X ha).at (wpAny_bind (none3.at ?_))))))
  change wpAny _ _ (storeInOwnDict (.ref x) (.ref C) (.str name tk) name v false) _ _ _
  obtain ⟨c1, c2, c3, c4, c5, c6, c7, c8, c9, c10, c11⟩ := cd
  dsimp only at hh
  subst hh
  unfold storeInOwnDict
  unfold ownDictForStores
  repeat (first | (with_reducible refine store_in_new ?_ ?_) | (with_reducible refine hcls.at ?_) | (with_reducible refine wpAny_loadPart_at hx ?_) | wp_step)
  · exact ⟨_, #[], _, (Heap.get?_update_ne _ _ _ _ far.symm).trans (Heap.get?_push_at rfl rfl), rfl, fun e he => absurd he (by simp), fun _ => rfl⟩
  · intro g1 tk1 n1 sb
    have hx1 : (hp.push { cls := .type "dict", data := .dict #[] }).get? x = some { cls := .ref C, data := .fields fv } := Heap.get?_push_of_some _ hx
    refine fin g1 tk1 hp.objs.size (fun q o hb ho => ?_) (Nat.le_refl _) far.symm ?_ n1
    · refine (sb.2 q (Nat.ne_of_lt (Heap.lt_size ho))).trans ?_
      exact (Heap.get?_update_ne _ _ _ _ hb).trans (Heap.get?_push_of_some _ ho)
    · exact (sb.2 x far).trans (Heap.get?_update_self _ hx1 rfl)
theorem ini_run (T : IniTxt prog K C fI f y) {hp : Heap} {x t0 : Addr} {v : Value} (X0 : K.In hp) (hsub : ∀ b o, hp.get? b = some o → s.heap.get? b = some o) (hsz : hp.objs.size ≤ x) (hlim : s.heap.NoLimit) (hG : s.heap.Ns mainGlobals mg) (hS : mg "super" = none) (hB : s.heap.Ns builtinsNs mb) (hBS : mb "super" = some (.type "super")) (hx : s.heap.get? x = some (excO C t0)) (hroom : A.depth < recursionLimit)
    (hb : ∀ fd : FuncData, (∃ oc od osl, K.lookup fI = some ⟨oc, od, .func fd, osl⟩) → BindsTo s fd ⟨[.ref x, v], []⟩ [("self", .ref x), (y, v)]) (hy : y ≠ "self") (hyd : (y == ("__debug__" : Str)) = false)
    (hq : ∀ h' tk dx, OwnMade hp h' x C dx f v → R (.ok (.ret .none)) { s with heap := h', toks := tk }) :
    codeAny (model prog w) A (.call (.ref fI) { pos := [.ref x, v] }) R s := by
  obtain ⟨oc, od, an, dV, kV, doc, pm, ct, cda, cc, osl, qual, msg, pa, p0, p1, p2, p3, p4, p5, q1, q2, q3, q4, j, ar, vs, file, tf, ccl, cl, cdd, cld, ccs, csl, ho, hcd, hp1, har, hcda, hvs, hfile, hcc, hks, hkc, hkself, hky, hln⟩ := T.fn
  obtain ⟨B, nw, ini, tl, eb, nm, q, N, bs, bm, sn, sb, ab, col, dd, k0, k1, k2, k3, k5, hC, hbm, Tsup, Tve, Tini⟩ := T.cls
  have hcl : clsIn K C = some { name := nm, bases := bs, mro := .ref C :: bm, ns := N, qualname := q, hasDict := true, slotNames := sn, subclasses := sb, abstract := ab, collection := col, hasDel := false } := by unfold clsIn; rw [hC] <;> rfl
  refine ks_codeAny_call_defAt (fd := ksFn "__init__" qual pa _ (iniS y) dV kV doc pm an (.ref cda) ct cc) (binds := [("self", .ref x), (y, v)]) hroom (X0.keeps hsub _ _ ho) rfl hlim (codeRec_of (X0.keeps hsub) hcd) rfl (hb _ ⟨_, _, _, ho⟩) (fun z hz => by
    simp only [List.mem_cons, or_false, List.not_mem_nil] at hz
    rcases hz with rfl | rfl | rfl | rfl <;> exact fun z => nomatch z) ?_ (fun h₁ hns hk₁ => ?_) rfl rfl rfl
  · intro z hz
    simp only [List.mem_cons, or_false, List.not_mem_nil] at hz
    rcases hz with rfl | rfl
    · exact hkself
    · exact hky
  have X : K.In s.heap := X0.keeps hsub
  have X₁ : K.In h₁ := X.keeps hk₁
  have hx₁ := hk₁ _ _ hx
  have hself : ([(("self" : Str), Value.ref x), (y, v)] : List (Str × Value)).reverse.lookup ("self" : Str) = some (Value.ref x) := by
    have e : (("self" : Str) == y) = false := by
      rw [beq_eq_false_iff_ne]
      exact fun z => hy z.symm
    show ([(y, v), (("self" : Str), Value.ref x)] : List (Str × Value)).lookup ("self" : Str) = _
    simp only [List.lookup, e]
    rfl
  have hyv : ([(("self" : Str), Value.ref x), (y, v)] : List (Str × Value)).reverse.lookup y = some v := by
    show ([(y, v), (("self" : Str), Value.ref x)] : List (Str × Value)).lookup y = _
    simp only [List.lookup, beq_self_eq_true]
  have hsup := Tsup
  unfold ks_superIn at hsup
  rw [hcl] at hsup
  refine ks_wpAt_execs_cons (ks_wpAt_Expr_any (ks_wpAt_MethodCall ?_ (mcall_super hln)))
  have hxs : x < s.heap.objs.size := Heap.lt_size hx
  obtain ⟨hh0, g, d, t, os⟩ := s
  have hnone : ∀ b, hp.objs.size ≤ b → hp.get? b = none := fun b hb => by
    cases z : hp.get? b with
    | none => rfl
    | some o => exact absurd (Heap.lt_size z) (Nat.not_lt.mpr hb)
  have Lge : hp.objs.size ≤ hh0.objs.size := Nat.le_of_lt (Nat.lt_of_le_of_lt hsz hxs)
  have F₁ : Fr hp hh0.objs.size h₁ (fun z => ([(("self" : Str), Value.ref x), (y, v)] : List (Str × Value)).reverse.lookup z) := ⟨hns, fun b o z => hk₁ b o (hsub b o z), Lge⟩
  have N₁ : News hp hh0.objs.size h₁ [(x, excObj C t0 none .none)] := fun p hp' => by
    obtain rfl := List.mem_singleton.mp hp'
    exact ⟨hx₁, Nat.ne_of_lt hxs, hnone x hsz⟩
  -- super()
  refine ks_wpAt_super_base (fd := ksFn "__init__" qual pa _ (iniS y) dV kV doc pm an (.ref cda) ct cc) hks hkc (by decide) rfl (X₁ _ _ ho) rfl hp1 rfl (X₁ _ _ hcda) rfl hvs hfile T.top ?_
  rw [har]
  refine ks_loadName_global rfl hks (loadGlobal_builtin (hG.keeps hk₁) hS (hB.keeps hk₁) hBS ⟨rfl, ?_⟩)
  refine wpAny_loadName_free (c := cc) rfl hkc rfl ⟨_, X₁ _ _ hcc, rfl⟩ ?_
  refine wpAny_loadName_local rfl hkself hns hself ?_
  refine ks_wpAny_isType_cls (X₁ _ _ hC) rfl ⟨rfl, ?_⟩
  refine ks_wpAny_call_super (X₁ _ _ hC) rfl hx₁ rfl (fun c e => by cases e) (looks_mroIn X₁ T.sub) fun h₂ e₂ k₂ => ?_
  obtain ⟨F₂, N₂, l₂⟩ := ks_newsPush (s := ⟨h₁, g, d, t + 2, os⟩) F₁ N₁ rfl e₂ k₂
  have I₂ : InstAt h₂ x (excObj C t0 none .none) C none := .of_exc0 N₂ (by simp)
  -- its __init__
  refine kxs_method eb.S F₂ X0 N₂ (List.mem_cons_self ..) I₂ T.opq Tsup Tve (by decide) fun u h₃ F₃ N₃ l₃ => ?_
  refine kxs_callWith1 N₃ (List.mem_cons_self ..) (Calls.spliced_cons (wpAny_Constant_str (k := j) (pos := p3) (Calls.spliced_nil ⟨(N₃ _ (List.mem_cons_self ..)).1, ?_⟩)))
  have so_ne : h₁.objs.size ≠ x := fun z => by
    have := l₂ _ (List.mem_cons_self ..)
    exact absurd this (by rw [← z]; exact Nat.lt_irrefl _)
  have u_ne : u ≠ x := fun z => by
    have := l₃ (x, excObj C t0 none .none) (by simp)
    rw [z] at this
    exact absurd this (Nat.lt_irrefl _)
  refine kxs_call F₃ X0 N₃ eb.F Tini (List.mem_cons_self ..) (.tail u_ne (.tail so_ne (.head fun p hp' => absurd hp' (by simp)))) (by show 1 ≤ sizeLine; decide) fun t4 h₄ F₄ N₄ l₄ => ?_
  -- self.f = y
  refine wpAt_of_wpAny ?_
  refine wpAny_execs_cons ?_
  refine plainObj_wpAny_Assign_Attribute ?_
  have X₄ : K.In h₄ := X0.keeps F₄.keep
  have hx₄ : h₄.get? x = some (excO C t4) := (N₄ (x, excObj C t4 none .none) (by simp)).1
  refine wpAny_Name (wpAny_loadName_local rfl hky F₄.ns hyv ?_) hyd
  refine wpAny_Name (wpAny_loadName_local rfl hkself F₄.ns hself ?_) (by decide)
  refine set_plain X₄ (ox := excO C t4) (od := none) ⟨hx₄, rfl, rfl, trivial⟩ T.sat ?_
  refine exc_osaB eb X₄ hx₄ hcl (show refsB tl (.ref C :: bm) = true from hbm) rfl T.noF fun h₅ tk₅ dx k₅ dn dne hx₅ hn₅ => ?_
  have b4 : hp.objs.size ≤ h₄.objs.size := by
    obtain ⟨oL, es, ep, hL, _⟩ := F₄.ns
    exact Nat.le_of_lt (Nat.lt_of_le_of_lt Lge (Heap.lt_size hL))
  refine wpAny_execs_nil (hq h₅ tk₅ dx ⟨fun b o z => k₅ b o (fun e => ?_) (F₄.keep b o z), hsz, ⟨_, _, hx₅, rfl, rfl, rfl, rfl⟩, Nat.le_trans b4 dn, dne, hn₅⟩)
  rw [e, hnone x hsz] at z
  cases z
theorem own_made (T : IniTxt prog K C fI f y) {v : Value} (X : K.In s.heap) (hlim : s.heap.NoLimit) (hG : s.heap.Ns mainGlobals mg) (hS : mg "super" = none) (hB : s.heap.Ns builtinsNs mb) (hBS : mb "super" = some (.type "super")) (hroom : A.depth + 1 < recursionLimit)
    (hb : ∀ (s' : Shared) (x : Addr) (fd : FuncData), K.In s'.heap → (∃ oc od osl, K.lookup fI = some ⟨oc, od, .func fd, osl⟩) → BindsTo s' fd ⟨[.ref x, v], []⟩ [("self", .ref x), (y, v)]) (hy : y ≠ "self") (hyd : (y == ("__debug__" : Str)) = false)
    (hq : ∀ h' tk e d, OwnMade s.heap h' e C d f v → R (.ok (.ret (.ref e))) { s with heap := h', toks := tk }) :
    codeAny (model prog w) A (.call (.ref C) { pos := [v] }) R s := by
  obtain ⟨B, nw, ini, tl, eb, nm, q, N, bs, bm, sn, sb, ab, col, dd, k0, k1, k2, k3, k5, hC, hbm, Tsup, Tve, Tini⟩ := T.cls
  obtain ⟨hp, gs, dr, tk, os⟩ := s
  have kk : ∀ b o, hp.get? b = some o → ((hp.push (kdv_tup [v])).push (excO C hp.objs.size)).get? b = some o := fun b o z => Heap.get?_push_of_some _ (Heap.get?_push_of_some _ z)
  have gx : ((hp.push (kdv_tup [v])).push (excO C hp.objs.size)).get? (hp.objs.size + 1) = some (excO C hp.objs.size) := by heap_get
  refine HandSPX.call_own eb.F (fun Z => refsB_has Z bm hbm) (X _ _ hC) (looks_findIn X T.ini1) (fun self => bind_fn X self T.tfn) (by show 1 ≤ sizeLine; decide) ?_
  refine ini_run (s := ⟨(hp.push (kdv_tup [v])).push (excO C hp.objs.size), gs, dr, tk, os⟩) T X kk (Nat.le_succ _) (hlim.keeps kk) (hG.keeps kk) hS (hB.keeps kk) hBS gx (by show A.depth + 1 < recursionLimit; exact hroom) (fun fd h => hb _ _ fd (X.keeps kk) h) hy hyd fun h' tk' dx M => ⟨rfl, hq h' tk' _ dx M⟩
end
end DL
namespace DL
open PySem L2
theorem relO_one {f z : Str} {v : V} {v' : Value} (r : RelV v v') : RelO (List.lookup z [(f, v)]) (if z = f then some v' else none) := by
  by_cases h : z = f
  · subst h
    rw [if_pos rfl, show List.lookup z [(z, v)] = some v by simp [List.lookup]]
    exact r
  · rw [if_neg h, show List.lookup z [(f, v)] = none by simp [List.lookup, beq_eq_false_iff_ne.mpr h]]
    trivial
/-- what the text says of an own error with one field -/
structure ClsG (X : Cx) (C fI : Addr) (x f y : Str) : Prop where
  T : IniTxt X.prog X.K C fI f y
  gC : X.mg x = some (.ref C)
  kC : PySem.W.keepIn X.K (.ref C) = true
  rs : Raises X (.ref C)
  sup : X.mg "super" = none
  bd : ∀ (s' : Shared) (e : Addr) (v : Value) (fd : FuncData), X.K.In s'.heap → (∃ oc od osl, X.K.lookup fI = some ⟨oc, od, .func fd, osl⟩) → BindsTo s' fd ⟨[.ref e, v], []⟩ [("self", .ref e), (y, v)]
  yS : y ≠ "self"
  yD : (y == ("__debug__" : Str)) = false
theorem boot_super : bootBuiltins "super" = some (.type "super") := by first | rfl | kernel_rfl
section
variable {F : Fx} {X : Cx} {W : WX} {L L1 : List Addr} {H H1 : Hp} {M : Store} {e : DL.Env} {σ : L2.St} {T : Ends} {k : Nat} {C fI : Addr} {x f y : Str}
def tMkF (C : Addr) (f : Str) (ta : TA) : L2.St → Hp → XK → Prop := fun σ H Q => ta σ H fun vs H1 => ∃ v, vs = [v] ∧ ∀ d, H1 d = none → Q (.ref C) (some d) (upd H1 d (.xd [(f, v)]))
theorem pmk_f {a : Expr} {ta : TA} {p pos : Pos} (G : ClsG X C fI x f y) (hr : Room (k + 1) X.A) (ha : PA X [a] ta) (hg : Gl X x := by rfl) (hdb : (x == ("__debug__" : Str)) = false := by decide)
    (he : starEach [a] X.env = (false, eval a X.env) :: starEach [] X.env := by rfl) (hpl : (backTo pos (starEach [] X.env)).any (·.1) = false := by rfl) :
    PMk X (.Call (.Name x p) [a] [] pos) (tMkF C f ta) := by
  intro pins s σ H Q I h
  refine wpAny_Call_Name_kw (ld_glob I hg G.gC ?_ hdb)
  refine PySem.W.callWith_K (h₀ := X.base) I.ok.mod.kin G.kC (thn (ha.run pos pins s σ H _ I h) fun us s1 hh => ?_) he hpl
  obtain ⟨ws, H2, I1, r1, v, ev, q1⟩ := hh
  subst ev
  refine ⟨I1.kIn, ?_⟩
  cases r1 with
  | cons rv rn =>
    rename_i v' us'
    cases rn
    show wpAny _ X.A (call (.ref C) [v']) _ _ _
    obtain ⟨mb, hb1, hb2⟩ := I1.mod.blt
    have lim := I1.nolimit
    have gl := I1.mod.glob.keeps I1.bk
    have bl := hb1.keeps I1.bk
    obtain ⟨hp, gs, dr, tk, os⟩ := s1
    refine wpAny_call (own_made G.T I1.kIn lim gl G.sup bl ((hb2 _ (by decide)).trans boot_super) (by have := hr.dp; omega) (fun s' e fd hk hfd => G.bd s' e v' fd hk hfd) G.yS G.yD fun h' tk' e d Md => ?_)
    show MkP X pins σ Q (.ref e) ⟨h', gs, dr, tk', os⟩
    obtain ⟨oe, fv, hoe, hc, hd, hdat, h1⟩ := Md.obj
    obtain ⟨G', g1, g2⟩ := restrict h' (fun b => decide (b ≠ e))
    have at' : ∀ b, b ≠ e → G'.get? b = h'.get? b := fun b hb => g1 b (decide_eq_true hb)
    have none' : G'.get? e = none := g2 e (by simp)
    have old : ∀ b o, hp.get? b = some o → G'.get? b = some o := fun b o z => (at' b (fun ee => by
      have lt := Heap.lt_size z
      rw [ee] at lt
      exact absurd Md.new (Nat.not_le.mpr lt))).trans (Md.keep b o z)
    have ob : ObjOk X.prog X.w (upd H2 d (.xd [(f, v)])) G' d (.xd [(f, v)]) := ⟨_, Md.ns.at (fun o z => (at' d Md.dne).trans z), fun z => relO_one rv⟩
    have J : L2.Inv X pins σ (upd H2 d (.xd [(f, v)])) ⟨G', gs, dr, tk', os⟩ := I1.laid (t' := tk') old Md.dbig ob
    refine ⟨e, oe, fv, ⟨G', gs, dr, tk', os⟩, _, .ref C, some d, rfl, J, fun b o z => ?_, none', hoe, ⟨hc, hd⟩, hdat, h1, ?_, rfl, I1.bare, G.rs, q1 d (I1.hok.fresh Md.dbig)⟩
    · rcases Classical.em (b = e) with hb | hb
      · have z' : G'.get? b = some o := z
        rw [hb, none'] at z'
        cases z'
      · exact (at' b hb).symm.trans z
    · rw [upd_ne (Ne.symm Md.dne)]
      exact I1.hok.fresh Md.new
def raiseF (c : String) (f : Str) (da : DenE) : DenS := fun e M => thenS (da e M) e fun d M1 => some (.ex c [(f, d)] e, M1)
theorem ds_raiseF {a : Expr} {da : DenE} {p pos pos' : Pos} (c : String) (d : Dc X W (k + 1)) (hC : F.cl c = some C) (G : ClsG X C fI x f y) (ha : DE F X W a da) (hg : Gl X x := by rfl) (hdb : (x == ("__debug__" : Str)) = false := by decide)
    (he : starEach [a] X.env = (false, eval a X.env) :: starEach [] X.env := by rfl) (hpl : (backTo pos (starEach [] X.env)).any (·.1) = false := by rfl) :
    DS F X W (.Raise (some (.Call (.Name x p) [a] [] pos)) none pos') (raiseF c f da) := by
  obtain ⟨t, pa, qa⟩ := da_cons ha da_nil he
  refine ⟨_, ps_raise d.calm d.tk (pmk_f G d.room pa hg hdb he hpl), fun e M L σ H T sr pp => ?_⟩
  refine qa e M L σ H _ sr ?_
  unfold raiseF at pp
  have pp2 : PostS F L H W T (thenS (consA da nilA e M) e fun ds M1 => match ds with
    | [d] => some (.ex c [(f, d)] e, M1)
    | _ => none) := by
    unfold consA nilA
    revert pp
    cases da e M with
    | none => exact id
    | some z =>
      obtain ⟨o, M1⟩ := z
      cases o <;> exact id
  refine post_then (fun ds M1 L1 H1 vs s1 r1 rv q => ?_) pp2
  split at q
  · rename_i d1
    obtain ⟨v, rfl, r2⟩ := reps1 rv
    refine ⟨v, rfl, fun dd hdd => ?_⟩
    have s2 : Stp L1 H1 L1 (upd H1 dd (.xd [(f, v)])) := Stp.alloc hdd
    have r3 := r1.stay s2 (r1.m.alloc hdd)
    exact q L1 _ σ (.ref C) (some dd) s2 r3 ⟨C, hC, rfl, [(f, v)], upd_same, fresh_out r1.m hdd, v, [], rfl, Rep.stay r1.m s2 _ _ r2, rfl⟩
  · exact False.elim q
end
end DL
namespace DL
open PySem L2
end DL
namespace DL
open PySem L2
section
variable {F : Fx} {X : Cx} {W : WX} {L L1 : List Addr} {H H1 : Hp} {M : Store} {e : DL.Env} {σ : L2.St} {T : Ends} {k : Nat}
def tupcF : List D → Store → RE
  | [.tup ds], M => ok (.tup ds) M
  | [d], M => match getL M d with
    | some ds => ok (.tup ds) M
    | none => none
  | _, _ => none
def rTupC (K : PySem.W.Frag) : List V → Hp → VK → Prop := fun vs H Q => ∃ x, vs = [x] ∧ kTup K x H Q
theorem callr_tuple : CallR X (.type "tuple") (rTupC X.K) := by
  intro p₀ s₀ σ₀ H₀ vs us Q₀ I₀ r h
  obtain ⟨x, rfl, q⟩ := h
  obtain ⟨u, eu, rx⟩ := vals1 r
  subst eu
  exact rl_tuple p₀ s₀ σ₀ H₀ x u Q₀ I₀ rx q
theorem tupc_ok : CallOk F (rTupC F.K) tupcF := fun ds M L H e σ W vs Q sr rv p => by
  unfold tupcF at p
  split at p
  · rename_i es
    obtain ⟨v, rfl, h1⟩ := reps1 rv
    obtain ⟨a, ws, rfl, q1, q2⟩ := h1
    exact ⟨_, rfl, .inr ⟨a, ws, rfl, (.inl (.inl q1)), p.ok sr ⟨a, ws, rfl, q1, q2⟩⟩⟩
  · obtain ⟨v, rfl, h1⟩ := reps1 rv
    split at p
    · rename_i es hg
      obtain ⟨a, ws, rfl, q1, q2⟩ := getL_sq sr.m hg h1
      exact ⟨_, rfl, .inl ⟨a, ws, rfl, q1, fun q hq => post_tup p sr q2 hq⟩⟩
    · exact False.elim p
  · exact False.elim p
def lstcF : List D → Store → RE
  | [.tup ds], M => ok (.lst ds) M
  | [d], M => match getL M d with
    | some ds => ok (.lst ds) M
    | none => none
  | _, _ => none
def rLstC (K : PySem.W.Frag) : List V → Hp → VK → Prop := fun xs H Q => ∃ p ys, xs = [.ref p] ∧ (SqL K H p ys ∨ SqT K H p ys) ∧ ∀ l, H l = none → Q (.ref l) (upd H l (.lst ys))
theorem callr_list : CallR X (.type "list") (rLstC X.K) := call_list_of
theorem lstc_ok : CallOk F (rLstC F.K) lstcF := fun ds M L H e σ W vs Q sr rv p => by
  unfold lstcF at p
  split at p
  · rename_i es
    obtain ⟨v, rfl, h1⟩ := reps1 rv
    obtain ⟨a, ws, rfl, q1, q2⟩ := h1
    exact ⟨a, ws, rfl, .inr (.inl (.inl q1)), fun q hq => post_lst p sr q2 hq⟩
  · obtain ⟨v, rfl, h1⟩ := reps1 rv
    split at p
    · rename_i es hg
      obtain ⟨a, ws, rfl, q1, q2⟩ := getL_sq sr.m hg h1
      exact ⟨a, ws, rfl, .inl q1, fun q hq => post_lst p sr q2 hq⟩
    · exact False.elim p
  · exact False.elim p
def flD : D → Option V
  | .non => some .non
  | .bl b => some (.bl b)
  | .int i => some (.int i)
  | .str x => some (.str x)
  | _ => none
def flDs : List D → Option (List V)
  | [] => some []
  | d :: ds => match flD d, flDs ds with
    | some v, some vs => some (v :: vs)
    | _, _ => none
def sqD (M : Store) : D → Option (List D)
  | .tup ds => some ds
  | d => getL M d
def inF (n : Bool) : D → D → Store → RE := fun x y M => match flD x, (sqD M y).bind flDs with
  | some v, some vs => ok (.bl (if n then !inV v vs else inV v vs)) M
  | _, _ => none
theorem flD_rep {d : D} {v w : V} (h : flD d = some v) (r : Rep F L H d w) : w = v ∧ flatV v = true := by
  cases d <;> first | (cases h; exact ⟨r, rfl⟩) | cases h
theorem flDs_rep : ∀ {ds : List D} {vs ws : List V}, flDs ds = some vs → Reps F L H ds ws → ws = vs ∧ vs.all flatV = true
  | [], vs, ws, h, r => by
    cases h
    exact ⟨r, rfl⟩
  | d :: ds, vs, ws, h, ⟨v, r, e, h1, h2⟩ => by
    unfold flDs at h
    split at h
    · rename_i v' vs' a b
      cases h
      obtain ⟨e1, f1⟩ := flD_rep a h1
      obtain ⟨e2, f2⟩ := flDs_rep b h2
      subst e1 e2
      exact ⟨e, by rw [List.all_cons, f1, f2]; rfl⟩
    · cases h
theorem sqD_cases {d : D} {ds : List D} (h : sqD M d = some ds) : d = .tup ds ∨ getL M d = some ds := by
  cases d with
  | tup es => exact .inl (congrArg D.tup (Option.some.inj h))
  | _ => exact .inr h
theorem in_ok {n : Bool} : OpOk F (rIn F.K n) (inF n) := fun d1 d2 M L H e σ W v1 v2 Q sr r1 r2 p => by
  unfold inF at p
  split at p
  · rename_i v vs h1 h2
    obtain ⟨e1, f1⟩ := flD_rep h1 r1
    subst e1
    obtain ⟨ds, g1, g2⟩ := Option.bind_eq_some_iff.mp h2
    have key : ∃ a ws, v2 = .ref a ∧ (SqL F.K H a ws ∨ SqT F.K H a ws) ∧ Reps F L H ds ws := by
      rcases sqD_cases g1 with rfl | g
      · obtain ⟨a, ws, q0, q1, q2⟩ := r2
        exact ⟨a, ws, q0, .inr (.inl (.inl q1)), q2⟩
      · obtain ⟨a, ws, q0, q1, q2⟩ := getL_sq sr.m g r2
        exact ⟨a, ws, q0, .inl q1, q2⟩
    obtain ⟨a, ws, q0, q1, q2⟩ := key
    obtain ⟨e2, f2⟩ := flDs_rep g2 q2
    subst e2
    exact ⟨a, ws, q0, q1, f1, f2, p.ok sr rfl⟩
  · exact False.elim p
def mulTF : D → D → Store → RE
  | .tup ds, .int k, M => if 2 ≤ k ∧ k ≤ 1000 ∧ ds.length ≤ 1000 ∧ ds ≠ [] then ok (.tup (List.replicate k.toNat ds).flatten) M else none
  | x, y, M => mulF x y M
theorem mulT_ok : OpOk F (fun x y H Q => rMulD x y H Q ∨ rRepT F.K x y H Q) mulTF := fun d1 d2 M L H e σ W v1 v2 Q sr r1 r2 p => by
  unfold mulTF at p
  split at p
  · rename_i ds k
    split at p
    · rename_i hc
      obtain ⟨a, vs, rfl, q1, q2⟩ := r1
      have e2 : v2 = .int k := r2
      subst e2
      have hl := reps_len q2
      refine .inr ⟨a, k, vs, rfl, rfl, (.inl (.inl q1)), fun z => hc.2.2.2 ?_, hc.1, hc.2.1, by rw [← hl]; exact hc.2.2.1, fun q hq => post_tup p sr (reps_rep q2 _) hq⟩
      rw [z] at hl
      exact List.length_eq_zero_iff.mp hl
    · exact False.elim p
  · exact .inl (mul_ok d1 d2 M L H e σ W v1 v2 Q sr r1 r2 p)
theorem opr_mulT : OpR X (binaryOp .Mult) (fun x y H Q => rMulD x y H Q ∨ rRepT X.K x y H Q) := orR opr_mul op_repT
def chainD (f g : D → D → Store → RE) (da db dc : DenE) : DenE := fun e M => bindE (da e M) fun d1 M1 => bindE (db e M1) fun d2 M2 => bindE (f d1 d2 M2) fun b M3 => match b with
  | .bl true => bindE (dc e M3) fun d3 M4 => g d2 d3 M4
  | .bl false => ok (.bl false) M3
  | _ => none
/-- what tells a truth at once, the store kept -/
def Truths (f : D → D → Store → RE) : Prop := ∀ x y M, f x y M = none ∨ ∃ b : Bool, f x y M = ok (.bl b) M
theorem chain_t {op op' : CmpOp} {r r' : R2} {f g : D → D → Store → RE} {a b c : Expr} {da db dc : DenE} {ta tb tc : TE} (hf : OpOk F r f) (hf' : OpOk F r' g) (tf : Truths f)
    (qa : ∀ (e : DL.Env) (M : Store) (L : List Addr) (σ : L2.St) (H : Hp) (Q : VK), SR F L H M e σ → Post F e L H σ W Q (da e M) → ta σ H Q)
    (qb : ∀ (e : DL.Env) (M : Store) (L : List Addr) (σ : L2.St) (H : Hp) (Q : VK), SR F L H M e σ → Post F e L H σ W Q (db e M) → tb σ H Q)
    (qc : ∀ (e : DL.Env) (M : Store) (L : List Addr) (σ : L2.St) (H : Hp) (Q : VK), SR F L H M e σ → Post F e L H σ W Q (dc e M) → tc σ H Q)
    (e : DL.Env) (M : Store) (L : List Addr) (σ : L2.St) (H : Hp) (Q : VK) (sr : SR F L H M e σ) (p : Post F e L H σ W Q (chainD f g da db dc e M)) : tChain r r' ta tb tc σ H Q := by
  refine qa e M L σ H _ sr (PostG.bind (fun d1 M1 L1 H1 v1 s1 r1 rv1 p1 => ?_) p)
  refine qb e M1 L1 σ H1 _ r1 (PostG.bind (fun d2 M2 L2 H2 v2 s2 r2 rv2 p2 => ?_) p1)
  have rv1' := Rep.stay r1.m s2 _ _ rv1
  refine hf d1 d2 M2 L2 H2 e σ W v1 v2 _ r2 rv1' rv2 ?_
  rcases tf d1 d2 M2 with z | ⟨bb, z⟩
  · rw [z] at p2
    exact False.elim p2
  · rw [z] at p2 ⊢
    intro L3 H3 v3 s3 r3 rv3
    have e3 : v3 = .bl bb := rv3
    subst e3
    refine ⟨bb, rfl, ?_⟩
    have p3 := PostG.go s3 (show Post F e L2 H2 σ W Q (match D.bl bb with
      | .bl true => bindE (dc e M2) fun d3 M4 => g d2 d3 M4
      | .bl false => ok (.bl false) M2
      | _ => none) from p2)
    cases bb with
    | true =>
      simp only [if_true]
      refine qc e M2 L3 σ H3 _ r3 (PostG.bind (fun d3 M4 L4 H4 v4 s4 r4 rv4 p4 => ?_) p3)
      exact hf' d2 d3 M4 L4 H4 e σ W v2 v4 Q r4 (Rep.stay r3.m s4 _ _ (Rep.stay r2.m s3 _ _ rv2)) rv4 p4
    | false =>
      simp only [if_neg (fun z : false = true => Bool.noConfusion z)]
      exact p3.ok r3 rfl
theorem de_chain {op op' : CmpOp} {r r' : R2} {f g : D → D → Store → RE} {a b c : Expr} {da db dc : DenE} {pos : Pos} (hf : OpOk F r f) (ho : OpR X (compareOp op) r) (hf' : OpOk F r' g) (ho' : OpR X (compareOp op') r') (tf : Truths f) (ha : DE F X W a da) (hb : DE F X W b db) (hc : DE F X W c dc)
    (hm : lastMarks [op, op'] [b, c] = false := by with_unfolding_all rfl) : DE F X W (.Compare a [op, op'] [b, c] pos) (chainD f g da db dc) := by
  obtain ⟨ta, pa, qa⟩ := ha
  obtain ⟨tb, pb, qb⟩ := hb
  obtain ⟨tc, pc, qc⟩ := hc
  exact ⟨_, pe_chain ho ho' pa pb pc hm, chain_t (op := op) (op' := op') (a := a) (b := b) (c := c) hf hf' tf qa qb qc⟩
theorem truths_int {g : Int → Int → Bool} : Truths (intF0 fun i j => .bl (g i j)) := fun x y M => by
  unfold intF0
  split
  · exact .inr ⟨_, rfl⟩
  · exact .inl rfl
theorem de_num {x : Str} {i : Int} {t : Tok} {pos : Pos} (hm : X.mg x = some (.int i t)) (hg : Gl X x := by rfl) (hd : (x == ("__debug__" : Str)) = false := by decide) : DE F X W (.Name x pos) (cD (.int i)) :=
  ⟨_, pe_glob (v := .int i) hg hm ⟨t, rfl⟩ hd, fun e M L σ H Q sr p => p.ok sr rfl⟩
end
end DL
namespace DL
open PySem L2
section
variable {F : Fx} {X : Cx} {W : WX} {L L1 : List Addr} {H H1 : Hp} {M : Store} {e : DL.Env} {σ : L2.St} {T : Ends} {k : Nat}
/-- behind the loop: Nx -/
def Fin (F : Fx) (L : List Addr) (H : Hp) (Nx : Hp → Prop) : RD Unit → Prop
  | some (.val _, M') => ∀ (L' : List Addr) (H' : Hp), Stp L H L' H' → SM F L' H' M' → Nx H'
  | _ => False
theorem Fin.go {Nx : Hp → Prop} (s : Stp L H L1 H1) : ∀ {r : RD Unit}, Fin F L H Nx r → Fin F L1 H1 Nx r
  | some (.val _, M'), h => fun L' H' s' m => h L' H' (s.trans s') m
  | some (.exc _ _, _), h => h
  | none, h => h
def canI (F : Fx) (W : WX) (di : DenI) : TI := fun σ H R => ∃ (e : DL.Env) (M : Store) (L : List Addr), SR F L H M e σ ∧ PostG F (fun L' H' (p : DItems) (J : It) => Walk F L' H' J p.1 p.2) e L H σ W R (di e M)
theorem DI.can {tg it : Expr} {di : DenI} (h : DI F X W tg it di) : PI X tg it (canI F W di) := by
  obtain ⟨t, p, q⟩ := h
  exact ⟨fun pins s σ H R I hh => by
    obtain ⟨e, M, L, sr, pp⟩ := hh
    exact p.run pins s σ H R I (q e M L σ H R sr pp)⟩
end
end DL
namespace DL
open PySem L2
/-- the places of a part, and whether it is the whole -/
def prtI (n : Nat) (lo hi st : Option Int) : List Nat :=
  (List.range (Builtin.Slice.slicePlaces (Builtin.Slice.sliceAdjust lo hi (st.getD 1) n).1 (Builtin.Slice.sliceAdjust lo hi (st.getD 1) n).2 (st.getD 1))).map fun (k : Nat) => ((Builtin.Slice.sliceAdjust lo hi (st.getD 1) n).1 + (k : Int) * st.getD 1).toNat
def whole (n : Nat) (lo hi st : Option Int) : Bool := (Builtin.Slice.sliceAdjust lo hi (st.getD 1) n).1 == 0 && st.getD 1 == 1 && Builtin.Slice.slicePlaces (Builtin.Slice.sliceAdjust lo hi (st.getD 1) n).1 (Builtin.Slice.sliceAdjust lo hi (st.getD 1) n).2 (st.getD 1) == n
def prtT {α : Type} (xs : List α) (lo hi st : Option Int) : List α := if whole xs.length lo hi st = true then xs else (prtI xs.length lo hi st).filterMap (xs[·]?)
section
variable {prog : Program} {w : World} {A : Around} {s : Shared} {E : Value → Shared → Prop}
theorem slap {sl : Addr} {vl vu vs : Value} {lo hi st : Option Int} {n : Nat} {Q : Int × Int × Nat → Shared → Prop} (hs : s.heap.IsSliceOf sl vl vu vs) (pl : IsPart vl lo) (pu : IsPart vu hi) (ps : IsPart vs st) (h0 : st.getD 1 ≠ 0)
    (h : Q ((Builtin.Slice.sliceAdjust lo hi (st.getD 1) n).1, st.getD 1, Builtin.Slice.slicePlaces (Builtin.Slice.sliceAdjust lo hi (st.getD 1) n).1 (Builtin.Slice.sliceAdjust lo hi (st.getD 1) n).2 (st.getD 1)) s) :
    wpAny (model prog w) A (Builtin.Slice.sliceApplied (.ref sl) (pure ((n : Nat) : Int))) Q E s := by
  obtain ⟨ox, hox, _, hdx⟩ := id hs
  unfold Builtin.Slice.sliceApplied
  unfold Builtin.Slice.sliceFields
  refine wpAny_bind (wpAny_bind (wpAny_field hox hdx (x := vl) rfl (wpAny_bind (wpAny_field hox hdx (x := vu) rfl (wpAny_bind (wpAny_field hox hdx (x := vs) rfl (wpAny_pure ?_)))))))
  refine wpAny_bind (HT.slicePart_ ps ?_)
  show wpAny _ _ (if (st.getD 1 == 0) = true then _ else _) _ _ s
  rw [if_neg (show ¬ ((st.getD 1 == 0) = true) by simpa using h0)]
  exact wpAny_bind (HT.slicePart_ pl (wpAny_bind (HT.slicePart_ pu (wpAny_bind (wpAny_pure (wpAny_pure h))))))
theorem getItem_tup {t sl : Addr} {items : Array Value} {vl vu vs : Value} {lo hi st : Option Int} {Q : Value → Shared → Prop} (ht : PyProof.Rows.IsTup s.heap t items) (hs : s.heap.IsSliceOf sl vl vu vs) (pl : IsPart vl lo) (pu : IsPart vu hi) (ps : IsPart vs st) (h0 : st.getD 1 ≠ 0)
    (hw : whole items.size lo hi st = true → Q (.ref t) s)
    (h : whole items.size lo hi st = false → Q (.ref s.heap.objs.size) { s with heap := s.heap.push { cls := .type "tuple", data := .seq ((prtI items.size lo hi st).filterMap (items[·]?)).toArray } })
    (hsz : (prtI items.size lo hi st).length ≤ sizeLine) : wpAny (model prog w) A (getItem (.ref t) (.ref sl)) Q E s := by
  have hd : sizeOk (.seq ((prtI items.size lo hi st).filterMap (items[·]?)).toArray) := by
    show ((prtI items.size lo hi st).filterMap (items[·]?)).toArray.size ≤ sizeLine
    rw [List.size_toArray]
    exact Nat.le_trans (List.length_filterMap_le _ _) hsz
  obtain ⟨ox, hox, hcx, _⟩ := id hs
  have hTs : s.TypeIs (.ref sl) "slice" := ⟨ox, hox, hcx⟩
  unfold getItem
  try (with_reducible refine wpAny_holding ?_)
  try (refine wpAny_bind (wpAny_pure ?_))
  refine wpAny_bind (wpAny_sequenceKey (ht.typeIs) (by decide) ?_)
  refine wpAny_bind (wpAny_callSpecial?_slot (name := Str.ofString "__getitem__") ht.typeIs PyProof.Rows.slot_tuple_getitem (wpAny_call_entry PyProof.Rows.slot_tuple_getitem ht.typeIs PyProof.Rows.entry_tuple_getitem ?_ (PyProof.Rows.args_tuple_getitem _ _)))
  show wpAny (model prog w) _ (Builtin.Tuple.tupleItemsOf (.ref t) >>= _) _ _ s
  refine wpAny_bind (PyProof.Rows.tupleItemsOf_ ht (wpAny_bind (wpAny_typeOf hTs ?_)))
  rw [if_pos (by decide)]
  refine wpAny_bind (slap hs pl pu ps h0 ?_)
  cases hz : whole items.size lo hi st with
  | true =>
    have hz' : ((Builtin.Slice.sliceAdjust lo hi (st.getD 1) items.size).1 == 0 && st.getD 1 == 1 && Builtin.Slice.slicePlaces (Builtin.Slice.sliceAdjust lo hi (st.getD 1) items.size).1 (Builtin.Slice.sliceAdjust lo hi (st.getD 1) items.size).2 (st.getD 1) == items.size) = true := hz
    show wpAny _ _ (if ((Builtin.Slice.sliceAdjust lo hi (st.getD 1) items.size).1 == 0 && st.getD 1 == 1 && Builtin.Slice.slicePlaces (Builtin.Slice.sliceAdjust lo hi (st.getD 1) items.size).1 (Builtin.Slice.sliceAdjust lo hi (st.getD 1) items.size).2 (st.getD 1) == items.size) = true then _ else _) _ _ s
    rw [if_pos hz']
    have hh := hw hz
    unfold Builtin.Tuple.tupleIsExact
    refine wpAny_bind (wpAny_bind (wpAny_typeOf ht.typeIs (wpAny_pure ?_)))
    rw [if_pos (by decide)]
    wp_walk
    exact ⟨_, rfl, wpAny_pure hh⟩
  | false =>
    have hz' : ¬ ((Builtin.Slice.sliceAdjust lo hi (st.getD 1) items.size).1 == 0 && st.getD 1 == 1 && Builtin.Slice.slicePlaces (Builtin.Slice.sliceAdjust lo hi (st.getD 1) items.size).1 (Builtin.Slice.sliceAdjust lo hi (st.getD 1) items.size).2 (st.getD 1) == items.size) = true := by
      intro z
      have z2 : whole items.size lo hi st = true := z
      rw [hz] at z2
      cases z2
    show wpAny _ _ (if ((Builtin.Slice.sliceAdjust lo hi (st.getD 1) items.size).1 == 0 && st.getD 1 == 1 && Builtin.Slice.slicePlaces (Builtin.Slice.sliceAdjust lo hi (st.getD 1) items.size).1 (Builtin.Slice.sliceAdjust lo hi (st.getD 1) items.size).2 (st.getD 1) == items.size) = true then _ else _) _ _ s
    rw [if_neg hz']
    have e : ((List.range (Builtin.Slice.slicePlaces (Builtin.Slice.sliceAdjust lo hi (st.getD 1) items.size).1 (Builtin.Slice.sliceAdjust lo hi (st.getD 1) items.size).2 (st.getD 1))).filterMap fun (k : Nat) => items[((Builtin.Slice.sliceAdjust lo hi (st.getD 1) items.size).1 + (k : Int) * st.getD 1).toNat]?) = (prtI items.size lo hi st).filterMap (items[·]?) := by
      unfold prtI
      rw [List.filterMap_map]
      rfl
    rw [e]
    have hh := h hz
    first
      | exact wpAny_bind (m := Builtin.Tuple.tupleExact _) (wpAny_newObj_type (wpAny_pure ⟨_, rfl, wpAny_pure hh⟩) hd)
      | exact wpAny_bind (m := Builtin.Tuple.tupleExact _) (wpAny_newObj_type (wpAny_bind (wpAny_pure (wpAny_pure ⟨_, rfl, wpAny_pure hh⟩))) hd)
      | exact wpAny_bind (wpAny_bind (m := Builtin.Tuple.tupleExact _) (wpAny_newObj_type (wpAny_pure (wpAny_pure ⟨_, rfl, wpAny_pure hh⟩)) hd))
      | exact wpAny_bind (wpAny_bind (m := Builtin.Tuple.tupleExact _) (wpAny_newObj_type (wpAny_pure ⟨_, rfl, wpAny_pure hh⟩) hd))
end
section
variable {F : Fx} {X : Cx} {W : WX} {L L1 : List Addr} {H H1 : Hp} {M : Store} {e : DL.Env} {σ : L2.St} {T : Ends} {k : Nat}
def prtF (d : D) (lo hi st : Option Int) (M : Store) : RE := match d with
  | .tup ds => if st.getD 1 ≠ 0 ∧ (prtI ds.length lo hi st).length ≤ 100000 then ok (.tup (prtT ds lo hi st)) M else none
  | _ => none
def prtD (da : DenE) (dl dh dt : DenO) : DenE := fun e M => bindE (da e M) fun d M1 => bindE (dl e M1) fun l M2 => bindE (dh e M2) fun h M3 => bindE (dt e M3) fun t M4 => prtF d l h t M4
/-- a part of a tuple -/
theorem de_prt {x : Expr} {lo hi st : Option Expr} {da : DenE} {dl dh dt : DenO} {pos p2 : Pos} (ha : DE F X W x da) (hl : DO F X W lo dl) (hh : DO F X W hi dh) (ht : DO F X W st dt) (hK : X.K = F.K := by rfl) : DE F X W (.Subscript x (.Slice lo hi st p2) pos) (prtD da dl dh dt) := by
  obtain ⟨ta, pa, qa⟩ := ha
  obtain ⟨tl, pl, ql⟩ := hl
  obtain ⟨th, ph, qh⟩ := hh
  obtain ⟨tt, pt, qt⟩ := ht
  refine ⟨fun σ H Q => ta σ H fun x H1 => tl σ H1 fun l H2 => th σ H2 fun u H3 => tt σ H3 fun t H4 => ∃ a vs, x = .ref a ∧ SqT X.K H4 a vs ∧ t.getD 1 ≠ 0 ∧ (prtI vs.length l u t).length ≤ 100000 ∧ (whole vs.length l u t = true → Q (.ref a) H4) ∧ (whole vs.length l u t = false → ∀ p, H4 p = none → Q (.ref p) (upd H4 p (.tup ((prtI vs.length l u t).filterMap (vs[·]?))))),
    ⟨fun p₀ s₀ σ₀ H₀ Q₀ I₀ h₀ => ?_⟩, fun e M L σ H Q sr p => ?_⟩
  · refine PyProof.Rows.Subscript_ (thn (pa.run p₀ s₀ σ₀ H₀ _ I₀ h₀) fun v s1 ⟨x1, H1, I1, r1, q1⟩ => ?_)
    refine wpAny_Slice (thn (pl.run p₀ s1 σ₀ H1 _ I1 q1) fun vl s2 ⟨l, H2, I2, pl, q2⟩ => thn (ph.run p₀ s2 σ₀ H2 _ I2 q2) fun vu s3 ⟨u, H3, I3, pu, q3⟩ => ?_)
    refine thn (pt.run p₀ s3 σ₀ H3 _ I3 q3) fun vt s4 ⟨t, H4, I4, pst, q4⟩ => ?_
    obtain ⟨a, vs, rfl, hq, h0, hz0, hx1, hx2⟩ := q4
    have rv : v = Value.ref a := r1
    subst rv
    have I5 : L2.Inv X p₀ σ₀ H4 { s4 with heap := s4.heap.push { cls := .type "slice", data := .fields #[vl, vu, vt] } } := I4.kept (t' := s4.toks) fun b ob z => Heap.get?_push_of_some _ z
    obtain ⟨its, rz, htp, hz⟩ := I5.tuple hq
    have hln : its.toArray.size = vs.length := by rw [List.size_toArray]; exact rz.length.symm
    obtain ⟨ops, hops⟩ : ∃ ops, subscripted (.Slice lo hi st p2) false (.ref a) (.ref s4.heap.objs.size) = operate ops (getItem (.ref a) (.ref s4.heap.objs.size)) := by
      cases st with
      | none => exact ⟨_, rfl⟩
      | some y => exact ⟨_, rfl⟩
    have lz : ((prtI vs.length l u t).filterMap (vs[·]?)).length ≤ sizeLine := Nat.le_trans (List.length_filterMap_le _ _) (Nat.le_trans hz0 (by decide))
    refine PyProof.Rows.tail_any (ops := ops) htp.typeIs PyProof.Rows.slot_tuple_getitem.lookup (getItem_tup htp (Heap.IsSliceOf.new _ vl vu vt) pl pu pst h0 (fun hw => ?_) (fun hw => ?_) (by rw [hln]; exact Nat.le_trans hz0 (by decide))) hops
    · rw [hln] at hw
      exact ⟨.ref a, H4, I5, rfl, hx1 hw⟩
    · rw [hln] at hw ⊢
      have hsz : ({ s4 with heap := s4.heap.push { cls := .type "slice", data := .fields #[vl, vu, vt] } } : Shared).heap.objs.size ≤ _ := Nat.le_refl _
      refine ⟨.ref _, _, I5.laid (o := .tup ((prtI vs.length l u t).filterMap (vs[·]?))) (t' := s4.toks) (fun b ob z => Heap.get?_push_of_some _ z) hsz ⟨lz, _, vals_pick rz _, PyProof.Rows.IsTup.new _ _⟩, rfl, hx2 hw _ (I5.hok.fresh hsz)⟩
  · refine qa e M L σ H _ sr (PostG.bind (fun d1 M1 L1 H1 v1 s1 r1 rv1 q => ?_) p)
    refine ql e M1 L1 σ H1 _ r1 (PostG.bind (fun d2 M2 L2 H2 v2 s2 r2 rv2 q => ?_) q)
    refine qh e M2 L2 σ H2 _ r2 (PostG.bind (fun d3 M3 L3 H3 v3 s3 r3 rv3 q => ?_) q)
    refine qt e M3 L3 σ H3 _ r3 (PostG.bind (fun d4 M4 L4 H4 v4 s4 r4 rv4 q => ?_) q)
    subst rv2 rv3 rv4
    have rv := Rep.stay r3.m s4 d1 v1 (Rep.stay r2.m s3 d1 v1 (Rep.stay r1.m s2 d1 v1 rv1))
    unfold prtF at q
    split at q
    · rename_i ds
      obtain ⟨a, vs, rfl, a2, a3⟩ := rv
      split at q
      · rename_i hc
        have hl := reps_len a3
        refine ⟨a, vs, rfl, .inl (.inl a2), hc.1, by rw [← hl]; exact hc.2, fun hw => ?_, fun hw p' hp => ?_⟩
        · unfold prtT at q
          rw [← hl] at hw
          rw [if_pos hw] at q
          exact q.ok r4 ⟨a, vs, rfl, a2, a3⟩
        · unfold prtT at q
          rw [← hl] at hw ⊢
          rw [if_neg (by rw [hw]; exact fun z => Bool.noConfusion z)] at q
          exact post_tup q r4 (reps_pick a3 _) hp
      · exact False.elim q
    · exact False.elim q
end
end DL
namespace DL
open PySem L2
def clsUs (F : Fx) : List D → Option (List Value)
  | [] => some []
  | t :: ts => match clsU F t, clsUs F ts with
    | some u, some us => some (u :: us)
    | _, _ => none
def anyS (sub : String → D → Option Bool) (c : String) : List D → Option Bool
  | [] => some false
  | t :: ts => match sub c t, anyS sub c ts with
    | some b, some r => some (b || r)
    | _, _ => none
def isiB (sub : String → D → Option Bool) : List D → Store → RE
  | [.exc c fs, .tup (t :: ts)], M => match anyS sub c (t :: ts) with
    | some b => ok (.bl b) M
    | none => none
  | ds, M => isiA sub ds M
def rIsiXT (K : PySem.W.Frag) : List V → Hp → VK → Prop := fun vs H Q => ∃ (a tp C : Addr) (cs : List V) (us : List Value) (b : Bool), vs = [.ref a, .ref tp] ∧ SqT K H tp cs ∧ Paired ClsV cs us ∧ (∃ dd, ExAt H C a dd ∧ ∀ x, dd = some x → ∃ ws, H x = some (.xd ws)) ∧ L2.ExcC K C ∧ PySem.W.kitAny K (.ref C) us = some b ∧ Q (.bl b) H
section
variable {F : Fx} {X : Cx} {W : WX} {L L1 : List Addr} {H H1 : Hp} {M : Store} {e : DL.Env} {σ : L2.St} {T : Ends} {k : Nat}
theorem callr_isiXT : CallR X (.builtin "isinstance") (rIsiXT X.K) := by
  intro p₀ s₀ σ₀ H₀ vs us Q₀ I₀ r h
  obtain ⟨a, tp, C, cs, ws, b, rfl, hT, hp, hx, ec, hk, q⟩ := h
  obtain ⟨u1, u2, eu, r1, r2⟩ := vals2 r
  subst eu
  cases r1
  cases r2
  obtain ⟨dd, ⟨φ, h1, h2⟩, hdd⟩ := hx
  obtain ⟨hφ, _, _⟩ := (show ObjOk X.prog X.w H₀ s₀.heap a (.ext φ) from I₀.hok a _ h1)
  obtain ⟨oe, vv, g1, g2, g3, g4⟩ := h2 _ hφ
  have J : ∃ od, PySem.W.InstAt s₀.heap a oe C od := by
    obtain ⟨ocl, od, oda, osl⟩ := oe
    dsimp only at g2 g3 g4
    subst g2 g3 g4
    cases od with
    | none => exact ⟨none, g1, rfl, rfl, trivial⟩
    | some x =>
      obtain ⟨ws, hx⟩ := hdd x rfl
      obtain ⟨mA, ⟨ob, _, _, hob, _⟩, _⟩ := (show ObjOk X.prog X.w H₀ s₀.heap x (.xd ws) from I₀.hok x _ hx)
      exact ⟨some ob, g1, rfl, rfl, hob⟩
  obtain ⟨od, J⟩ := J
  obtain ⟨its, rv, ⟨o, o1, o2, n, o3⟩, _⟩ := I₀.tuple hT
  have e3 := ClsV.all hp rv
  subst e3
  obtain ⟨ocl, odd, odt, osl⟩ := o
  simp only at o2 o3
  subst o2 o3
  exact PySem.W.kia_tup (exc_kit ec) I₀.kIn J o1 hk (fun z => nomatch z) fun tk => ⟨.bl b, H₀, I₀.kept (t' := tk) fun _ _ z => z, rfl, q⟩
theorem clsV_of {t : D} {u : Value} {v : V} (h : clsU F t = some u) (r : Rep F L H t v) : ClsV v u := by
  cases t with
  | ty S =>
    have z : v = .ty S := r
    cases Option.some.inj h
    rw [z]
    exact .ty S
  | cls c2 =>
    obtain ⟨C2, rfl, hC2⟩ := r
    have z : (F.cl c2).map Value.ref = some u := h
    rw [hC2] at z
    cases Option.some.inj z
    exact .own C2
  | _ => cases h
theorem paired_of : ∀ {ts : List D} {us : List Value} {cs : List V}, clsUs F ts = some us → Reps F L H ts cs → Paired ClsV cs us
  | [], us, cs, h, r => by
    cases h
    have z : cs = [] := r
    rw [z]
    exact .nil
  | t :: ts, us, cs, h, ⟨v, r, e, h1, h2⟩ => by
    unfold clsUs at h
    split at h
    · rename_i u us' a b
      cases h
      subst e
      exact .cons (clsV_of a h1) (paired_of b h2)
    · cases h
theorem anyS_kit {sub : String → D → Option Bool} {c : String} {C : Addr} (hs : ∀ c t b C u, F.cl c = some C → clsU F t = some u → sub c t = some b → L2.ExcC F.K C ∧ PySem.W.kitOne F.K (.ref C) u = some b) (hC : F.cl c = some C) (ec : L2.ExcC F.K C) :
    ∀ {ts : List D} {us : List Value} {b : Bool}, clsUs F ts = some us → anyS sub c ts = some b → PySem.W.kitAny F.K (.ref C) us = some b
  | [], us, b, h, g => by
    cases h
    cases g
    rfl
  | t :: ts, us, b, h, g => by
    unfold clsUs at h
    split at h
    · rename_i u us' h1 h2
      cases h
      unfold anyS at g
      split at g
      · rename_i b1 r1 z1 z2
        cases g
        have ih := anyS_kit hs hC ec h2 z2
        unfold PySem.W.kitAny
        rw [(hs c t b1 C u hC h1 z1).2]
        cases b1 with
        | true => rfl
        | false => exact ih
      · cases g
    · cases h
theorem clsUs_of {sub : String → D → Option Bool} {c : String} (hu : ∀ c t b, sub c t = some b → ∃ u, clsU F t = some u) : ∀ {ts : List D} {b : Bool}, anyS sub c ts = some b → ∃ us, clsUs F ts = some us
  | [], _, _ => ⟨[], rfl⟩
  | t :: ts, b, h => by
    unfold anyS at h
    split at h
    · rename_i b1 r1 z1 z2
      obtain ⟨u, e1⟩ := hu c t b1 z1
      obtain ⟨us, e2⟩ := clsUs_of hu z2
      exact ⟨u :: us, by unfold clsUs; rw [e1, e2]⟩
    · cases h
theorem isiB_ok {sub : String → D → Option Bool} (hs : ∀ c t b C u, F.cl c = some C → clsU F t = some u → sub c t = some b → L2.ExcC F.K C ∧ PySem.W.kitOne F.K (.ref C) u = some b) (hu : ∀ c t b, sub c t = some b → ∃ u, clsU F t = some u) :
    CallOk F (fun vs H Q => rIsiXT F.K vs H Q ∨ (rIsiX F.K vs H Q ∨ rIsi F.K vs H Q)) (isiB sub) := fun ds M L H e σ W vs Q sr rv p => by
  unfold isiB at p
  split at p
  · rename_i c fs t ts
    split at p
    · rename_i b hb
      obtain ⟨v, v', rfl, h1, h2⟩ := reps2 rv
      obtain ⟨a, C, dd, rfl, hC, hx, _, hdd⟩ := h1
      obtain ⟨tp, cs, rfl, q1, q2⟩ := h2
      have hd0 : ∀ x, dd = some x → ∃ ws, H x = some (.xd ws) := fun x z => by
        subst z
        obtain ⟨ws, q1, _⟩ := hdd
        exact ⟨ws, q1⟩
      obtain ⟨us, hus⟩ := clsUs_of (F := F) hu hb
      have ec : L2.ExcC F.K C := by
        have hb2 := hb
        unfold anyS at hb2
        split at hb2
        · rename_i b1 r1 z1 z2
          obtain ⟨u, e1⟩ := hu c _ b1 z1
          exact (hs c _ b1 C u hC e1 z1).1
        · cases hb2
      exact .inl ⟨a, tp, C, cs, us, b, rfl, (.inl (.inl q1)), paired_of hus q2, ⟨dd, hx, hd0⟩, ec, anyS_kit hs hC ec hus hb, p.ok sr rfl⟩
    · exact False.elim p
  · exact .inr (isiA_ok hs hu _ M L H e σ W vs Q sr rv p)
end
end DL
namespace DL
open PySem L2
section
variable {F : Fx} {X : Cx} {W : WX} {L L1 : List Addr} {H H1 : Hp} {M : Store} {e : DL.Env} {σ : L2.St} {T : Ends} {k : Nat}
def ownAddS (i : Nat) (da db : DenE) : DenS := fun e M => thenS (da e M) e fun d1 M1 => thenS (db e M1) e fun d2 M2 => match getW M2 d1, getW M2 d2 with
  | some a, some b => if a.length + b.length ≤ 100000 then some (.nx (e.set i (some (.loc M2.length))), M2 ++ [.lst (a ++ b)]) else none
  | _, _ => none
theorem ds_ownAdd (i : Nat) {x : Str} {a b : Expr} {da db : DenE} {p2 pos pos' : Pos} (hN : X.N.Nodup) (ha : DE F X W a da) (hb : DE F X W b db) (hi : X.N[i]? = some x := by rfl) (hx : Loc X.env.scope x := by first | exact Or.inl rfl | exact Or.inr rfl) (hs : swapsWith (.BinOp a .Add b p2) (some (.Name x pos')) pos.line X.env = pure false := by rfl)
    (hf : X.fn x = true ∨ X.env.scope.names.lookup x = some .local := by first | exact .inl rfl | exact .inr rfl) : DS F X W (.Assign [.Name x pos'] (.BinOp a .Add b p2) pos) (ownAddS i da db) := by
  obtain ⟨ta, p1, q1⟩ := ha
  obtain ⟨tb, p2, q2⟩ := hb
  refine ⟨_, ps_set hN hi hx (pe_op op_cat p1 p2) hs hf, fun e M L σ H T sr pp => q1 e M L σ H _ sr (post_then (fun d1 M1 L1 H1 v1 s1 r1 rv1 q => ?_) pp)⟩
  refine q2 e M1 L1 σ H1 _ r1 (post_then (fun d2 M2 L2 H2 v2 s2 r2 rv2 q => ?_) q)
  split at q
  · rename_i xs ys h1 h2
    obtain ⟨a, vs, rfl, a2, a3⟩ := getW_lst r2.m h1 (Rep.stay r1.m s2 d1 v1 rv1)
    obtain ⟨b, ws, rfl, b2, b3⟩ := getW_lst r2.m h2 rv2
    split at q
    · rename_i hz
      have l1 := reps_len a3
      have l2 := reps_len b3
      refine ⟨a, b, vs, ws, rfl, rfl, a2, b2, by rw [← l1, ← l2]; exact sz_ok hz, fun p' hp => ?_⟩
      obtain ⟨m3, s3⟩ := SM.own r2.m hp (reps_app a3 b3)
      have r3 := r2.stay s3 m3
      refine q _ _ _ s3 (r3.set i ⟨p', rfl, ?_⟩)
      rw [← r2.m.len, List.getElem?_append_right (Nat.le_refl _), Nat.sub_self]
      rfl
    · exact False.elim q
  · exact False.elim q
theorem di_rng2 {tg a b : Expr} {da db : DenE} {p pos : Pos} (hm : X.mg "range" = none) (ha : DE F X W a da) (hb : DE F X W b db) (hg : Gl X "range" := by rfl) (hse : starEach [a, b] X.env = [(false, eval a X.env), (false, eval b X.env)] := by rfl) (hse2 : starEach [b] X.env = [(false, eval b X.env)] := by rfl)
    (hst : starEach (a :: [b]) X.env = (false, eval a X.env) :: starEach [b] X.env := by rfl) (hst2 : starEach (b :: []) X.env = (false, eval b X.env) :: starEach [] X.env := by rfl) :
    DI F X W tg (.Call (.Name "range" p) [a, b] [] pos) (rng2 (consA da (consA db nilA))) := by
  obtain ⟨t, pa, qa⟩ := da_cons ha (da_cons hb da_nil hst2) hst
  refine ⟨_, pi_range2 hg hm pa hse hse2, fun e M L σ H R sr pp => qa e M L σ H _ sr (PostG.bind (fun ds M1 L1 H1 vs s1 r1 rv p2 => ?_) pp)⟩
  split at p2
  · rename_i i j
    obtain ⟨v, v', rfl, h1, h2⟩ := reps2 rv
    obtain rfl : v = .int i := h1
    obtain rfl : v' = .int j := h2
    split at p2
    · rename_i hz
      have z : -(2 ^ 62) ≤ i ∧ i < 2 ^ 62 := of_decide_eq_true hz.1
      have z' : -(2 ^ 62) ≤ j ∧ j < 2 ^ 62 := of_decide_eq_true hz.2
      exact ⟨i, j, rfl, ⟨z.1, z.2, z'.1, z'.2⟩, p2.ok r1 walk_rng⟩
    · exact False.elim p2
  · exact False.elim p2
def DSet (F : Fx) (X : Cx) (W : WX) (i : Nat) (st : Stmt) (da : DenE) : Prop :=
  ∃ t, PS X st (tAsg t (gName i)) ∧ ∀ (e : DL.Env) (M : Store) (L : List Addr) (σ : L2.St) (H : Hp) (Q : VK), SR F L H M e σ → Post F e L H σ W Q (da e M) → t σ H Q
theorem DSet.ds {i : Nat} {st : Stmt} {da : DenE} (h : DSet F X W i st da) : DS F X W st (asgS i da) := by
  obtain ⟨t, p, q⟩ := h
  refine ⟨_, p, fun e M L σ H T sr pp => q e M L σ H _ sr (post_then (fun d M1 L1 H1 v s1 r1 rv q2 => ?_) pp)⟩
  exact q2 L1 H1 _ (Stp.refl L1 H1) (r1.set i rv)
theorem DSet.cut {i : Nat} {st : Stmt} {da : DenE} (h : DSet F X W i st da) : DSet F X W i st (cutE da) := by
  obtain ⟨t, p, q⟩ := h
  exact ⟨t, p, fun e M L σ H Q sr pp => q e M L σ H Q sr (post_cut sr pp)⟩
theorem dset_comp (i : Nat) {y : Str} {py spos : Pos} {elt tg iter : Expr} {ifs : List Expr} {scope : Scope} {own : List (Str × Nat)} {pos : Pos} {di : DenI} {g : TG} {set : D → DL.Env → Option DL.Env} {dt de : DenE} (d : Dc X W k) (hN : X.N.Nodup) (hi : DI F X W tg iter di) (bo : BlkOk X.N X.env.scope scope own)
    (hg : ∀ (s : Shared) (H : Hp) (C : Addr) (cl : List (Str × Addr)) (fp : List Addr), PG (BX X scope s H C cl fp) tg g) (hgo : TgOk F (own.map (·.2)) g set)
    (ht : ∀ (s : Shared) (H : Hp) (C : Addr) (cl : List (Str × Addr)) (fp : List Addr), Dc (BX X scope s H C cl fp) W0 k → PTs (BX X scope s H C cl fp) ifs (canT F W0 dt))
    (he : ∀ (s : Shared) (H : Hp) (C : Addr) (cl : List (Str × Addr)) (fp : List Addr), Dc (BX X scope s H C cl fp) W0 k → DE F (BX X scope s H C cl fp) W0 elt de)
    (hk : X.env.scope.kind = .function := by rfl) (hy : X.N[i]? = some y := by rfl) (hyl : X.env.scope.names.lookup y = some .local := by rfl) (hl : (py.line == pos.line) = true := by rfl) (ha : (scope.names.any fun (n, k) => n == y && (k == .local || k == .cell)) = false := by rfl) (hs : ∀ x, foldedSetIterable iter X.env x = pure x := by intro _; rfl) :
    DSet F X W i (.Assign [.Name y py] (.ListComp elt [⟨tg, iter, ifs, 0⟩] scope pos) spos) (compD set dt de (own.map (·.2)) di) := by
  obtain ⟨wi, pi, qi⟩ := hi
  exact ⟨_, ps_setLc d.calm hN hy hyl (sw_true hk hyl hl ha) pi bo hg (fun s H C cl fp => ht s H C cl fp d.blk) (fun s H C cl fp => (he s H C cl fp d.blk).can) hs, comp_t qi hgo⟩
def slpF (d : D) (lo hi st : Option Int) (M : Store) : RE := match d with
  | .tup ds => prtF (.tup ds) lo hi st M
  | d => slcF d lo hi st M
def slpD (da : DenE) (dl dh dt : DenO) : DenE := fun e M => bindE (da e M) fun d M1 => bindE (dl e M1) fun l M2 => bindE (dh e M2) fun h M3 => bindE (dt e M3) fun t M4 => slpF d l h t M4
theorem slp_or {da : DenE} {dl dh dt : DenO} : slpD da dl dh dt e M = slD da dl dh dt e M ∨ slpD da dl dh dt e M = prtD da dl dh dt e M := by
  unfold slpD slD prtD
  cases da e M with
  | none => exact .inl rfl
  | some z =>
    obtain ⟨o, M1⟩ := z
    cases o with
    | exc c fs => exact .inl rfl
    | val d =>
      cases d with
      | tup ds => exact .inr rfl
      | _ => exact .inl rfl
theorem de_slp {x : Expr} {lo hi st : Option Expr} {da : DenE} {dl dh dt : DenO} {pos p2 : Pos} (ha : DE F X W x da) (hl : DO F X W lo dl) (hh : DO F X W hi dh) (ht : DO F X W st dt) (hK : X.K = F.K := by rfl) : DE F X W (.Subscript x (.Slice lo hi st p2) pos) (slpD da dl dh dt) := by
  obtain ⟨t1, p1, q1⟩ := de_sl (pos := pos) (p2 := p2) ha hl hh ht hK
  obtain ⟨t2, p2, q2⟩ := de_prt (pos := pos) (p2 := p2) ha hl hh ht hK
  refine ⟨fun σ H Q => t1 σ H Q ∨ t2 σ H Q, ⟨fun pins s σ H Q I h => ?_⟩, fun e M L σ H Q sr pp => ?_⟩
  · rcases h with h | h
    · exact p1.run pins s σ H Q I h
    · exact p2.run pins s σ H Q I h
  · rcases slp_or (da := da) (dl := dl) (dh := dh) (dt := dt) (e := e) (M := M) with z | z
    · rw [z] at pp
      exact .inl (q1 e M L σ H Q sr pp)
    · rw [z] at pp
      exact .inr (q2 e M L σ H Q sr pp)
end
end DL
namespace DL
open PySem L2
section
variable {F : Fx} {X : Cx} {W : WX} {L L1 : List Addr} {H H1 : Hp} {M : Store} {e : DL.Env} {σ : L2.St} {k : Nat}
theorem de_lamC {x a : Str} {g c P : Addr} {fd : FuncData} {st : Stmt} {Ng : List Str} {n : Nat} {params : Arguments} {body : Expr} {scope : Scope} {p lpos pos : Pos} {db : DenE} {gS : D → (Store → RE) → DenS} {gden : (Store → RE) → Store → RE}
    (d : Dc X W (k + 3)) (hm : X.mg x = some (.ref g)) (Fg : Fun X.K x x st g fd) (hb : Binds X.K fd [a] []) (Sg : FnScope Ng [a] (defScope st)) (hn : Ng.length = n)
    (TB : LamX.TabB X.base X.mg c P) (hcode : X.env.code = .ref c) {qual : Str} (hq : X.env.qual = qual) (hmT : (P, qual ++ "<lambda>") ∈ F.T) (hu : ∀ y ∈ F.T, y.1 = P → y.2 = qual ++ "<lambda>") (Ls : LamX.LamS X.env.scope scope)
    (hbody : ∀ (A : Around) (outer : List PySem.Env) (s : Shared) (H : Hp) (E : XK) (f c' : Addr), Dc (LamX.lamCx X A outer s H E scope f c') (fun cls d _ H => E cls d H) k → DE F (LamX.lamCx X A outer s H E scope f c') (fun cls d _ H => E cls d H) body db)
    (hG : ∀ (cdg : Value) (s : Shared) (H : Hp) (cl : D) (cden : Store → RE), Dc (ZCx X Ng x (defScope st) g cdg s H) (fun cls d _ H => E0 cls d H) (k + 2) →
      (∀ (W' : WX) (pn : List (Addr × Obj)) (xe : Value → Shared → Prop) (p1 p2 : Pos), Dc ((ZCx X Ng x (defScope st) g cdg s H).tr pn xe) W' (k + 2) → DE F ((ZCx X Ng x (defScope st) g cdg s H).tr pn xe) W' (.Call (.Name a p1) [] [] p2) (callC 0 cl cden)) →
      DSs F (ZCx X Ng x (defScope st) g cdg s H) (fun cls d _ H => E0 cls d H) (defBody st) (gS cl cden))
    (hden : ∀ (cl : D) (cden : Store → RE) (M : Store), gden cden M = none ∨ cutR M (ofBody n (gS cl cden) [cl] M) = gden cden M)
    (hbind : ∀ (qn : Str) (cells : List (Str × Addr)) (pmv cv ctv : Value), bindArgs (PySem.W.kla_fn "<lambda>" qn params body scope cells pmv cv ctv) ⟨[], []⟩ = pure [])
    (hK : X.K = F.K := by rfl) (hg : Gl X x := by rfl) (hNg : Ng[0]? = some a := by rfl) (hva : Vis (defScope st) a := by first | exact Or.inl rfl | exact Or.inr (Or.inl rfl)) (hdef : defaultsOf params X.env = ([], []) := by rfl)
    (hdb : (x == ("__debug__" : Str)) = false := by decide) (hd1 : (a == ("__debug__" : Str)) = false := by decide) (hd2 : (a == ("__classdict__" : Str)) = false := by decide) :
    DE F X W (.Call (.Name x p) [.Lambda params body scope lpos] [] pos) (fun e M => valOnly (gden (fun M' => db e M') M)) := by
  subst hq
  refine ⟨fun σ H Q => ∃ (e : DL.Env) (M : Store) (L : List Addr), SR F L H M e σ ∧ Post F e L H σ W Q (valOnly (gden (fun M' => db e M') M)), ⟨fun p₀ s₀ σ H Q I₀ h₀ => ?_⟩, fun e M L σ H Q sr pp => ⟨e, M, L, sr, pp⟩⟩
  obtain ⟨e, M, L, sr, pp⟩ := h₀
  refine wpAny_Call_Name_kw (ld_glob I₀ hg hm ?_ hdb)
  refine PySem.W.callWith_K (h₀ := X.base) I₀.ok.mod.kin Fg.kp ?_ (by rfl) (by rfl)
  show wpAny _ _ (spliced ((false, eval (.Lambda params body scope lpos) X.env) :: backTo pos (starEach [] X.env))) _ _ s₀
  refine Calls.spliced_cons (LamX.lam_make2 I₀ TB hcode hmT hu sr.m.tbs hdef (Ls.has I₀.ok) fun f c' pm ctv H1 s1 I1 eN T1 hf hfn hfr hco => ?_)
  refine Calls.spliced_nil (And.intro I1.kIn ?_)
  obtain ⟨stp1, m1⟩ := stp_extn sr.m eN T1
  have sr1 : SR F L H1 M e σ := sr.stay stp1 m1
  obtain ⟨oc, od, kV, doc, pmg, an, cdv, ct, osl, hfd, lk, hcd⟩ := Fg.ex
  subst hfd
  obtain ⟨cvs, hc1, hc2⟩ := cap_of (F := F) (L := L) (H := H1) (σ := σ) e 0 fun i dd q => by
    rw [Nat.zero_add]
    exact sr1.e i dd q
  have rcl : Rep F L H1 (.clo f c' (X.env.qual ++ "<lambda>") σ (capI 0 e) (capD e)) (.ref f) := ⟨⟨rfl, hco⟩, cvs, hc1, hc2⟩
  generalize hcl : D.clo f c' (X.env.qual ++ "<lambda>") σ (capI 0 e) (capD e) = cl at rcl
  have rc : codeAny (model X.prog X.w) X.A (.call (.ref g) ⟨[.ref f], []⟩) (CR (L2.CX X.prog X.w) X.stack X.prog X.w H1 s1 Q E0) s1 := by
    refine LamX.run_ofS (N := Ng) (ps := [a]) (us := [.ref f]) (vs := [.ref f]) lk hcd Sg d.room I1.env0 (hb s1 [.ref f] I1.kIn rfl) (.cons rfl .nil) rfl fun hr' => ?_
    have dcZ : Dc (ZCx X Ng x (defScope st) g cdv s1 H1) (fun cls d _ H => E0 cls d H) (k + 2) := ⟨takes_of rfl rfl rfl rfl, hr', rfl, d.gd, passes_of rfl⟩
    obtain ⟨tz, pz, qz⟩ := hG cdv s1 H1 cl (fun M' => db e M') dcZ fun W' pn xe p1 p2 dct => by
      refine ⟨fun σZ HZ QZ => ∃ (eZ : DL.Env) (MZ : Store) (LZ : List Addr), SR F LZ HZ MZ eZ σZ ∧ Post F eZ LZ HZ σZ W' QZ (callC 0 cl (fun M' => db e M') eZ MZ), ⟨fun pZ sZ σZ HZ QZ IZ hZ => ?_⟩, fun eZ MZ LZ σZ HZ QZ sr pp => ⟨eZ, MZ, LZ, sr, pp⟩⟩
      obtain ⟨eZ, MZ, LZ, srZ, ppZ⟩ := hZ
      unfold callC at ppZ
      split at ppZ
      · rename_i dz hdz
        split at ppZ
        · rename_i hz
          subst hz
          obtain ⟨vz, hv1, hv2⟩ := srZ.e 0 dz hdz
          subst hcl
          obtain ⟨⟨rfl, hco2⟩, ws, hw1, hw2⟩ := hv2
          have srD : SR F LZ HZ MZ e σ := ⟨sr.l, srZ.m, fun i dd q => by
            obtain ⟨v, q1, q2⟩ := cap_to (F := F) (L := LZ) (H := HZ) (σ := σ) e 0 ws hw1 hw2 i dd q
            rw [Nat.zero_add] at q1
            exact ⟨v, q1, q2⟩⟩
          refine wpAny_Call_Name_kw (thn ((pe_var (X := (ZCx X Ng x (defScope st) g cdv s1 H1).tr pn xe) (pos := p1) (i := 0) hNg hva hd1 hd2).run pZ sZ σZ HZ (fun v H2 => v = .ref f ∧ H2 = HZ) IZ ⟨.ref f, hv1, rfl, rfl⟩) fun u s2 y => ?_)
          obtain ⟨v, H2, I2, r2, ev, eH⟩ := y
          subst ev
          rw [eH] at I2
          obtain rfl : u = Value.ref f := r2
          have fob := I2.base.keep f _ hf hfn hfr (fun z => nomatch (show f ∈ ([] : List Addr) from z))
          refine PySem.W.callWith_F0 ⟨_, _, _, _, fob⟩ ?_
          have unZ : Un (frs X.stack) [] H1 HZ s1.heap s2.heap := I2.base
          obtain ⟨⟨oc2, vs2, tk2, hoc, hdc, hvc⟩, _, _⟩ := I2.hok c' _ hco2
          have rcl2 : codeAny (model X.prog X.w) (X.A.deeper (PyProof.Rows.envOfC x (defScope st) s1.heap.objs.size g cdv)) (.call (.ref f) ⟨[], []⟩) (CR (L2.CX X.prog X.w) (PyProof.Rows.envOfC x (defScope st) s1.heap.objs.size g cdv :: X.stack) X.prog X.w HZ s2 QZ (WE W' σZ)) s2 := by
            refine PySem.W.kla_callFunE hr'.depth fob rfl Ls.co Ls.gen rfl ⟨c', oc2, vs2, tk2, rfl, hoc, hdc, hvc⟩ ?_
            rw [hbind]
            refine wpAny_pure (wpAny_newFunctionEnv (fun y hy => (Ls.own y hy).2) (fun y hy => absurd hy (by simp)) (fun h₁ hns hsb => ⟨I2.nolimit.fresh _ hsb, ?_⟩) Ls.kind)
            show codeAny _ _ (.expr body (LamX.lamEnv X scope s2.heap.objs.size f c')) _ _
            have kp2 : ∀ b o, s2.heap.get? b = some o → h₁.get? b = some o := fun b o z => hsb.extBut b o (Nat.ne_of_lt (Heap.lt_size z)) (Heap.get?_push_of_some _ z)
            have J : L2.Inv (LamX.lamCx X (X.A.deeper (PyProof.Rows.envOfC x (defScope st) s1.heap.objs.size g cdv)) (PyProof.Rows.envOfC x (defScope st) s1.heap.objs.size g cdv :: X.stack) s2 HZ (WE W' σZ) scope f c') [] σ HZ { s2 with heap := h₁, toks := s2.toks + ([] : List (Str × Value)).length } :=
              LamX.lam_start2 I1 Ls I2.env0 hr'.hd unZ hns kp2
            obtain ⟨tb, pb, qb⟩ := hbody _ _ s2 HZ (WE W' σZ) f c' ⟨takes_of rfl rfl rfl rfl, ((hr'.mono (by omega : k + 1 ≤ k + 2)).deeper _), rfl, d.gd, passes_of rfl⟩
            have key : ∀ r : RE, Post F eZ LZ HZ σZ W' QZ r → Post F e LZ HZ σ (fun cls d _ H => WE W' σZ cls d H) QZ r := fun r => by
              cases r with
              | none => exact id
              | some y =>
                obtain ⟨oo, M5⟩ := y
                cases oo with
                | val d5 => exact fun q L5 H5 v5 s5 r5 rv5 => q L5 H5 v5 s5 (srZ.stay s5 r5.m) rv5
                | exc c5 fs5 => exact fun q L5 H5 cls5 dd5 s5 r5 x5 => q L5 H5 cls5 dd5 s5 (srZ.stay s5 r5.m) x5
            have ppD := key _ ppZ
            refine PySem.W.kla_codeExpr (wpAny_mono (pb.run [] _ _ HZ QZ J (qb e MZ LZ σ HZ QZ srD ppD)) (fun v s3 hq => ?_) fun y s3 hq => hq)
            obtain ⟨v3, H3, J3, rv3, q3⟩ := hq
            exact ⟨v3, H3, J3.os, J3.bare, J3.base, J3.hok, rv3, q3⟩
          refine wpAny_call (codeAny_mono rcl2 fun res s3 hq => ?_)
          cases res with
          | error y => exact passAt dct.tk σZ pZ HZ s2 y s3 I2 hq
          | ok fl =>
            cases fl with
            | ret u => exact I2.after hq
            | next => exact (show False from hq).elim
            | brk => exact (show False from hq).elim
            | cont => exact (show False from hq).elim
        · exact False.elim ppZ
      · exact False.elim ppZ
    have rl : Reps F L H1 [cl] [.ref f] := ⟨.ref f, [], rfl, rcl, rfl⟩
    obtain ⟨se1, se2⟩ := start_env n rl Ng hn
    refine ⟨tz, pz, qz _ M L _ H1 _ ⟨se2, m1, se1⟩ ?_⟩
    have pp1 := PostG.go stp1 pp
    have pp2 : Post F e L H1 σ W Q (ofBody n (gS cl (fun M' => db e M')) [cl] M) ∧ ∀ c5 fs5 M5, ofBody n (gS cl (fun M' => db e M')) [cl] M ≠ some (.exc c5 fs5, M5) := by
      rcases hden cl (fun M' => db e M') M with zn | zn
      · rw [zn] at pp1
        exact (show False from pp1).elim
      · rw [← zn] at pp1
        generalize ofBody n (gS cl (fun M' => db e M')) [cl] M = r at pp1
        refine ⟨post_cut sr1 ?_, fun c5 fs5 M5 z => ?_⟩
        · revert pp1
          cases cutR M r with
          | none => exact id
          | some y =>
            obtain ⟨o, M5⟩ := y
            cases o with
            | val d => exact id
            | exc c fs => exact False.elim
        · rw [z] at pp1
          unfold cutR at pp1
          simp only at pp1
          split at pp1
          · exact (show False from pp1).elim
          · exact (show False from pp1).elim
    obtain ⟨pp1, nex⟩ := pp2
    unfold ofBody at nex
    unfold ofBody at pp1
    revert pp1
    cases hgs : gS cl (fun M' => db e M') (List.map some [cl] ++ List.replicate (n - [cl].length) none) M with
    | none => exact id
    | some y =>
      obtain ⟨fl, M'⟩ := y
      cases fl with
      | nx e' => exact fun q L' H' σ' s' r' => q L' H' .non s' (sr1.stay s' r'.m) rfl
      | rt d' => exact fun q L' H' v s' r' rv => q L' H' v s' (sr1.stay s' r') rv
      | ex c5 fs5 e' => exact fun q => (nex c5 fs5 M' (by rw [hgs] <;> rfl)).elim
      | bk e' => exact False.elim
      | ct e' => exact False.elim
  refine wpAny_call (codeAny_mono rc fun res s2 hq => ?_)
  cases res with
  | error y => exact passL p₀ σ H1 s1 y s2 I1 hq
  | ok fl =>
    cases fl with
    | ret u => exact I1.after hq
    | next => exact (show False from hq).elim
    | brk => exact (show False from hq).elim
    | cont => exact (show False from hq).elim
theorem bd_mkD {K : PySem.W.Frag} {a T : Addr} {oc : Value} {od : Option Addr} {fd fd' : FuncData} {osl : Array (Option Value)} {s : Shared} {args : Args} {bs : List (Str × Value)} {o : Obj} {items : Array Value} {n : Nat} (h1 : K.lookup a = some ⟨oc, od, .func fd, osl⟩) (KX : K.In s.heap) (h2 : ∃ oc od osl, K.lookup a = some ⟨oc, od, .func fd', osl⟩) (hd : fd.defaults = .ref T) (ho : K.lookup T = some o) (hs : o.data = .seq items n)
    (h3 : ∃ k : Option (Array Value) → Sem (List (Str × Value)), bindArgs fd args = seqItems? fd.defaults >>= k ∧ k (some items) = pure bs) : BindsTo s fd' args bs := by
  obtain ⟨oc', od', osl', h2⟩ := h2
  rw [h1] at h2
  cases h2
  obtain ⟨k, k1, k2⟩ := h3
  exact BindsTo.of_defaults hd (KX _ _ ho) hs k1 k2
theorem callr_isiAll : CallR X (.builtin "isinstance") (fun vs H Q => rIsiXT X.K vs H Q ∨ (rIsiX X.K vs H Q ∨ rIsi X.K vs H Q)) := orC callr_isiXT callr_isi
theorem de_numE {x : Str} {i : Int} {pos : Pos} (hm : ∃ t, X.mg x = some (.int i t)) (hg : Gl X x := by rfl) (hd : (x == ("__debug__" : Str)) = false := by decide) : DE F X W (.Name x pos) (cD (.int i)) := by
  obtain ⟨t, h⟩ := hm
  exact de_num h hg hd
end
end DL
namespace DL
open PySem L2
def Bd (k : Nat) (i : Int) : Prop := i.natAbs < 2 ^ k
theorem Bd.mono {j k : Nat} {i : Int} (h : Bd j i) (hk : j ≤ k) : Bd k i := Nat.lt_of_lt_of_le h (Nat.pow_le_pow_right (by decide) hk)
theorem Bd.lg {k : Nat} {a : Int} (h : Bd k a) : a.natAbs.log2 ≤ k := by
  unfold Bd at h
  by_cases h0 : a.natAbs = 0
  · rw [h0]; simp
  · exact Nat.le_of_lt ((Nat.log2_lt h0).mpr h)
theorem bindE_v {α β : Type} (d : α) (M : Store) (f : α → Store → RD β) : bindE (ok d M) f = f d M := rfl
theorem thenS_v {α : Type} (d : α) (M : Store) (e : DL.Env) (f : α → Store → RS) : thenS (ok d M) e f = f d M := rfl
theorem bindE_x {α β : Type} (c : String) (fs : List (Str × D)) (M : Store) (f : α → Store → RD β) : bindE (some (.exc c fs, M)) f = some (.exc c fs, M) := rfl
theorem thenS_x {α : Type} (c : String) (fs : List (Str × D)) (M : Store) (e : DL.Env) (f : α → Store → RS) : thenS (some (.exc c fs, M)) e f = some (.ex c fs e, M) := rfl
theorem mulE {i j : Int} {M : Store} (h : i.natAbs.log2 + j.natAbs.log2 < 1000000) : mulF (.int i) (.int j) M = ok (.int (i * j)) M := if_pos h
theorem mulB {i j : Int} {k l : Nat} {M : Store} (hi : Bd k i) (hj : Bd l j) (h : k + l < 1000000) : mulF (.int i) (.int j) M = ok (.int (i * j)) M := mulE (by
  have := hi.lg
  have := hj.lg
  omega)
theorem addE {i j : Int} {M : Store} : addF (.int i) (.int j) M = ok (.int (i + j)) M := rfl
theorem subE {i j : Int} {M : Store} : subF (.int i) (.int j) M = ok (.int (i - j)) M := rfl
theorem ix0 (a : D) (r : List D) (M : Store) : ixF (.tup (a :: r)) (.int 0) M = ok a M := by
  unfold ixF
  simp [atI, ixN]
theorem ix1 (a b : D) (r : List D) (M : Store) : ixF (.tup (a :: b :: r)) (.int 1) M = ok b M := by
  have h : atI (a :: b :: r) 1 = some b := by
    unfold atI ixN
    rw [if_pos (by decide), if_pos (by rw [List.length_cons, List.length_cons]; omega)]
    rfl
  unfold ixF
  simp [h]
theorem fdivB {i j : Int} {k : Nat} {M : Store} (hj : Bd k j) (h0 : j ≠ 0) (h : k < 9000) : fdivF (.int i) (.int j) M = ok (.int (i.fdiv j)) M := by
  have h1 : j.natAbs.log2 < 9000 := Nat.lt_of_le_of_lt hj.lg h
  show (if decide (j ≠ 0 ∧ j.natAbs.log2 < 9000) = true then _ else _) = _
  exact if_pos (decide_eq_true ⟨h0, h1⟩)
theorem fmodE {i j : Int} {M : Store} (h0 : j ≠ 0) : fmodF (.int i) (.int j) M = ok (.int (i.fmod j)) M := if_pos (decide_eq_true h0)
theorem fdv {i j : Int} {M : Store} (h0 : 0 < j) (h : Bd 60 j) : fdivF (.int i) (.int j) M = ok (.int (i / j)) M := by
  rw [fdivB h (by omega) (by decide), Int.fdiv_eq_ediv_of_nonneg _ (by omega)]
theorem fmd {i j : Int} {M : Store} (h0 : 0 < j) : fmodF (.int i) (.int j) M = ok (.int (i % j)) M := by
  rw [fmodE (by omega), Int.fmod_eq_emod_of_nonneg _ (by omega)]
theorem eq_int {i j : Int} {M : Store} : eqF (.int i) (.int j) M = ok (.bl (decide (i = j))) M := by
  show ok (D.bl (false != decide (i = j))) M = _
  simp
theorem ne_int {i j : Int} {M : Store} : neF (.int i) (.int j) M = ok (.bl (!decide (i = j))) M := by
  show ok (D.bl (true != decide (i = j))) M = _
  simp
theorem ne_str {x y : Str} {M : Store} : neF (.str x) (.str y) M = ok (.bl (!decide (x = y))) M := by
  show ok (D.bl (true != decide (x = y))) M = _
  simp
theorem lt_int {i j : Int} {M : Store} : ltF (.int i) (.int j) M = ok (.bl (decide (i < j))) M := rfl
theorem le_int {i j : Int} {M : Store} : leF (.int i) (.int j) M = ok (.bl (decide (i ≤ j))) M := rfl
theorem gt_int {i j : Int} {M : Store} : gtF (.int i) (.int j) M = ok (.bl (decide (j < i))) M := rfl
theorem ge_int {i j : Int} {M : Store} : geF (.int i) (.int j) M = ok (.bl (decide (j ≤ i))) M := rfl
theorem seq_nx {a b : DenS} {e e' : DL.Env} {M M' : Store} (h : a e M = some (.nx e', M')) : seqS a b e M = b e' M' := by
  unfold seqS
  rw [h]
theorem seq_rt {a b : DenS} {e : DL.Env} {d : D} {M M' : Store} (h : a e M = some (.rt d, M')) : seqS a b e M = some (.rt d, M') := by
  unfold seqS
  rw [h]
theorem seq_ex {a b : DenS} {e e' : DL.Env} {c : String} {fs : List (Str × D)} {M M' : Store} (h : a e M = some (.ex c fs e', M')) : seqS a b e M = some (.ex c fs e', M') := by
  unfold seqS
  rw [h]
theorem ix_lst {ds : List D} {i : Int} {M : Store} {d : D} (h : atI ds i = some d) : ixF (.lst ds) (.int i) M = ok d M := by
  unfold ixF
  simp [getL, h]
theorem ix_tup {ds : List D} {i : Int} {M : Store} {d : D} (h : atI ds i = some d) : ixF (.tup ds) (.int i) M = ok d M := by
  unfold ixF
  simp [h]
theorem ix_loc {n : Nat} {i : Int} {M : Store} {ds : List D} {d : D} (h : M[n]? = some (.lst ds)) (h2 : atI ds i = some d) : ixF (.loc n) (.int i) M = ok d M := by
  unfold ixF
  simp [getL, h, h2]
theorem ix_scr {ns : List Int} {i : Int} {M : Store} {d : D} (h2 : atI (ns.map D.int) i = some d) : ixF (.scr ns) (.int i) M = ok d M := by
  unfold ixF
  simp [getL, h2]
theorem at_nat {α : Type} {xs : List α} {n : Nat} {x : α} (h : xs[n]? = some x) : atI xs (n : Int) = some x := by
  have lt := (List.getElem?_eq_some_iff.mp h).1
  unfold atI ixN
  rw [if_pos (by omega)]
  rw [if_pos (by omega)]
  show xs[(n : Int).toNat]? = _
  rw [Int.toNat_natCast]
  exact h
theorem len_scr {ns : List Int} {M : Store} : lenF [.scr ns] M = ok (.int (ns.length : Int)) M := by
  unfold lenF
  simp [getL]
theorem len_tup {ds : List D} {M : Store} : lenF [.tup ds] M = ok (.int (ds.length : Int)) M := rfl
theorem len_lst {ds : List D} {M : Store} : lenF [.lst ds] M = ok (.int (ds.length : Int)) M := by
  unfold lenF
  simp [getL]
theorem abs_is {i a : Int} {M : Store} (h : a = (i.natAbs : Int)) : absF [.int i] M = ok (.int a) M := by
  have e : (if i < 0 then -i else i) = a := by split <;> omega
  show ok (D.int (if i < 0 then -i else i)) M = _
  rw [e]
theorem typ_int {i : Int} {M : Store} : typF [.int i] M = ok (.ty "int") M := rfl
theorem typ_tup {ds : List D} {M : Store} : typF [.tup ds] M = ok (.ty "tuple") M := rfl
theorem typ_non {M : Store} : typF [.non] M = ok (.ty "NoneType") M := rfl
theorem typ_lst {ds : List D} {M : Store} : typF [.lst ds] M = ok (.ty "list") M := rfl
theorem tup_tup {ds : List D} {M : Store} : tupcF [.tup ds] M = ok (.tup ds) M := rfl
theorem tup_lst {ds : List D} {M : Store} (h : ds.length ≤ 100000) : tupcF [.lst ds] M = ok (.tup ds) M := by
  unfold tupcF
  simp [getL, h]
theorem tup_loc {n : Nat} {ds : List D} {M : Store} (h : M[n]? = some (.lst ds)) (hl : ds.length ≤ 100000) : tupcF [.loc n] M = ok (.tup ds) M := by
  unfold tupcF
  simp [getL, h, hl]
theorem pow_nat {i : Int} {n : Nat} {M : Store} (h : (i.natAbs.log2 + 1) * n ≤ 134217728) : powF (.int i) (.int (n : Int)) M = ok (.int (i ^ n)) M := by
  show (if decide ((0 : Int) ≤ (n : Int) ∧ (i.natAbs.log2 + 1) * (n : Int).toNat ≤ 134217728) = true then ok (D.int (i ^ (n : Int).toNat)) M else none) = _
  exact if_pos (decide_eq_true ⟨by omega, h⟩)
theorem small_n {n : Nat} (h : n ≤ 1000000) : small62 (n : Int) = true := decide_eq_true (by omega)
theorem small_i {i : Int} (h : i.natAbs ≤ 1000000) : small62 i = true := decide_eq_true (by omega)
mutual
theorem nl_mono (n : Nat) : ∀ d : D, nlD 0 d = true → nlD n d = true
  | .non, _ => rfl
  | .bl _, _ => rfl
  | .int _, _ => rfl
  | .str _, _ => rfl
  | .ty _, _ => rfl
  | .cls _, _ => rfl
  | .ktp _, _ => rfl
  | .scr _, _ => rfl
  | .emp, _ => rfl
  | .tup ds, h => nls_mono n ds h
  | .lst ds, h => nls_mono n ds h
  | .loc k, h => absurd (of_decide_eq_true (p := k < 0) h) (Nat.not_lt_zero k)
  | .exc _ fs, h => nlf_mono n fs h
  | .clo _ _ _ _ _ ds, h => nls_mono n ds h
theorem nls_mono (n : Nat) : ∀ ds : List D, nlDs 0 ds = true → nlDs n ds = true
  | [], _ => rfl
  | d :: ds, h => by
    have h' : (nlD 0 d && nlDs 0 ds) = true := h
    rw [Bool.and_eq_true] at h'
    show (nlD n d && nlDs n ds) = true
    rw [nl_mono n d h'.1, nls_mono n ds h'.2]
    rfl
theorem nlf_mono (n : Nat) : ∀ fs : List (Str × D), nlF 0 fs = true → nlF n fs = true
  | [], _ => rfl
  | (f, d) :: fs, h => by
    have h' : (nlD 0 d && nlF 0 fs) = true := h
    rw [Bool.and_eq_true] at h'
    show (nlD n d && nlF n fs) = true
    rw [nl_mono n d h'.1, nlf_mono n fs h'.2]
    rfl
end
theorem nls_all {n : Nat} : ∀ {ds : List D}, (∀ d ∈ ds, nlD n d = true) → nlDs n ds = true
  | [], _ => rfl
  | d :: ds, h => by
    show (nlD n d && nlDs n ds) = true
    rw [h d List.mem_cons_self, nls_all fun x hx => h x (List.mem_cons_of_mem _ hx)]
    rfl
theorem nls_map {α : Type} {n : Nat} {xs : List α} {f : α → D} (h : ∀ x ∈ xs, nlD n (f x) = true) : nlDs n (xs.map f) = true := nls_all fun d hd => by
  obtain ⟨x, hx, rfl⟩ := List.mem_map.mp hd
  exact h x hx
theorem cutD_nl {n : Nat} {M' : Store} {d : D} (h : nlD n d = true) (hl : ∀ k, d ≠ .loc k) : cutD n M' d = some d := by
  unfold cutD
  split
  · exact absurd rfl (hl _)
  · exact if_pos h
theorem cutD_pd {n : Nat} {M' : Store} {d : D} (h : nlD 0 d = true) : cutD n M' d = some d := cutD_nl (nl_mono n d h) fun k z => by
  rw [z] at h
  exact absurd (of_decide_eq_true (p := k < 0) h) (Nat.not_lt_zero k)
theorem cutD_loc {M X : Store} {ds : List D} (h : nlDs M.length ds = true) : cutD M.length (M ++ .lst ds :: X) (.loc M.length) = some (.lst ds) := by
  unfold cutD
  simp [h]
section
variable {n : Nat} {den : DenS} {args : List D} {e0 e' : DL.Env} {v : D} {M M1 X : Store}
theorem fv_rt (X : Store) (he : args.map some ++ List.replicate (n - args.length) none = e0) (h : den e0 M = some (.rt v, M ++ X)) (hv : nlD 0 v = true) : cutF (ofBody n den) args M = ok v M :=
  cut_val (by unfold ofBody; rw [he, h] <;> rfl) (cutD_pd hv)
theorem fv_rt0 (he : args.map some ++ List.replicate (n - args.length) none = e0) (h : den e0 M = some (.rt v, M)) (hv : nlD 0 v = true) : cutF (ofBody n den) args M = ok v M :=
  fv_rt [] he (by rw [h, List.append_nil]) hv
theorem fv_nx (X : Store) (he : args.map some ++ List.replicate (n - args.length) none = e0) (h : den e0 M = some (.nx e', M ++ X)) : cutF (ofBody n den) args M = ok .non M :=
  cut_val (by unfold ofBody; rw [he, h] <;> rfl) (cutD_pd rfl)
theorem fv_ex {c : String} {fs : List (Str × D)} (X : Store) (he : args.map some ++ List.replicate (n - args.length) none = e0) (h : den e0 M = some (.ex c fs e', M ++ X)) (hv : nlF 0 fs = true) : cutF (ofBody n den) args M = some (.exc c fs, M) :=
  cut_exc (by unfold ofBody; rw [he, h] <;> rfl) (nlf_mono _ fs hv)
/-- the first lists changed, too -/
theorem fv_rt2 (X : Store) (he : args.map some ++ List.replicate (n - args.length) none = e0) (h : den e0 M = some (.rt v, M1 ++ X)) (hl : M1.length = M.length) (hc : ∀ (j : Nat) (ob : Ob), j < M.length → M1[j]? = some ob → M[j]? = some ob ∨ nlOb M.length ob = true) (hv : nlD 0 v = true) : cutF (ofBody n den) args M = ok v M1 :=
  cut_val2 (by unfold ofBody; rw [he, h] <;> rfl) hl hc (cutD_pd hv)
theorem set_ok {ob : Ob} {i : Nat} (h : nlOb M.length ob = true) : ∀ (j : Nat) (o : Ob), j < M.length → (M.set i ob)[j]? = some o → M[j]? = some o ∨ nlOb M.length o = true := fun j o lt q => by
  by_cases hj : i = j
  · subst hj
    rw [List.getElem?_set_self lt] at q
    cases q
    exact .inr h
  · rw [List.getElem?_set_ne hj] at q
    exact .inl q
end
section
variable {α β : Type} {set set1 : D → DL.Env → Option DL.Env} {dt dt1 de : DenE} {vs vs1 : List Nat} {di di1 : DenI} {e : DL.Env} {M M1 : Store} {chk : Store → Prop} {g : α → D} {p : α → Bool} {f : α → D}
theorem compL_at {e0 : DL.Env} (M : Store) (hchk : ∀ acc, chk (M ++ [.lst acc])) : ∀ (xs : List α) (acc : List D), acc.length + xs.length ≤ 100000 →
    (∀ x ∈ xs, ∃ e1, set (g x) e0 = some e1 ∧ (∀ acc, dt e1 (M ++ [.lst acc]) = ok (.bl (p x)) (M ++ [.lst acc])) ∧ (p x = true → ∀ acc, de e1 (M ++ [.lst acc]) = ok (f x) (M ++ [.lst acc]))) →
    compL chk set dt de e0 M.length (xs.map g) (M ++ [.lst acc]) = ok () (M ++ [.lst (acc ++ (xs.filter p).map f)])
  | [], acc, _, _ => by
    unfold compL
    simp [hchk]
  | x :: xs, acc, hl, h => by
    obtain ⟨e1, h1, h2, h3⟩ := h x List.mem_cons_self
    have hl' : acc.length + (xs.length + 1) ≤ 100000 := hl
    have ih := compL_at (e0 := e0) M hchk xs
    show compL chk set dt de e0 M.length (g x :: xs.map g) _ = _
    unfold compL
    rw [if_pos (hchk acc), h1]
    dsimp only
    rw [h2 acc]
    cases hp : p x with
    | false =>
      show compL chk set dt de e0 M.length (xs.map g) (M ++ [.lst acc]) = _
      rw [ih acc (by omega) fun y hy => h y (List.mem_cons_of_mem _ hy), List.filter_cons_of_neg (by rw [hp]; exact Bool.false_ne_true)]
    | true =>
      show bindV (de e1 (M ++ [.lst acc])) _ = _
      rw [h3 hp acc]
      show (match (M ++ [Ob.lst acc])[M.length]? with | some (.lst acc) => _ | _ => none) = _
      rw [List.getElem?_append_right (Nat.le_refl _), Nat.sub_self]
      show (if acc.length < 100000 then _ else none) = _
      rw [if_pos (by omega)]
      have es : (M ++ [Ob.lst acc]).set M.length (.lst (acc ++ [f x])) = M ++ [.lst (acc ++ [f x])] := by
        rw [List.set_append_right _ _ (Nat.le_refl _), Nat.sub_self]
        rfl
      rw [es, ih (acc ++ [f x]) (by rw [List.length_append, List.length_singleton]; omega) fun y hy => h y (List.mem_cons_of_mem _ hy), List.filter_cons_of_pos hp, List.append_assoc]
      rfl
theorem comp_at (xs : List α) (hdi : di e M = ok (xs.map g, chk) M) (hchk : ∀ acc, chk (M ++ [.lst acc])) (hl : xs.length ≤ 100000)
    (h : ∀ x ∈ xs, ∃ e1, set (g x) (wipeE e vs) = some e1 ∧ (∀ acc, dt e1 (M ++ [.lst acc]) = ok (.bl (p x)) (M ++ [.lst acc])) ∧ (p x = true → ∀ acc, de e1 (M ++ [.lst acc]) = ok (f x) (M ++ [.lst acc]))) :
    compD set dt de vs di e M = ok (.loc M.length) (M ++ [.lst ((xs.filter p).map f)]) := by
  unfold compD
  rw [hdi, bindE_v]
  dsimp only
  rw [compL_at (p := p) (f := f) M hchk xs [] (by simpa using hl) h]
  rfl
theorem compC_at (xs : List α) (hdi : di e M = ok (xs.map g, chk) M) (hchk : ∀ acc, chk (M ++ [.lst acc])) (hl : xs.length ≤ 100000)
    (h : ∀ x ∈ xs, ∃ e1, set (g x) (wipeE e vs) = some e1 ∧ (∀ acc, dt e1 (M ++ [.lst acc]) = ok (.bl (p x)) (M ++ [.lst acc])) ∧ (p x = true → ∀ acc, de e1 (M ++ [.lst acc]) = ok (f x) (M ++ [.lst acc])))
    (hn : ∀ x ∈ xs, nlD M.length (f x) = true) : cutE (compD set dt de vs di) e M = ok (.lst ((xs.filter p).map f)) M :=
  cutE_val (comp_at xs hdi hchk hl h) (cutD_loc (X := []) (nls_map fun x hx => hn x (List.mem_filter.mp hx).1))
/-- nothing left out; over values; nothing of the store -/
theorem comp_v (xs : List α) (hdi : di e M = ok (xs.map g, fun _ => True) M) (hl : xs.length ≤ 100000)
    (h : ∀ x ∈ xs, ∃ e1, set (g x) (wipeE e vs) = some e1 ∧ ∀ M, de e1 M = ok (f x) M)
    (hn : ∀ x ∈ xs, nlD 0 (f x) = true) : cutE (compD set (cD (.bl true)) de vs di) e M = ok (.lst (xs.map f)) M := by
  have q := compC_at (p := fun _ => true) (dt := cD (.bl true)) xs hdi (fun _ => trivial) hl (fun x hx => by
    obtain ⟨e1, h1, h2⟩ := h x hx
    exact ⟨e1, h1, fun _ => rfl, fun _ acc => h2 _⟩) fun x hx => nl_mono _ _ (hn x hx)
  rw [List.filter_eq_self.mpr (fun _ _ => rfl)] at q
  exact q
end
theorem it_tup {da : DenE} {e : DL.Env} {M : Store} {ds : List D} (h : da e M = ok (.tup ds) M) : itD da e M = ok (ds, fun _ => True) M := by
  unfold itD
  rw [h]
  rfl
theorem it_rng {dr : DenA} {e : DL.Env} {M : Store} {n : Nat} (h : dr e M = ok [.int (n : Int)] M) (hn : n ≤ 1000000) : rng1 dr e M = ok ((List.range n).map fun (j : Nat) => D.int (j : Int), fun _ => True) M := by
  unfold rng1
  rw [h, bindE_v]
  dsimp only
  rw [if_pos (small_n hn), Int.toNat_natCast]
  unfold rngI
  simp
section
variable {g : DenG} {body : DenS} {chk : Store → Prop} {di : DenI} {e : DL.Env} {M : Store}
/-- a loop through: what holds ahead of turn i -/
theorem for_inv (Inv : Nat → DL.Env → Store → Prop) : ∀ (ds : List D) (i : Nat) (e : DL.Env) (M : Store), (∀ (j : Nat) (d : D) (e : DL.Env) (M : Store), ds[j]? = some d → Inv (i + j) e M → chk M ∧ ∃ e1 M1 e2 M2, g d e M = some (.nx e1, M1) ∧ (body e1 M1 = some (.nx e2, M2) ∨ body e1 M1 = some (.ct e2, M2)) ∧ Inv (i + j + 1) e2 M2) →
    (∀ e M, Inv (i + ds.length) e M → chk M) → Inv i e M → ∃ e' M', forIL g chk body ds e M = some (.nx e', M') ∧ Inv (i + ds.length) e' M'
  | [], i, e, M, _, hc, h => ⟨e, M, by unfold forIL; rw [if_pos (hc e M h)], h⟩
  | d :: ds, i, e, M, hs, hc, h => by
    obtain ⟨c, e1, M1, e2, M2, h1, h2, h3⟩ := hs 0 d e M rfl h
    obtain ⟨e', M', h4, h5⟩ := for_inv Inv ds (i + 1) e2 M2 (fun j d' e M q w => by
      have := hs (j + 1) d' e M q (by rwa [show i + (j + 1) = i + 1 + j by omega])
      rwa [show i + (j + 1) + 1 = i + 1 + j + 1 by omega] at this) (fun e M w => hc e M (by rwa [List.length_cons, show i + (ds.length + 1) = i + 1 + ds.length by omega])) h3
    refine ⟨e', M', ?_, by rwa [List.length_cons, show i + (ds.length + 1) = i + 1 + ds.length by omega]⟩
    unfold forIL
    rw [if_pos c, h1]
    dsimp only
    rcases h2 with h2 | h2
    · rw [h2]
      exact h4
    · rw [h2]
      exact h4
theorem for_all (ds : List D) (Inv : Nat → DL.Env → Store → Prop) (hdi : di e M = ok (ds, chk) M) (hs : ∀ (j : Nat) (d : D) (e : DL.Env) (M : Store), ds[j]? = some d → Inv j e M → chk M ∧ ∃ e1 M1 e2 M2, g d e M = some (.nx e1, M1) ∧ (body e1 M1 = some (.nx e2, M2) ∨ body e1 M1 = some (.ct e2, M2)) ∧ Inv (j + 1) e2 M2)
    (hc : ∀ e M, Inv ds.length e M → chk M) (h : Inv 0 e M) : ∃ e' M', forI g di body e M = some (.nx e', M') ∧ Inv ds.length e' M' := by
  obtain ⟨e', M', h1, h2⟩ := for_inv Inv ds 0 e M (fun j d e M q w => by
    rw [Nat.zero_add] at w ⊢
    exact hs j d e M q w) (fun e M w => hc e M (by rwa [Nat.zero_add] at w)) h
  refine ⟨e', M', ?_, by rwa [Nat.zero_add] at h2⟩
  unfold forI
  rw [hdi, thenS_v]
  exact h1
end
def Wp (r : RS) (P : Flw → Store → Prop) : Prop := ∃ f M, r = some (f, M) ∧ P f M
section
variable {a b : DenS} {e e' : DL.Env} {M M' : Store} {P : Flw → Store → Prop} {v : D}
theorem wp_nx (h : a e M = some (.nx e', M')) (k : Wp (b e' M') P) : Wp (seqS a b e M) P := by
  rw [seq_nx h]
  exact k
theorem wp_of (f : Flw) (h : a e M = some (f, M')) (k : P f M') : Wp (a e M) P := ⟨f, M', h, k⟩
theorem wp_seq (h : Wp (a e M) (fun f M' => (∃ e', f = .nx e' ∧ Wp (b e' M') P) ∨ ((∀ e', f ≠ .nx e') ∧ P f M'))) : Wp (seqS a b e M) P := by
  obtain ⟨f, M', h1, h2⟩ := h
  rcases h2 with ⟨e', rfl, h2⟩ | ⟨h2, h3⟩
  · rw [seq_nx h1]
    exact h2
  · refine ⟨f, M', ?_, h3⟩
    unfold seqS
    rw [h1]
    cases f with
    | nx e' => exact absurd rfl (h2 e')
    | _ => rfl
theorem wp_if {dt : DenE} (c : Bool) (h : dt e M = ok (.bl c) M') (k : c = true → Wp (a e M') P) (k' : c = false → Wp (b e M') P) : Wp (ifS dt a b e M) P := by
  unfold ifS
  rw [h, thenS_v]
  cases c with
  | true => exact k rfl
  | false => exact k' rfl
theorem wp_for {g : DenG} {body : DenS} {chk : Store → Prop} {di : DenI} (ds : List D) (Inv : Nat → DL.Env → Store → Prop) (hdi : di e M = ok (ds, chk) M)
    (hs : ∀ (j : Nat) (d : D) (e : DL.Env) (M : Store), ds[j]? = some d → Inv j e M → chk M ∧ ∃ e1 M1, g d e M = some (.nx e1, M1) ∧ Wp (body e1 M1) fun f M2 => ∃ e2, (f = .nx e2 ∨ f = .ct e2) ∧ Inv (j + 1) e2 M2)
    (hc : ∀ e M, Inv ds.length e M → chk M) (h : Inv 0 e M) (k : ∀ e' M', Inv ds.length e' M' → P (.nx e') M') : Wp (forI g di body e M) P := by
  obtain ⟨e', M', h1, h2⟩ := for_all ds Inv hdi (fun j d e M q w => by
    obtain ⟨c, e1, M1, h1, f, M2, h2, e2, h3, h4⟩ := hs j d e M q w
    refine ⟨c, e1, M1, e2, M2, h1, ?_, h4⟩
    rcases h3 with rfl | rfl
    · exact .inl h2
    · exact .inr h2) hc h
  exact ⟨_, _, h1, k e' M' h2⟩
theorem wp_for_nx {g : DenG} {body : DenS} {chk : Store → Prop} {di : DenI} (ds : List D) (Inv : Nat → DL.Env → Store → Prop) (hdi : di e M = ok (ds, chk) M)
    (hs : ∀ (j : Nat) (d : D) (e : DL.Env) (M : Store), ds[j]? = some d → Inv j e M → chk M ∧ ∃ e1 M1, g d e M = some (.nx e1, M1) ∧ Wp (body e1 M1) fun f M2 => ∃ e2, (f = .nx e2 ∨ f = .ct e2) ∧ Inv (j + 1) e2 M2)
    (hc : ∀ e M, Inv ds.length e M → chk M) (h : Inv 0 e M) (k : ∀ e' M', Inv ds.length e' M' → Wp (b e' M') P) : Wp (seqS (forI g di body) b e M) P :=
  wp_seq (wp_for ds Inv hdi hs hc h fun e' M' w => .inl ⟨e', rfl, k e' M' w⟩)
variable {n : Nat} {den : DenS} {args : List D} {e0 : DL.Env}
theorem fv_wp (he : args.map some ++ List.replicate (n - args.length) none = e0) (h : Wp (den e0 M) fun f M' => f = .rt v ∧ ∃ X, M' = M ++ X) (hv : nlD 0 v = true) : cutF (ofBody n den) args M = ok v M := by
  obtain ⟨f, M', h1, rfl, X, rfl⟩ := h
  exact fv_rt X he h1 hv
theorem fv_wpn (he : args.map some ++ List.replicate (n - args.length) none = e0) (h : Wp (den e0 M) fun f M' => (∃ e', f = .nx e') ∧ ∃ X, M' = M ++ X) : cutF (ofBody n den) args M = ok .non M := by
  obtain ⟨f, M', h1, ⟨e', rfl⟩, X, rfl⟩ := h
  exact fv_nx X he h1
end
theorem chain_le {da db dc : DenE} {e : DL.Env} {M : Store} {i j k : Int} (ha : da e M = ok (.int i) M) (hb : db e M = ok (.int j) M) (hc : dc e M = ok (.int k) M) : chainD leF leF da db dc e M = ok (.bl (decide (i ≤ j) && decide (j ≤ k))) M := by
  unfold chainD
  rw [ha, bindE_v, hb, bindE_v, le_int, bindE_v]
  cases decide (i ≤ j) with
  | true =>
    show bindE (dc e M) _ = _
    rw [hc, bindE_v, le_int]
    rfl
  | false => rfl
def rowD (n : Nat) (f : Nat → D) : D := .tup ((List.range n).map f)
abbrev tabD (w h : Nat) (f : Nat → Nat → D) : D := rowD h fun y => rowD w fun x => f x y
section
variable {n w h : Nat} {f f2 : Nat → D} {M : Store}
theorem len_row : lenF [rowD n f] M = ok (.int (n : Int)) M := by
  unfold rowD
  rw [len_tup, List.length_map, List.length_range]
theorem typ_row : typF [rowD n f] M = ok (.ty "tuple") M := rfl
theorem ix_row {i : Nat} (hi : i < n) : ixF (rowD n f) (.int (i : Int)) M = ok (f i) M := ix_tup (at_nat (by rw [List.getElem?_map, List.getElem?_range hi]; rfl))
theorem ix_row0 (hi : 0 < n) : ixF (rowD n f) (.int 0) M = ok (f 0) M := ix_row (i := 0) hi
theorem ix_rowI {i : Int} {k : Nat} (e : i = (k : Int)) (hi : k < n) : ixF (rowD n f) (.int i) M = ok (f k) M := by
  rw [e]
  exact ix_row hi
theorem nl_row (h : ∀ i, i < n → nlD 0 (f i) = true) : nlD 0 (rowD n f) = true := nls_map fun i hi => h i (List.mem_range.mp hi)
theorem row_ext (h : ∀ i, i < n → f i = f2 i) : rowD n f = rowD n f2 := congrArg D.tup (List.map_congr_left fun i hi => h i (List.mem_range.mp hi))
theorem tup_row (hn : n ≤ 100000) : tupcF [.lst ((List.range n).map f)] M = ok (rowD n f) M := tup_lst (by rw [List.length_map, List.length_range]; exact hn)
theorem it_row {da : DenE} {e : DL.Env} (h : da e M = ok (rowD n f) M) : itD da e M = ok ((List.range n).map f, fun _ => True) M := it_tup h
end
end DL
namespace DL
open PySem L2
section
variable {M : Store} {e : DL.Env} {n : Nat} {da db dob : DenE} {dr : DenA}
theorem get_mid {ob : Ob} {X : Store} : (M ++ ob :: X)[M.length]? = some ob := by
  rw [List.getElem?_append_right (Nat.le_refl _), Nat.sub_self]
  rfl
theorem set_mid {ob ob' : Ob} {X : Store} : (M ++ ob :: X).set M.length ob' = M ++ ob' :: X := by
  rw [List.set_append_right _ _ (Nat.le_refl _), Nat.sub_self]
  rfl
theorem get_lt {α : Type} {xs : List α} {j : Nat} {x : α} (h : xs[j]? = some x) : j < xs.length := (List.getElem?_eq_some_iff.mp h).1
theorem app_ok2 {ds : List D} {d : D} {M1 M2 : Store} (ho : dob e M = ok (.loc n) M1) (ha : da e M1 = ok d M2) (hn : M2[n]? = some (.lst ds)) (hl : ds.length < 100000) (hk : isL M1 n = true) : appS dob da e M = some (.nx e, M2.set n (.lst (ds ++ [d]))) := by
  unfold appS
  rw [ho, thenS_v]
  show (if isL M1 n = true then thenS (da e M1) e _ else none) = _
  rw [if_pos hk]
  rw [ha, thenS_v]
  show (match M2[n]? with | some (.lst ds) => _ | _ => none) = _
  rw [hn]
  exact if_pos hl
theorem app_ok {ds : List D} {d : D} {M1 : Store} (ho : dob e M = ok (.loc n) M1) (ha : da e M1 = ok d M1) (hn : M1[n]? = some (.lst ds)) (hl : ds.length < 100000) : appS dob da e M = some (.nx e, M1.set n (.lst (ds ++ [d]))) := app_ok2 ho ha hn hl (isL_at hn)
/-- the list of number n, behind M1 -/
structure At (M1 : Store) (n : Nat) (ds : List D) (M : Store) : Prop where
  ge : M1.length ≤ n
  get : M[n]? = some (.lst ds)
  ex : ∃ X, M = M1 ++ X
theorem At.new {M1 : Store} {ds : List D} (h : ∃ X, M = M1 ++ X) : At M1 M.length ds (M ++ [.lst ds]) := by
  obtain ⟨X, rfl⟩ := h
  exact ⟨by rw [List.length_append]; omega, get_mid, X ++ [.lst ds], List.append_assoc _ _ _⟩
theorem At.set {M1 : Store} {ds es : List D} (h : At M1 n ds M) : At M1 n es (M.set n (.lst es)) := by
  obtain ⟨X, rfl⟩ := h.ex
  refine ⟨h.ge, List.getElem?_set_self (get_lt h.get), X.set (n - M1.length) (.lst es), ?_⟩
  rw [List.set_append_right _ _ h.ge]
theorem At.more {M1 : Store} {ds es : List D} (h : At M1 n ds M) : At M1 n ds (M ++ [.lst es]) := by
  obtain ⟨X, rfl⟩ := h.ex
  exact ⟨h.ge, by rw [List.getElem?_append_left (get_lt h.get)]; exact h.get, X ++ [.lst es], List.append_assoc _ _ _⟩
theorem bin_v {f : D → D → Store → RE} {a b : D} {M1 M2 : Store} (h1 : da e M = ok a M1) (h2 : db e M1 = ok b M2) : binD f da db e M = f a b M2 := by
  unfold binD
  rw [h1, bindE_v, h2, bindE_v]
theorem body_rt {n : Nat} {den : DenS} {ds : List D} {d : D} {M M' : Store} (h : den (ds.map some ++ List.replicate (n - ds.length) none) M = some (.rt d, M')) : ofBody n den ds M = ok d M' := by
  unfold ofBody
  rw [h]
end
end DL
namespace DL
open PySem L2
section
variable {F : Fx} {X : Cx} {W : WX} {L L1 : List Addr} {H H1 : Hp} {M : Store} {e : DL.Env} {σ : L2.St} {T : Ends} {k : Nat}
/-- +, an empty tuple ahead, too -/
def addGF : D → D → Store → RE
  | .tup [], .tup ys, M => if ys.length ≤ 100000 then ok (.tup ys) M else none
  | x, y, M => addF x y M
abbrev rAddG (K : PySem.W.Frag) : R2 := fun x y H Q => rAddD K x y H Q ∨ rCatA K x y H Q
theorem opr_addG : OpR X (binaryOp .Add) (rAddG X.K) := orR opr_add op_catA
theorem addG_ok : OpOk F (rAddG F.K) addGF := fun d1 d2 M L H e σ W v1 v2 Q sr r1 r2 p => by
  unfold addGF at p
  split at p
  · rename_i ys
    obtain ⟨a, vs, rfl, a2, a3⟩ := r1
    obtain ⟨b, ws, rfl, b2, b3⟩ := r2
    have a3 : vs = [] := a3
    split at p
    · rename_i hz
      refine .inr ⟨a, b, vs, ws, rfl, rfl, (.inl (.inl a2)), (.inl (.inl b2)), ?_, fun _ => p.ok sr ⟨b, ws, rfl, b2, b3⟩, fun z => absurd a3 z, fun z => absurd a3 z⟩
      rw [a3, ← reps_len b3]
      exact Nat.le_trans (Nat.le_of_eq (Nat.zero_add _)) (sz_ok hz)
    · exact False.elim p
  · exact .inl (add_ok d1 d2 M L H e σ W v1 v2 Q sr r1 r2 p)
end
end DL
namespace DL
open PySem L2
theorem meets_enum1 {v : Value} {o : Obj} {H : Heap → Prop} (B : Begins v o H) :
    Meets (Builtin.«enumerate.__new__» { pos := [Value.type "enumerate", v] }) fun _ R s =>
      H s.heap ∧ R (.ok (.ret (.ref (s.heap.push o).objs.size))) { heap := (s.heap.push o).push {cls := .type "enumerate", data := .fields #[.none, .bool false, .ref s.heap.objs.size, rawInt 0, .none, .none]}, gens := s.gens, drawn := s.drawn, toks := s.toks, os := s.os } := by
  refine Meets.of_wp (fun prog w A R s h => ?_)
  rcases s with ⟨hp, g, d, tk, os⟩
  obtain ⟨h1, h⟩ := h
  have hsub := sub_enumerate
  have q1 : ∀ {A' E Q}, Q (Value.ref hp.objs.size) { heap := hp.push o, gens := g, drawn := d, toks := tk, os := os } → wpAny (model prog w) A' (pyIter v) Q E { heap := hp, gens := g, drawn := d, toks := tk, os := os } := fun {A'} {E Q} q => B.iter prog w A' E { heap := hp, gens := g, drawn := d, toks := tk, os := os } Q h1 q
  unfold Builtin.«enumerate.__new__»
  refine wpAny_bind ?_
  refine wpAny_bind ?_
  refine wpAny_pure ?_
  apply wpAny_ite_false (by first | rfl | decide)
  refine wpAny_bind ?_
  refine wpAny_of_eq hsub ?_
  apply wpAny_ite_false (by first | rfl | decide)
  refine wpAny_pure ?_
  apply wpAny_ite_true (by first | rfl | decide)
  refine wpAny_bind ?_
  refine wpAny_bind ?_
  refine wpAny_stack_any fun st => ?_
  refine wpAny_pure ?_
  split
  · rename_i c tl kw sn tl2 hh
    generalize (c == Value.type "enumerate") = sh
    cases sh
    · apply wpAny_ite_false (by first | rfl | decide)
      refine wpAny_bind ?_
      refine wpAny_of_eq (show _ = (pure (v, (none : Option Value)) : Sem _) from rfl) ?_
      refine wpAny_bind (q1 ?_)
      refine wpAny_bind ?_
      unfold Builtin.SmallTypes.newRecord
      dsimp only
      unfold newObj
      dsimp only
      apply wpAny_ite_false (by rfl)
      unfold newObjAsIs
      refine wpAny_bind <| wpAny_alloc' ?_
      refine wpAny_pure ?_
      refine wpAny_pure ?_
      exact ⟨_, rfl, h⟩
    · apply wpAny_ite_true (by first | rfl | decide)
      refine wpAny_bind ?_
      refine wpAny_pure ?_
      refine wpAny_bind (q1 ?_)
      refine wpAny_bind ?_
      unfold Builtin.SmallTypes.newRecord
      dsimp only
      unfold newObj
      dsimp only
      apply wpAny_ite_false (by rfl)
      unfold newObjAsIs
      refine wpAny_bind <| wpAny_alloc' ?_
      refine wpAny_pure ?_
      refine wpAny_pure ?_
      exact ⟨_, rfl, h⟩
  · apply wpAny_ite_false (by first | rfl | decide)
    refine wpAny_bind ?_
    refine wpAny_of_eq (show _ = (pure (v, (none : Option Value)) : Sem _) from rfl) ?_
    refine wpAny_bind (q1 ?_)
    refine wpAny_bind ?_
    unfold Builtin.SmallTypes.newRecord
    dsimp only
    unfold newObj
    dsimp only
    apply wpAny_ite_false (by rfl)
    unfold newObjAsIs
    refine wpAny_bind <| wpAny_alloc' ?_
    refine wpAny_pure ?_
    refine wpAny_pure ?_
    exact ⟨_, rfl, h⟩
theorem call_enum1 {prog : Program} {w : World} {A : Around} {E : Value → Shared → Prop} {s : Shared} {v : Value} {o : Obj} {H : Heap → Prop} {Q : Value → Shared → Prop} (B : Begins v o H) (h0 : H s.heap)
    (h : ∀ (h' : Heap), IsEnum h' (s.heap.objs.size + 1) s.heap.objs.size 0 Value.none → h'.get? s.heap.objs.size = some o → h'.objs.size = s.heap.objs.size + 2 →
      (∀ (b : Addr) (o : Obj), s.heap.get? b = some o → h'.get? b = some o) → Q (Value.ref (s.heap.objs.size + 1)) { heap := h', gens := s.gens, drawn := s.drawn, toks := s.toks, os := s.os }) :
    wpAny (model prog w) A (call (Value.type "enumerate") [v]) Q E s := by
  refine callType_new F.called_enumerate (by decide) (F.typeCall_enumerate_1 v) (F.newCall_enumerate_1 v) (fun obj => F.args_object_init_2 obj v) F.entry_enumerate_new (meets_enum1 B) ⟨h0, ?_⟩
  have hz : (s.heap.push o).objs.size = s.heap.objs.size + 1 := Heap.size_push s.heap o
  have he := Heap.get?_push_size (s.heap.push o) (o := { cls := Value.type "enumerate", data := Data.fields #[Value.none, Value.bool false, Value.ref s.heap.objs.size, rawInt 0, Value.none, Value.none] }) rfl
  rw [hz] at he
  show _ ∧ _
  simp only [hz]
  refine ⟨⟨_, he, rfl⟩, h _ he (Heap.get?_push_of_some _ (Heap.get?_push_size s.heap B.free)) (by rw [Heap.size_push, hz]) fun b o y => Heap.get?_push_of_some _ (Heap.get?_push_of_some _ y)⟩
/-- enumerate over a tuple -/
def IteT (K : W.Frag) (a : Addr) : It where
  go := fun i H => ∃ xs x, SqT K H a xs ∧ xs[i]? = some x
  yld := fun i H v H' => ∃ T x, v = .ref T ∧ H T = none ∧ H' = upd H T (.tup [.int i, x]) ∧ ∀ xs, SqT K H a xs → xs[i]? = some x
  stop := fun i H => ∃ xs, SqT K H a xs ∧ xs.length = i
theorem hget_lt {h : Heap} {a : Addr} {o : Obj} (e : h.get? a = some o) : a < h.objs.size := by
  by_cases z : a < h.objs.size
  · exact z
  · have z2 : h.objs[a]? = none := Array.getElem?_eq_none (Nat.le_of_not_lt z)
    unfold Heap.get? at e
    rw [z2] at e
    cases e
theorem sqt_ne {s : Shared} {a b it : Addr} {i : Nat} {its : Array Value} (ht : PyProof.Rows.IsTup s.heap a its) (h : s.heap.IsTupleIter it b i) : a ≠ it := by
  rintro rfl
  obtain ⟨o, h1, h2, h3⟩ := ht
  obtain ⟨o', g1, g2, g3⟩ := h
  rw [h1] at g1
  cases g1
  rw [h2] at g2
  exact absurd g2 (by decide)
theorem turn_enumT {P : Program} {w : World} {K : W.Frag} {elts : List Expr} {kk : Nat} {tpos : Pos} (a e it : Addr) :
    Turn P w K (.Tuple elts kk tpos) (IteT K a) [e, it] e (fun i h => (∃ old, IsEnum h e it (i : Nat) old) ∧ h.IsTupleIter it a i ∧ e ≠ it) := by
  refine ⟨by simp, fun i h ⟨⟨old, h1⟩, ⟨o, h2, h3, h4⟩, h5⟩ b hb => ?_, fun i h h' ⟨⟨old, h1⟩, ⟨o, h2, h3, h4⟩, h5⟩ k => ?_, ?_, ?_, fun A i s Q E ⟨⟨old, h1⟩, _⟩ q => wpAny_pyIter_enum h1 q⟩
  · simp only [List.not_mem_nil, or_false, List.mem_cons] at hb
    rcases hb with rfl | rfl
    · exact ⟨_, h1, fun v z => by cases z⟩
    · exact ⟨o, h2, fun v z => by rw [h4] at z; cases z⟩
  · exact ⟨⟨old, k e (by simp) _ h1⟩, ⟨o, k it (by simp) _ h2, h3, h4⟩, h5⟩
  · rintro X rfl rfl rfl hc i pins s σ H E I hf ⟨⟨old, h1⟩, h2, h5⟩ ⟨xs, x, q, hx⟩
    obtain ⟨its, rv, p, hz⟩ := I.tuple q
    have pt : s.heap.IsTuple a its.toArray := p
    have hne : a ≠ it := sqt_ne p h2
    have hea : e ≠ a := by
      rintro rfl
      obtain ⟨o, g1, g2, g3⟩ := p
      rw [h1] at g1
      cases g1
      exact Value.noConfusion g2 (fun z => absurd z (by decide))
    have hi : i < its.toArray.size := by
      have := (List.getElem?_eq_some_iff.mp hx).1
      rw [List.size_toArray, ← Paired.length rv]
      exact this
    have G := GoesN.enumFrom (elts := elts) (x1 := kk) (pos := tpos) (prog := X.prog) (w := X.w) (A := X.A) (0 : Int) (Draws.tuple (prog := X.prog) (w := X.w) (A := X.A.in1) (I.ok.hd hc) it a hne its.toArray) e h5 (by simp [h5, hea]) (by simp)
    refine G.goes i s (fun v s2 => _) E hi ⟨⟨old, by simpa using h1⟩, h2, pt⟩ fun v h' tk ⟨T, t, y, hv, hT, hy, hp⟩ ⟨⟨old', k1⟩, k2, k3⟩ keep htk => ?_
    subst hv
    rcases rv.get hx with ⟨u, hu, ru⟩
    have e1 : y = u := by
      rw [List.getElem?_toArray, hu] at hy
      exact (Option.some.inj hy).symm
    subst e1
    have hTn : H T = none := I.hok.fresh hT
    have I2 : L2.Inv X pins σ (upd H T (.tup [.int i, x])) { heap := h', gens := s.gens, drawn := s.drawn, toks := tk, os := s.os } := by
      refine I.turnedNew (ch := [e, it]) keep hf hT ?_
      rw [ObjOk.eq_2]
      refine ⟨by show 2 ≤ sizeLine; decide, [.int ((0 : Int) + (i : Nat)) t, y], .cons ⟨t, by simp⟩ (.cons ru .nil), hp⟩
    refine ⟨.ref T, _, I2, rfl, ⟨T, x, rfl, hTn, rfl, fun zs hz2 => ?_⟩, ⟨⟨old', by simpa using k1⟩, k2, h5⟩, fun b hb => ?_⟩
    · rw [I.tuple_inj hz2 q]
      exact hx
    · have hb0 : ∃ o, s.heap.get? b = some o := by
        simp only [List.not_mem_nil, or_false, List.mem_cons] at hb
        rcases hb with rfl | rfl
        · exact ⟨_, h1⟩
        · obtain ⟨o, g1, _⟩ := h2
          exact ⟨o, g1⟩
      obtain ⟨o, g1⟩ := hb0
      have hbT : b ≠ T := by
        rintro rfl
        exact absurd (hget_lt g1) (Nat.not_lt_of_le hT)
      show (if b = T then _ else H b) = none
      rw [if_neg hbT]
      exact (hf b hb).1
  · rintro X rfl rfl rfl hc i pins s σ H E I hf ⟨⟨old, h1⟩, h2, h5⟩ ⟨xs, q, hx⟩
    obtain ⟨its, rv, p, hz⟩ := I.tuple q
    have pt : s.heap.IsTuple a its.toArray := p
    have hne : a ≠ it := sqt_ne p h2
    have hea : e ≠ a := by
      rintro rfl
      obtain ⟨o, g1, g2, g3⟩ := p
      rw [h1] at g1
      cases g1
      exact Value.noConfusion g2 (fun z => absurd z (by decide))
    have hi : i = its.toArray.size := by
      rw [List.size_toArray, ← Paired.length rv]
      exact hx.symm
    have G := GoesN.enumFrom (elts := elts) (x1 := kk) (pos := tpos) (prog := X.prog) (w := X.w) (A := X.A) (0 : Int) (Draws.tuple (prog := X.prog) (w := X.w) (A := X.A.in1) (I.ok.hd hc) it a hne its.toArray) e h5 (by simp [h5, hea]) (by simp)
    refine G.stops s (fun s2 => L2.Inv X pins σ H s2) E ⟨⟨old, by rw [← hi]; simpa using h1⟩, hi ▸ h2, pt⟩ fun h' tk keep htk => I.turnedL (ch := [e, it]) keep hf
def iEnum2 (K : PySem.W.Frag) (ta : TA) : TI := fun σ H R => ta σ H fun vs H1 => ∃ a, vs = [.ref a] ∧ (((∃ xs, SqL K H1 a xs) ∧ R (Ite K a) H1) ∨ ((∃ xs, SqT K H1 a xs) ∧ R (IteT K a) H1))
theorem pi_enum2 {X : Cx} {e : Expr} {ta : TA} {p pos tpos : Pos} {elts : List Expr} {kk : Nat} (hg : Gl X "enumerate") (hm : X.mg "enumerate" = none) (ha : PA X [e] ta) (hs : starEach [e] X.env = [(false, eval e X.env)]) :
    PI X (.Tuple elts kk tpos) (.Call (.Name "enumerate" p) [e] [] pos) (iEnum2 X.K ta) := by
  refine ⟨fun pns s σ H R I h => PyProof.Rows.Call_ (ld_blt I hg hm PyProof.Rows.boot_enumerate (PyProof.Rows.callWith_type1 (thn (ha.run pos pns s σ H _ I h) fun us s1 hh => ?_) hs rfl))⟩
  obtain ⟨vs, H1, I1, r1, a, rfl, q⟩ := hh
  obtain rfl := r1.ref1
  have nne : s1.heap.objs.size + 1 ≠ s1.heap.objs.size := by omega
  have hfp : ∀ b ∈ [s1.heap.objs.size + 1, s1.heap.objs.size], FpOk X pns H1 b := by
    intro b hb
    simp only [List.not_mem_nil, or_false, List.mem_cons] at hb
    rcases hb with rfl | rfl
    · exact I1.fpOk (Nat.le_succ _) (I1.hok.fresh (Nat.le_succ _))
    · exact I1.fpOk Nat.le.refl (I1.hok.fresh Nat.le.refl)
  rcases q with ⟨⟨xs, hq⟩, q⟩ | ⟨⟨xs, hq⟩, q⟩
  · obtain ⟨its, rv, p2, hz⟩ := I1.list hq
    refine call_enumerate_list p2.isList fun h' k1 k2 k3 keep => wpAny_pyIter_enum k1 ?_
    exact ⟨_, _, _, _, H1, rfl, I1.kept (t' := s1.toks) keep, turn_enum a _ _, ⟨⟨_, k1⟩, k2, nne⟩, hfp, q⟩
  · obtain ⟨its, rv, p2, hz⟩ := I1.tuple hq
    refine call_enum1 (begins_tuple a its.toArray) (show s1.heap.IsTuple a its.toArray from p2) fun h' k1 k2 k3 keep => wpAny_pyIter_enum k1 ?_
    exact ⟨_, _, _, _, H1, rfl, I1.kept (t' := s1.toks) keep, turn_enumT a _ _, ⟨⟨_, k1⟩, ⟨_, k2, rfl, rfl⟩, nne⟩, hfp, q⟩
section
variable {F : Fx} {X : Cx} {W : WX} {L L1 : List Addr} {H H1 : Hp} {M : Store} {e : DL.Env} {σ : L2.St} {T : Ends} {k : Nat}
/-- numbered things -/
def enumI : Nat → List D → List D
  | _, [] => []
  | k, d :: r => .tup [.int (k : Int), d] :: enumI (k + 1) r
theorem enum_len (ds : List D) : ∀ k, (enumI k ds).length = ds.length := by
  induction ds with
  | nil => intro k; rfl
  | cons d r ih => intro k; simp [enumI, ih]
theorem enum_get (ds : List D) : ∀ (k i : Nat), (enumI k ds)[i]? = ds[i]?.map fun d => .tup [.int ((k + i : Nat) : Int), d] := by
  induction ds with
  | nil => intro k i; rfl
  | cons d r ih =>
    intro k i
    cases i with
    | zero => rfl
    | succ i =>
      show (enumI (k + 1) r)[i]? = _
      rw [ih, List.getElem?_cons_succ]
      congr 1
      funext x
      rw [show k + 1 + i = k + (i + 1) by omega]
def enumD (dr : DenA) : DenI := fun e M => bindE (dr e M) fun ds M1 => match ds with
  | [d] => bindE (itemsF d M1) fun p M2 => ok (enumI 0 p.1, p.2) M2
  | _ => none
theorem stp_tup {H' : Hp} {M' : Store} {L' : List Addr} {Tt : Addr} {i : Nat} {x : V} {d : D} (m : SM F L' H' M') (hT : H' Tt = none) (r : Rep F L' H' d x) : Stp L' H' L' (upd H' Tt (.tup [.int (i : Nat), x])) ∧ SM F L' (upd H' Tt (.tup [.int (i : Nat), x])) M' ∧ Rep F L' (upd H' Tt (.tup [.int (i : Nat), x])) (.tup [.int ((0 + i : Nat) : Int), d]) (.ref Tt) := by
  have s : Stp L' H' L' (upd H' Tt (.tup [.int (i : Nat), x])) := Stp.alloc hT
  refine ⟨s, m.alloc hT, ⟨Tt, _, rfl, upd_same, .int (i : Nat), [x], rfl, ?_, x, [], rfl, Rep.stay m s _ _ r, rfl⟩⟩
  rw [Nat.zero_add]
  rfl
theorem walk_enumL {a : Addr} {ds : List D} {chk : Store → Prop} (h : ∀ (L' : List Addr) (H' : Hp) (M' : Store), Stp L H L' H' → SM F L' H' M' → chk M' → ∃ ws, SqL F.K H' a ws ∧ Reps F L' H' ds ws) : Walk F L H (Ite F.K a) (enumI 0 ds) chk := by
  refine ⟨fun L' H' M' s m' c => ?_, fun i d hd L' H' M' s m' c => ?_⟩
  · obtain ⟨ws, q, rr⟩ := h L' H' M' s m' c
    rw [enum_len]
    exact ⟨ws, q, Nat.le_of_eq (reps_len rr).symm⟩
  · rw [enum_get] at hd
    obtain ⟨d0, hd0, rfl⟩ := Option.map_eq_some_iff.mp hd
    obtain ⟨ws, q, rr⟩ := h L' H' M' s m' c
    obtain ⟨y, h1, h2⟩ := reps_get rr hd0
    refine ⟨⟨ws, y, q, h1⟩, fun x H'' hy => ?_⟩
    obtain ⟨Tt, x0, rfl, hT, rfl, z⟩ := hy
    have e := z ws q
    rw [h1] at e
    cases e
    exact stp_tup m' hT h2
theorem walk_enumT {a : Addr} {vs : List V} {ds : List D} {chk : Store → Prop} (m : SM F L H M) (q0 : SqT F.K H a vs) (r : Reps F L H ds vs) : Walk F L H (IteT F.K a) (enumI 0 ds) chk := by
  refine ⟨fun L' H' M' s m' c => ?_, fun i d hd L' H' M' s m' c => ?_⟩
  · rw [enum_len]
    exact ⟨vs, sqt_stay m s q0, (reps_len r).symm⟩
  · rw [enum_get] at hd
    obtain ⟨d0, hd0, rfl⟩ := Option.map_eq_some_iff.mp hd
    obtain ⟨y, h1, h2⟩ := reps_get r hd0
    refine ⟨⟨vs, y, sqt_stay m s q0, h1⟩, fun x H'' hy => ?_⟩
    obtain ⟨Tt, x0, rfl, hT, rfl, z⟩ := hy
    have e := z vs (sqt_stay m s q0)
    rw [h1] at e
    cases e
    exact stp_tup m' hT (Rep.stay m s _ _ h2)
theorem di_enum {elts : List Expr} {kk : Nat} {tpos : Pos} {l : Expr} {da : DenE} {p pos : Pos} (hm : X.mg "enumerate" = none) (ha : DE F X W l da) (hK : X.K = F.K := by rfl) (hg : Gl X "enumerate" := by rfl) (hse : starEach [l] X.env = [(false, eval l X.env)] := by rfl) (hst : starEach (l :: []) X.env = (false, eval l X.env) :: starEach [] X.env := by rfl) :
    DI F X W (.Tuple elts kk tpos) (.Call (.Name "enumerate" p) [l] [] pos) (enumD (consA da nilA)) := by
  obtain ⟨t, pa, qa⟩ := da_cons ha da_nil hst
  refine ⟨_, pi_enum2 hg hm pa hse, fun e M L σ H R sr pp => qa e M L σ H _ sr (PostG.bind (fun ds M1 L1 H1 vs s1 r1 rv p2 => ?_) pp)⟩
  rw [hK]
  split at p2
  · rename_i d
    obtain ⟨v, ev, rw1⟩ := reps1 rv
    clear rv
    subst ev
    cases d with
    | tup ds =>
      obtain ⟨a, vs, rfl, a2, a3⟩ := rw1
      refine ⟨a, rfl, .inr ⟨⟨vs, (.inl (.inl a2))⟩, p2.ok r1 (walk_enumT r1.m (.inl (.inl a2)) a3)⟩⟩
    | lst ds =>
      obtain ⟨a, vs, rfl, a2, a3⟩ := rw1
      refine ⟨a, rfl, .inl ⟨⟨vs, (LstAt.sq (L := L1) (.inl a2))⟩, p2.ok r1 (walk_enumL fun L' H' M' s m' _ => ⟨vs, (LstAt.stay r1.m s (.inl a2)).sq, Reps.stay r1.m s _ _ a3⟩)⟩⟩
    | scr ns =>
      obtain ⟨a, rfl, a2⟩ := rw1
      have a3 : LstAt F.K L1 H1 a (ns.map V.int) := .inr a2
      refine ⟨a, rfl, .inl ⟨⟨_, a3.sq⟩, p2.ok r1 (walk_enumL fun L' H' M' s m' _ => ⟨_, (LstAt.stay r1.m s a3).sq, reps_ints ns⟩)⟩⟩
    | loc n =>
      obtain ⟨a, rfl, a2⟩ := rw1
      unfold itemsF at p2
      simp only at p2
      split at p2
      · rename_i ds hm
        obtain ⟨vs, k1, k2⟩ := r1.m.obs n a _ a2 hm
        refine ⟨a, rfl, .inl ⟨⟨vs, .inl (.inl k1)⟩, p2.ok r1 (walk_enumL fun L' H' M' s m' c => ?_)⟩⟩
        obtain ⟨ws, j1, j2⟩ := m'.obs n a _ (s.get a2) c
        exact ⟨ws, .inl (.inl j1), j2⟩
      · exact False.elim p2
    | non => exact False.elim p2
    | bl b => exact False.elim p2
    | int i => exact False.elim p2
    | str x => exact False.elim p2
    | emp => exact False.elim p2
    | exc c fs => exact False.elim p2
    | ty n => exact False.elim p2
    | cls n => exact False.elim p2
    | clo f c q σd is ds => exact False.elim p2
    | ktp ns =>
      obtain ⟨a, rfl, a2⟩ := rw1
      have a3 : SqT F.K H1 a (ns.map V.int) := .inr a2
      exact ⟨a, rfl, .inr ⟨⟨_, a3⟩, p2.ok r1 (walk_enumT r1.m a3 (reps_ints ns))⟩⟩
  · exact False.elim p2
end
end DL
namespace DL
open PySem L2
mutual
inductive Dq (K : PySem.W.Frag) (H : Hp) : V → PyData → Prop where
  | non : Dq K H .non .none
  | bl (b : Bool) : Dq K H (.bl b) (.bool b)
  | int (i : Int) : Dq K H (.int i) (.int i)
  | str (x : Str) : Dq K H (.str x) (.str x)
  | lst {a : Addr} {xs : List V} {ds : List PyData} (hs : SqL K H a xs) (ha : DqAll K H xs ds) : Dq K H (.ref a) (.list ds)
  | tup {a : Addr} {xs : List V} {ds : List PyData} (hs : SqT K H a xs) (ha : DqAll K H xs ds) : Dq K H (.ref a) (.tuple ds)
  | dct {a : Addr} (ha : H a = some (.dK [])) : Dq K H (.ref a) (.dict [])
inductive DqAll (K : PySem.W.Frag) (H : Hp) : List V → List PyData → Prop where
  | nil : DqAll K H [] []
  | cons {v : V} {vs : List V} {d : PyData} {ds : List PyData} (h : Dq K H v d) (t : DqAll K H vs ds) : DqAll K H (v :: vs) (d :: ds)
end
section
variable {pins : List (Addr × Obj)} {X : Cx} {σ : L2.St} {H : Hp} {s : Shared}
/-- what repr needs of a value -/
def RQ (X : Cx) (s : Shared) (u : Value) (d : PyData) : Prop :=
  (∃ as, Reads s.heap u d as) ∧ (d.showable = true → d.shown.length ≤ sizeLine → ∃ bs, ReadAtMost s.heap d.depth bs ∧ ReprK X.prog X.w bs s.heap d.depth u d.shown)
def RQA (X : Cx) (s : Shared) (us : List Value) (ds : List PyData) : Prop :=
  (∃ as, ReadsAll s.heap us ds as) ∧ (PyData.showableAll ds = true → (∀ t ∈ PyData.shownAll ds, t.length ≤ sizeLine) → ∃ bs, ReadAtMost s.heap (PyData.depthAll ds) bs ∧ ReprAllK X.prog X.w bs s.heap (PyData.depthAll ds) us (PyData.shownAll ds))
theorem emp_at (I : L2.Inv X pins σ H s) {a : Addr} (ha : H a = some (.dK [])) : ∃ o n, s.heap.get? a = some o ∧ o.cls = .type "dict" ∧ o.data = .dict #[] n ∧ (a == sysModules) = false := by
  have h := I.hok a _ ha
  rw [ObjOk.eq_3] at h
  obtain ⟨_, h1, vs, hv, o, es, ep, g1, g2, g3, g4, g5, g6⟩ := h
  cases hv
  refine ⟨o, ep, g1, g2.1, ?_, h1⟩
  rw [g3]
  obtain ⟨es⟩ := es
  cases g5
  rfl
theorem ram0 {h : Heap} {n : Nat} : ReadAtMost h n [] := fun _ z => nomatch z
mutual
theorem Dq.rq (I : L2.Inv X pins σ H s) : ∀ {v : V} {d : PyData} {u : Value}, Dq X.K H v d → RelV v u → RQ X s u d
  | _, _, u, .non, r => by
    obtain rfl : u = .none := r
    exact ⟨⟨_, .none⟩, fun _ _ => ⟨[], ram0, ReprK.of_is .none _ _ _⟩⟩
  | _, _, u, .bl b, r => by
    obtain rfl : u = .bool b := r
    exact ⟨⟨_, .bool b⟩, fun _ _ => ⟨[], ram0, ReprK.of_is (.bool b) _ _ _⟩⟩
  | _, _, u, .int i, r => by
    obtain ⟨t, rfl⟩ : ∃ t, u = .int i t := r
    exact ⟨⟨_, .int i t⟩, fun h _ => ⟨[], ram0, ReprK.of_is (.int t (of_decide_eq_true h)) _ _ _⟩⟩
  | _, _, u, .str x, r => by
    obtain ⟨t, rfl⟩ : ∃ t, u = .str x t := r
    exact ⟨⟨_, .str x t⟩, fun _ h => ⟨[], ram0, ReprK.of_is (.str x t h) _ _ _⟩⟩
  | _, _, u, @Dq.lst _ _ a xs ds hs ha, r => by
    obtain rfl : u = .ref a := r
    obtain ⟨its, rv, ⟨o, n, g1, g2, g3, g4⟩, hz⟩ := I.list hs
    obtain ⟨⟨as, rd⟩, q⟩ := DqAll.rq I ha rv
    have rl : Reads s.heap (.ref a) (.list ds) (a :: as) := .list g1 g2 g4 rd
    refine ⟨⟨_, rl⟩, fun hs2 hl => ?_⟩
    obtain ⟨bs, hb, hk⟩ := q hs2 fun t ht => Nat.le_trans (listText_mem_le ht) hl
    have hna : ¬ a ∈ bs := not_mem_of_deeper rl (Nat.lt_succ_self _) hb
    refine ⟨a :: bs, ReadAtMost.cons rl (Nat.le_succ _) hb, ?_⟩
    cases rv with
    | nil =>
      cases rd
      exact (ReprK.listEmpty g1 g2 g4)
    | cons rr rt =>
      exact ReprK.list g1 g2 g4 hna (by rw [List.size_toArray]; exact hk.length_eq) fun i y hy => hk.item i y (by simpa using hy)
  | _, _, u, @Dq.tup _ _ a xs ds hs ha, r => by
    obtain rfl : u = .ref a := r
    obtain ⟨its, rv, ⟨o, g1, g2, n, g4⟩, hz⟩ := I.tuple hs
    obtain ⟨⟨as, rd⟩, q⟩ := DqAll.rq I ha rv
    have rl : Reads s.heap (.ref a) (.tuple ds) as := .tuple g1 g2 g4 rd
    refine ⟨⟨_, rl⟩, fun hs2 hl => ?_⟩
    obtain ⟨bs, hb, hk⟩ := q hs2 fun t ht => Nat.le_trans (tupleText_mem_le ht) hl
    have hna : ¬ a ∈ bs := not_mem_of_deeper rl (Nat.lt_succ_self _) hb
    exact ⟨a :: bs, ReadAtMost.cons rl (Nat.le_succ _) hb, ReprK.tuple g1 g2 g4 hna hk⟩
  | _, _, u, @Dq.dct _ _ a ha, r => by
    obtain rfl : u = .ref a := r
    obtain ⟨o, n, g1, g2, g3, g4⟩ := emp_at I ha
    have rl : Reads s.heap (.ref a) (.dict []) (a :: [] ++ []) := .dict g1 g2 g3 .nil .nil
    refine ⟨⟨_, rl⟩, fun hs2 hl => ⟨[a], ReadAtMost.cons rl (Nat.zero_le _) (n := 0) ram0, ?_⟩⟩
    exact ReprK.dict (d := 0) g1 g2 g3 g4 (fun h => nomatch h) .nil
theorem DqAll.rq (I : L2.Inv X pins σ H s) : ∀ {vs : List V} {ds : List PyData} {us : List Value}, DqAll X.K H vs ds → Vals vs us → RQA X s us ds
  | _, _, _, .nil, .nil => ⟨⟨_, .nil⟩, fun _ _ => ⟨[], ram0, .nil⟩⟩
  | _, _, _, @DqAll.cons _ _ v vs d ds h t, .cons r rt => by
    obtain ⟨⟨as, r1⟩, q1⟩ := Dq.rq I h r
    obtain ⟨⟨as2, r2⟩, q2⟩ := DqAll.rq I t rt
    refine ⟨⟨_, .cons r1 r2⟩, fun hs hl => ?_⟩
    have hs' : (d.showable && PyData.showableAll ds) = true := hs
    rw [Bool.and_eq_true] at hs'
    obtain ⟨bs, hb, hk⟩ := q1 hs'.1 (hl _ (List.mem_cons_self ..))
    obtain ⟨bs2, hb2, hk2⟩ := q2 hs'.2 fun t ht => hl t (List.mem_cons_of_mem _ ht)
    have m1 : d.depth ≤ PyData.depthAll (d :: ds) := Nat.le_max_left _ _
    have m2 : PyData.depthAll ds ≤ PyData.depthAll (d :: ds) := Nat.le_max_right _ _
    exact ⟨bs ++ bs2, ReadAtMost.append (hb.mono m1) (hb2.mono m2), .cons ((hk.level_le m1).more fun b hb => List.mem_append_left _ hb) (hk2.more_le (fun b hb => List.mem_append_right _ hb) m2)⟩
end
end
section
variable {F : Fx} {X : Cx} {W : WX} {L L1 : List Addr} {H H1 : Hp} {M : Store} {e : DL.Env} {σ : L2.St} {T : Ends} {k : Nat}
def rRepE (K : PySem.W.Frag) : List V → Hp → VK → Prop := fun vs H Q => ∃ v d, vs = [v] ∧ Dq K H v d ∧ d.showable = true ∧ d.depth ≤ 60 ∧ d.shown.length ≤ sizeLine ∧ Q (.str d.shown) H
theorem callr_reprE (hg : X.A.guards = some []) (hu : X.A.units + 64 < cLine) : CallR X (.builtin "repr") (rRepE X.K) := by
  intro p₀ s₀ σ₀ H₀ vs us Q₀ I₀ r h
  obtain ⟨v, d, rfl, hd, h1, h3, h4, q⟩ := h
  obtain ⟨u, eu1, rx⟩ := vals1 r
  subst eu1
  cases hd with
  | non =>
    have z : u = .none := rx
    subst z
    exact P.repr_of_none ⟨.str _, H₀, I₀.tok _, ⟨_, rfl⟩, q⟩
  | bl b =>
    have z : u = .bool b := rx
    subst z
    exact P.repr_of_bool ⟨.str _, H₀, I₀.tok _, ⟨_, rfl⟩, q⟩
  | int i =>
    obtain ⟨k, rfl⟩ := rx
    exact P.repr_of_int (of_decide_eq_true h1) ⟨.str _, H₀, I₀.tok _, ⟨_, rfl⟩, q⟩
  | str x =>
    obtain ⟨k, rfl⟩ := rx
    exact P.repr_of_str ⟨.str _, H₀, I₀.tok _, ⟨_, rfl⟩, q⟩ h4
  | @lst a xs ds hs ha =>
    obtain rfl : u = .ref a := rx
    obtain ⟨its, rv, ⟨o, n, g1, g2, g3, g4⟩, hz⟩ := I₀.list hs
    obtain ⟨⟨as, rd⟩, qa⟩ := DqAll.rq I₀ ha rv
    have rl : Reads s₀.heap (.ref a) (.list ds) (a :: as) := .list g1 g2 g4 rd
    obtain ⟨bs, hb, hk⟩ := qa h1 fun t ht => Nat.le_trans (listText_mem_le ht) h4
    have hna : ¬ a ∈ bs := not_mem_of_deeper rl (Nat.lt_succ_self _) hb
    have hd : PyData.depthAll ds + 1 ≤ 60 := h3
    refine call_repr_slot (by omega) ⟨o, g1, g2⟩ (Slot.toG F.slot_list_repr) ?_
    cases rv with
    | nil =>
      cases rd
      exact call_list_repr_empty ⟨o, g1, g2⟩ g1 g4 ⟨_, _, rfl, .str _, H₀, I₀.tok _, ⟨_, rfl⟩, q⟩
    | cons rr rt =>
      exact call_list_reprK g1 g2 g4 hna (by rw [List.size_toArray]; exact hk.length_eq) (fun i y hy => hk.item i y (by simpa using hy)) (g := []) hg (fun b _ => Clear.nil b) (show X.A.units + 1 + (PyData.depthAll ds + 1) < cLine by omega) (fun _ _ z => z) (fun h' u tk hk => ⟨_, _, rfl, .str _, H₀, I₀.kept (t' := tk) hk, ⟨_, rfl⟩, q⟩) h4
  | @tup a xs ds hs ha =>
    obtain rfl : u = .ref a := rx
    obtain ⟨its, rv, ⟨o, g1, g2, n, g4⟩, hz⟩ := I₀.tuple hs
    obtain ⟨⟨as, rd⟩, qa⟩ := DqAll.rq I₀ ha rv
    have rl : Reads s₀.heap (.ref a) (.tuple ds) as := .tuple g1 g2 g4 rd
    obtain ⟨bs, hb, hk⟩ := qa h1 fun t ht => Nat.le_trans (tupleText_mem_le ht) h4
    have hna : ¬ a ∈ bs := not_mem_of_deeper rl (Nat.lt_succ_self _) hb
    have hd : PyData.depthAll ds + 1 ≤ 60 := h3
    refine call_repr_slot (by omega) ⟨o, g1, g2⟩ F.slot_tuple_repr ?_
    exact call_tuple_reprK g1 g2 g4 hna hk (g := []) hg (fun b _ => Clear.nil b) (show X.A.units + 1 + (PyData.depthAll ds + 1) < cLine by omega) (fun _ _ z => z) (fun h' u tk hk => ⟨_, _, rfl, .str _, H₀, I₀.kept (t' := tk) hk, ⟨_, rfl⟩, q⟩) h4
  | @dct a ha =>
    obtain rfl : u = .ref a := rx
    obtain ⟨o, n, g1, g2, g3, g4⟩ := emp_at I₀ ha
    refine call_repr_slot (by omega) ⟨o, g1, g2⟩ F.slot_dict_repr ?_
    exact call_dict_reprK (d := 0) (as := []) (ps := []) g1 g2 g3 g4 (fun h => nomatch h) .nil (g := []) hg (fun b _ => Clear.nil b) (show X.A.units + 1 + (0 + 1) < cLine by omega) (fun _ _ z => z) (fun h' u tk hk => ⟨_, _, rfl, .str _, H₀, I₀.kept (t' := tk) hk, ⟨_, rfl⟩, q⟩) h4
mutual
/-- a value read whole, with empty dicts -/
def D.pye : D → Option PyData
  | .non => some .none
  | .bl b => some (.bool b)
  | .int i => some (.int i)
  | .str x => some (.str x)
  | .tup ds => (D.pyes ds).map .tuple
  | .lst ds => (D.pyes ds).map .list
  | .emp => some (.dict [])
  | _ => none
def D.pyes : List D → Option (List PyData)
  | [] => some []
  | d :: ds => match D.pye d, D.pyes ds with
    | some p, some ps => some (p :: ps)
    | _, _ => none
end
mutual
theorem dq_of : ∀ {d : D} {v : V} {p : PyData}, Rep F L H d v → D.pye d = some p → Dq F.K H v p
  | .non, v, p, r, h => by
    obtain rfl : v = V.non := r
    obtain rfl : PyData.none = p := Option.some.inj h
    exact .non
  | .bl b, v, p, r, h => by
    obtain rfl : v = V.bl b := r
    obtain rfl : PyData.bool b = p := Option.some.inj h
    exact .bl b
  | .int i, v, p, r, h => by
    obtain rfl : v = V.int i := r
    obtain rfl : PyData.int i = p := Option.some.inj h
    exact .int i
  | .str x, v, p, r, h => by
    obtain rfl : v = V.str x := r
    obtain rfl : PyData.str x = p := Option.some.inj h
    exact .str x
  | .tup ds, v, p, r, h => by
    obtain ⟨a, vs, rfl, h1, h2⟩ := r
    have h' : (D.pyes ds).map PyData.tuple = some p := h
    obtain ⟨ps, hp, rfl⟩ := Option.map_eq_some_iff.mp h'
    exact .tup (.inl (.inl h1)) (dqs_of h2 hp)
  | .lst ds, v, p, r, h => by
    obtain ⟨a, vs, rfl, h1, h2⟩ := r
    have h' : (D.pyes ds).map PyData.list = some p := h
    obtain ⟨ps, hp, rfl⟩ := Option.map_eq_some_iff.mp h'
    exact .lst (.inl (.inl h1.1)) (dqs_of h2 hp)
  | .emp, v, p, r, h => by
    obtain ⟨a, rfl, h1, h2⟩ := r
    obtain rfl : PyData.dict [] = p := Option.some.inj h
    exact .dct h1
  | .scr _, _, _, _, h => nomatch h
  | .loc _, _, _, _, h => nomatch h
  | .exc _ _, _, _, _, h => nomatch h
  | .ty _, _, _, _, h => nomatch h
  | .cls _, _, _, _, h => nomatch h
  | .clo _ _ _ _ _ _, _, _, _, h => nomatch h
  | .ktp _, _, _, _, h => nomatch h
theorem dqs_of : ∀ {ds : List D} {vs : List V} {ps : List PyData}, Reps F L H ds vs → D.pyes ds = some ps → DqAll F.K H vs ps
  | [], vs, ps, r, h => by
    obtain rfl : vs = [] := r
    obtain rfl : [] = ps := Option.some.inj h
    exact .nil
  | d :: ds, vs, ps, r, h => by
    obtain ⟨v, rr, rfl, h1, h2⟩ := r
    have h' : (match D.pye d, D.pyes ds with | some p, some ps => some (p :: ps) | _, _ => none) = some ps := h
    cases q1 : D.pye d with
    | none => rw [q1] at h'; cases h'
    | some p =>
      cases q2 : D.pyes ds with
      | none => rw [q1, q2] at h'; cases h'
      | some qs =>
        rw [q1, q2] at h'
        obtain rfl := Option.some.inj h'
        exact .cons (dq_of h1 q1) (dqs_of h2 q2)
end
/-- repr of data -/
def reprGF : List D → Store → RE
  | [d], M => match D.pye d with
    | some p => if p.showable = true ∧ p.depth ≤ 60 ∧ p.shown.length ≤ sizeLine then ok (.str p.shown) M else none
    | none => none
  | _, _ => none
theorem reprG_ok : CallOk F (rRepE F.K) reprGF := fun ds M L H e σ W vs Q sr rv p => by
  unfold reprGF at p
  split at p
  · obtain ⟨v, rfl, h1⟩ := reps1 rv
    split at p
    · rename_i y hy
      split at p
      · rename_i hz
        exact ⟨v, y, rfl, dq_of h1 hy, hz.1, hz.2.1, hz.2.2, p.ok sr rfl⟩
      · exact False.elim p
    · exact False.elim p
  · exact False.elim p
end
end DL
namespace DL
open PySem L2
section
variable {F : Fx} {X : Cx} {W : WX} {L L1 : List Addr} {H H1 : Hp} {M : Store} {e : DL.Env} {σ : L2.St} {T : Ends} {k : Nat}
/-- behind the body's exception: the suite -/
def sufS0 (su : DenS) (e' : DL.Env) (M' : Store) : RS := match su e' M' with
  | some (.ex _ _ _, _) => none
  | r => r
def tryS0 (ct : String → Bool) (db su : DenS) : DenS := fun e M => match db e M with
  | some (.ex c fs e', M') => if ct c = true then sufS0 su e' M' else none
  | r => r
theorem ds_try0 {te : Expr} {b₀ : Stmt} {suite body : List Stmt} {pos pos' : Pos} {db su : DenS} {cv : Value → Bool} (ct : String → Bool) (d : Dc X W k) (hs : X.stack = X.env :: X.outer) (hf : X.env.frame = some X.env.locals) (hex : X.ex = [])
    (hc : Cla X te cv) (hcv : ∀ c C, F.cl c = some C → ct c = true → cv (.ref C) = true)
    (hb : ∀ (W' : WX) (pn : List (Addr × Obj)) (xe : Value → Shared → Prop), Dc (X.tr pn xe) W' k → DSs F (X.tr pn xe) W' body db)
    (hsu : ∀ (a : Addr) (pn : List (Addr × Obj)), DSs F (X.suite a pn) (fun _ _ _ _ => False) (b₀ :: suite) su) :
    DS F X W (.Try body [.ExceptHandler (some te) none (b₀ :: suite) pos'] [] [] pos) (tryS0 ct db su) := by
  refine ⟨fun T σ H => ∃ (e : DL.Env) (M : Store) (L : List Addr), SR F L H M e σ ∧ PostS F L H W T (tryS0 ct db su e M), ⟨fun p₁ s₁ σ₁ H₁ T₁ I₁ h₁ => ?_⟩, fun e M L σ H T sr pp => ⟨e, M, L, sr, pp⟩⟩
  obtain ⟨e, M, L, sr, pp⟩ := h₁
  have okk := I₁.ok
  have hfr : X.A.frames = some (X.env :: X.outer) := by rw [okk.frames, hs]
  -- the wish about the body's exceptions
  let W' : WX := fun cls dd σ' H' => ∃ (c : String) (fs : List (Str × D)) (e' : DL.Env) (M' : Store) (L' : List Addr), SR F L' H' M' e' σ' ∧ ExR F L' H' c fs cls dd ∧ ct c = true ∧ PostS F L' H' W T₁ (sufS0 su e' M')
  let xe' : Value → Shared → Prop := fun u s1 => wpAny (model X.prog X.w) X.A (noteFrame u X.env) (fun _ s2 => wpAny (model X.prog X.w) X.A (setFlight u none) (fun _ s3 => wpAny (model X.prog X.w) X.A (handleBy u X.env [.ExceptHandler (some te) none (b₀ :: suite) pos']) (SP X p₁ T₁) X.xe s3) X.xe s2) X.xe s1
  have tk' : Takes (X.tr (X.pn ++ p₁) xe') W' := by
    intro u s' xx
    obtain ⟨a, B, sI, pins', σ', H', cls, dd, rfl, J', nb, up, sky, na, os, ag, c, fs, e', M', L', sr', hx', hct, pp'⟩ := xx
    have J : L2.Inv X p₁ σ' H' sI := J'.ofTry okk
    have sky' : Sky B (X.env :: X.outer) a (Zc cls dd) X.env.locals s'.heap := by rw [← hs]; exact sky
    show wpAny _ X.A (noteFrame (.ref a) X.env) _ _ _
    have Bn : B.get? a = none := by
      rcases sky' with ⟨_, z, _⟩ | z | z
      · exact z
      · exact z.2.1
      · exact z.2.1
    refine Sky.land Zc.steady hfr hf sky' fun hh ff uu => ?_
    have JL : L2.Inv X p₁ σ' H' { s' with heap := hh } := J.landed nb ff.1 (up.trans uu) os ag
    obtain ⟨ox, xs9, eo, zo, od9⟩ := ff.there
    have nfr : a ∉ frs (X.env :: X.outer) := fun hm => by
      obtain ⟨_, o', e2, hnf⟩ := ff.2.2.1.mem hm
      rw [eo] at e2
      cases e2
      exact hnf _ od9
    have nl1 : a ≠ X.env.locals := fun z => nfr (List.mem_filterMap.mpr ⟨X.env, List.mem_cons_self, by rw [hf, z]⟩)
    have nf1 : a ∉ X.fs := fun hm => by
      obtain ⟨env', he, q⟩ := List.mem_filterMap.mp hm
      exact nfr (List.mem_filterMap.mpr ⟨env', List.mem_cons_of_mem _ he, q⟩)
    have sIn : sI.heap.get? a = none := by
      cases z : sI.heap.get? a with
      | none => rfl
      | some o =>
        have z2 := nb a o z (by rw [hs]; exact nfr)
        rw [Bn] at z2
        cases z2
    have s0n : X.s_0.heap.get? a = none := by
      cases z : X.s_0.heap.get? a with
      | none => rfl
      | some o =>
        obtain ⟨o', z2⟩ := J.base.there a o z (by rw [hex]; simp)
        rw [sIn] at z2
        cases z2
    have np : ∀ p ∈ X.pn ++ p₁, p.1 ≠ a := fun p hp z => by
      obtain ⟨q1, _⟩ := J.pin p hp
      rw [z, sIn] at q1
      cases q1
    have SU := JL.suite eo od9 na nl1 nf1
    refine wpAny_handleBy_cons (codeAny_handlers_test ?_) fun q => nomatch q
    obtain ⟨C, hC, rfl, hfd⟩ := hx'
    refine hc a _ [] σ' H' _ (.ref C) _ _ SU ⟨ox, eo, zo.1⟩ (hcv c C hC hct) fun s4 k4 o4 b4 => ?_
    apply codeAny_handlers_suite
    have fl4 : HandSPX.FlyingZ B (X.env :: X.outer) a (Zc (.ref C) dd) s4.heap := flying_keep ff k4
    refine HandSPX.lands_againZ fl4 fun h5 fl5 up5 => ?_
    have up4 : hh.UpToSlots s4.heap := Heap.UpToSlots.of_keeps k4
    have J5 : L2.Inv X p₁ σ' H' { s4 with heap := h5 } := J.landed nb fl5.1 (((up.trans uu).trans up4).trans up5) (o4.trans os) b4
    obtain ⟨oe5, vs5, he5, hz5, hd5⟩ := fl5.there
    have J6 : L2.Inv X p₁ σ' (upd H' a (.ext (exP C a dd))) { s4 with heap := h5 } := inv_track J5 he5 hd5 na nl1 s0n np ⟨oe5, vs5, he5, hz5.1, hz5.2, hd5⟩ fun h1 h2 ⟨o1, w1, q1, q2, q3, q4⟩ kk => ⟨o1, w1, kk _ q1, q2, q3, q4⟩
    have S6 : L2.Inv (X.suite a (X.pn ++ p₁)) [] σ' (upd H' a (.ext (exP C a dd))) { s4 with heap := h5 } :=
      ⟨J6.ok.suite _ _, J6.os, J6.bare, J6.base, J6.loc, J6.cell, J6.free, J6.freeC, fun p hp => J6.pin p (by rw [List.append_nil] at hp; exact hp), J6.hok, J6.len⟩
    have stp : Stp L' H' L' (upd H' a (.ext (exP C a dd))) := Stp.alloc na
    have sr6 : SR F L' (upd H' a (.ext (exP C a dd))) M' e' σ' := sr'.stay stp (sr'.m.alloc na)
    have rep6 : Rep F L' (upd H' a (.ext (exP C a dd))) (.exc c fs) (.ref a) := by
      refine ⟨a, C, dd, rfl, hC, ⟨_, upd_same, fun h z => z⟩, fresh_out sr'.m na, ?_⟩
      cases dd with
      | none => exact hfd
      | some x =>
        obtain ⟨ws, q1, q2, q3⟩ := hfd
        exact ⟨ws, by rw [upd_ne (ne_of_none q1 na)]; exact q1, q2, RepF.stay sr'.m stp fs ws q3⟩
    have back : ∀ {σ7 : L2.St} {H7 : Hp} {s7 : Shared}, L2.Inv (X.suite a (X.pn ++ p₁)) [] σ7 H7 s7 → L2.Inv X p₁ σ7 H7 s7 := fun {σ7 H7 s7} J7 =>
      ⟨okk, J7.os, J7.bare, J7.base, J7.loc, J7.cell, J7.free, J7.freeC, fun p hp => J7.pin p (by rw [List.append_nil]; exact hp), J7.hok, J7.len⟩
    obtain ⟨tu, pu, qu⟩ := hsu a (X.pn ++ p₁)
    have ps6 : PostS F L' (upd H' a (.ext (exP C a dd))) (fun _ _ _ _ => False) T₁ (su e' M') := by
      have pp6 := PostS.go stp pp'
      unfold sufS0 at pp6
      revert pp6
      cases su e' M' with
      | none => exact id
      | some y =>
        obtain ⟨fl, M7⟩ := y
        cases fl with
        | nx e7 => exact id
        | bk e7 => exact id
        | ct e7 => exact id
        | rt d7 => exact id
        | ex c7 fs7 e7 => exact fun q => (show False from q).elim
    refine wpAny_mono (pu.run [] _ _ _ T₁ S6 (qu _ M' L' _ _ T₁ sr6 ps6)) (fun f s8 hsp => ?_) (fun _ _ z => (show False from z).elim)
    cases f with
    | next =>
      obtain ⟨σ8, H8, S8, q8⟩ := hsp
      exact ⟨_, _, back S8, q8⟩
    | brk =>
      obtain ⟨σ8, H8, S8, q8⟩ := hsp
      exact ⟨_, _, back S8, q8⟩
    | cont =>
      obtain ⟨σ8, H8, S8, q8⟩ := hsp
      exact ⟨_, _, back S8, q8⟩
    | ret u =>
      obtain ⟨v8, σ8, H8, S8, r8, q8⟩ := hsp
      exact ⟨_, _, _, back S8, r8, q8⟩
  have dc' : Dc (X.tr (X.pn ++ p₁) xe') W' k := ⟨tk', d.room, d.calm, d.gd, PassesOwn.looking⟩
  obtain ⟨tb, pb, qb⟩ := hb W' (X.pn ++ p₁) xe' dc'
  refine wpAny_Try_except ?_
  have psb : PostS F L H₁ W' T₁ (db e M) := by
    unfold tryS0 at pp
    revert pp
    cases db e M with
    | none => exact id
    | some y =>
      obtain ⟨fl, M7⟩ := y
      cases fl with
      | nx e7 => exact id
      | bk e7 => exact id
      | ct e7 => exact id
      | rt d7 => exact id
      | ex c7 fs7 e7 =>
        intro q L7 H7 σ7 cls dd s7 r7 x7
        dsimp only at q
        split at q
        · rename_i hct
          exact ⟨c7, fs7, e7, M7, L7, r7, x7, hct, PostS.go s7 q⟩
        · exact False.elim q
  refine wpAny_mono (pb.run [] s₁ σ₁ H₁ T₁ (I₁.toTry _) (qb e M L σ₁ H₁ T₁ sr psb)) (fun f s2 hsp => ?_) (fun u s2 he => he)
  cases f with
  | next =>
    obtain ⟨σ', H', J', q⟩ := hsp
    exact wpAny_execs_nil ⟨σ', H', J'.ofTry okk, q⟩
  | brk =>
    obtain ⟨σ', H', J', q⟩ := hsp
    exact ⟨σ', H', J'.ofTry okk, q⟩
  | cont =>
    obtain ⟨σ', H', J', q⟩ := hsp
    exact ⟨σ', H', J'.ofTry okk, q⟩
  | ret u =>
    obtain ⟨v, σ', H', J', rv9, q⟩ := hsp
    exact ⟨v, σ', H', J'.ofTry okk, rv9, q⟩
def isTF (n : Bool) : D → D → Store → RE
  | .bl a, .bl b, M => ok (.bl (n != (a == b))) M
  | x, y, M => isF n x y M
abbrev rIsT (n : Bool) : R2 := fun x y H Q => (∃ a b, x = .bl a ∧ y = .bl b ∧ Q (.bl (n != (a == b))) H) ∨ rIsV n x y H Q
theorem opr_isTnot : OpR X (compareOp .IsNot) (rIsT true) := by
  refine orR (fun p₀ s₀ σ₀ H₀ x y v u Q₀ I₀ rx ry q => ?_) opr_isnot
  obtain ⟨a, b, rfl, rfl, q2⟩ := q
  cases rx
  cases ry
  rw [t_ne] at q2
  refine PyProof.Rows.isnot_bool ⟨.bl (a != b), H₀, I₀, rfl, q2⟩
theorem isT_ok {n : Bool} : OpOk F (rIsT n) (isTF n) := fun d1 d2 M L H e σ W v1 v2 Q sr r1 r2 p => by
  unfold isTF at p
  split at p
  · rename_i a b
    have q1 : v1 = .bl a := r1
    have q2 : v2 = .bl b := r2
    exact .inl ⟨a, b, q1, q2, p.ok sr rfl⟩
  · exact .inr (is_ok _ _ _ _ _ _ _ _ _ _ _ sr r1 r2 p)
theorem dt_chain {op op' : CmpOp} {r r' : R2} {f g : D → D → Store → RE} {a b c : Expr} {da db dc : DenE} {pos : Pos} (hf : OpOk F r f) (ho : OpR X (compareOp op) r) (hf' : OpOk F r' g) (ho' : OpR X (compareOp op') r') (tf : Truths f) (ha : DE F X W a da) (hb : DE F X W b db) (hc : DE F X W c dc)
    (hm : lastMarks [op, op'] [b, c] = false := by with_unfolding_all rfl) : DT F X W (.Compare a [op, op'] [b, c] pos) (chainD f g da db dc) := by
  obtain ⟨ta, pa, qa⟩ := ha
  obtain ⟨tb, pb, qb⟩ := hb
  obtain ⟨tc, pc, qc⟩ := hc
  exact ⟨_, pt_chain ho ho' pa pb pc hm, fun e M L σ H Q sr p => chain_t (op := op) (op' := op') (a := a) (b := b) (c := c) hf hf' tf qa qb qc e M L σ H _ sr p⟩
end
end DL
namespace DL
open PySem L2
section
variable {F : Fx} {X : Cx} {W : WX} {L L1 : List Addr} {H H1 : Hp} {M : Store} {e : Env} {σ : St} {T : Ends} {k : Nat}
theorem PSet.or {t t' : V → V → V → Hp → (Hp → Prop) → Prop} (h : PSet X t) (h' : PSet X t') : PSet X (fun o i v H Q => t o i v H Q ∨ t' o i v H Q) := by
  intro pins s σ H o i v ov iv u Q I ro ri rv q
  rcases q with q | q
  · exact h pins s σ H o i v ov iv u Q I ro ri rv q
  · exact h' pins s σ H o i v ov iv u Q I ro ri rv q
end
end DL
namespace DL
open PySem L2
/-- as Stp, nothing said of what is locked -/
structure Stp0 (L : List Addr) (H : Hp) (L' : List Addr) (H' : Hp) : Prop where
  ext : ∀ a o, H a = some o → a ∉ L → (∀ ps, o ≠ .tbl ps) → H' a = some o
  new : ∃ N, L' = L ++ N ∧ ∀ x ∈ N, ∀ o, H x = some o → ∃ ps, o = .tbl ps
section
variable {F : Fx} {L L' : List Addr} {H H' : Hp} {M M' : Store}
theorem Stp0.get (s : Stp0 L H L' H') {n : Nat} {a : Addr} (e : L[n]? = some a) : L'[n]? = some a := by
  obtain ⟨N, rfl, _⟩ := s.new
  rw [List.getElem?_append_left (List.getElem?_eq_some_iff.mp e).1]
  exact e
theorem Stp0.out (s : Stp0 L H L' H') {a : Addr} {o : HO} (e : H a = some o) (n : a ∉ L) (ht : NoTb o := by exact fun ps z => nomatch z) : a ∉ L' := by
  obtain ⟨N, rfl, f⟩ := s.new
  intro z
  rcases List.mem_append.mp z with z | z
  · exact n z
  · obtain ⟨ps, q⟩ := f a z o e
    exact ht ps q
end
theorem Stp.z {L L' : List Addr} {H H' : Hp} (s : Stp L H L' H') : Stp0 L H L' H' := ⟨s.ext, s.new⟩
end DL
namespace DL
open PySem L2
section
variable {F : Fx} {X : Cx} {W : WX} {L L1 : List Addr} {H H1 : Hp} {M : Store} {e : DL.Env} {σ : L2.St} {T : Ends} {k : Nat}
/-- a list, whichever -/
def lsty : D → Bool
  | .lst _ => true
  | .scr _ => true
  | .loc _ => true
  | _ => false
theorem items_lst (sr : SM F L H M) {d : D} {v : V} {ds : List D} {chk : Store → Prop} {M' : Store} (hl : lsty d = true) (h : itemsF d M = some (.val (ds, chk), M')) (r : Rep F L H d v) :
    M' = M ∧ ∃ a, v = .ref a ∧ (∃ vs, SqL F.K H a vs) ∧ ∀ (L' : List Addr) (H' : Hp) (M2 : Store), Stp L H L' H' → SM F L' H' M2 → chk M2 → ∃ ws, SqL F.K H' a ws ∧ Reps F L' H' ds ws := by
  cases d with
  | lst es =>
    cases h
    obtain ⟨a, vs, rfl, a2, a3⟩ := r
    exact ⟨rfl, a, rfl, ⟨vs, (LstAt.sq (L := L) (.inl a2))⟩, fun L' H' M2 s m' _ => ⟨vs, (LstAt.stay sr s (.inl a2)).sq, Reps.stay sr s _ _ a3⟩⟩
  | scr ns =>
    cases h
    obtain ⟨a, rfl, a2⟩ := r
    have a3 : LstAt F.K L H a (ns.map V.int) := .inr a2
    exact ⟨rfl, a, rfl, ⟨_, a3.sq⟩, fun L' H' M2 s m' _ => ⟨_, (LstAt.stay sr s a3).sq, reps_ints ns⟩⟩
  | loc n =>
    unfold itemsF at h
    simp only at h
    split at h
    · rename_i es hm
      cases h
      obtain ⟨a, rfl, a2⟩ := r
      obtain ⟨vs, k1, k2⟩ := sr.obs n a _ a2 hm
      refine ⟨rfl, a, rfl, ⟨vs, .inl (.inl k1)⟩, fun L' H' M2 s m' c => ?_⟩
      obtain ⟨ws, j1, j2⟩ := m'.obs n a _ (s.get a2) c
      exact ⟨ws, .inl (.inl j1), j2⟩
    · cases h
  | _ => cases hl
def zipI (xs ys : List D) : List D := List.zipWith (fun x y => .tup [x, y]) xs ys
theorem zip_len (xs ys : List D) : (zipI xs ys).length = min xs.length ys.length := by simp [zipI]
theorem zip_get {xs ys : List D} {i : Nat} {d : D} (h : (zipI xs ys)[i]? = some d) : ∃ x y, xs[i]? = some x ∧ ys[i]? = some y ∧ d = .tup [x, y] := by
  unfold zipI at h
  rw [List.getElem?_zipWith] at h
  split at h
  · rename_i x y h1 h2
    cases h
    exact ⟨x, y, h1, h2, rfl⟩
  · cases h
def zipD (dr : DenA) : DenI := fun e M => bindE (dr e M) fun ds M1 => match ds with
  | [.tup xs, .tup ys] => ok (zipI xs ys, fun _ => True) M1
  | [x, y] => if lsty x = true ∧ lsty y = true then (match itemsF x M1, itemsF y M1 with
    | some (.val p, _), some (.val q, _) => ok (zipI p.1 q.1, fun M' => p.2 M' ∧ q.2 M') M1
    | _, _ => none) else none
  | _ => none
theorem stp_tup2 {H' : Hp} {M' : Store} {L' : List Addr} {Tt : Addr} {x y : V} {d d' : D} (m : SM F L' H' M') (hT : H' Tt = none) (r : Rep F L' H' d x) (r' : Rep F L' H' d' y) : Stp L' H' L' (upd H' Tt (.tup [x, y])) ∧ SM F L' (upd H' Tt (.tup [x, y])) M' ∧ Rep F L' (upd H' Tt (.tup [x, y])) (.tup [d, d']) (.ref Tt) := by
  have s : Stp L' H' L' (upd H' Tt (.tup [x, y])) := Stp.alloc hT
  exact ⟨s, m.alloc hT, ⟨Tt, _, rfl, upd_same, x, [y], rfl, Rep.stay m s _ _ r, y, [], rfl, Rep.stay m s _ _ r', rfl⟩⟩
theorem walk_zipLL {a b : Addr} {xs ys : List D} {c1 c2 : Store → Prop} (h : ∀ (L' : List Addr) (H' : Hp) (M' : Store), Stp L H L' H' → SM F L' H' M' → c1 M' → ∃ ws, SqL F.K H' a ws ∧ Reps F L' H' xs ws) (h' : ∀ (L' : List Addr) (H' : Hp) (M' : Store), Stp L H L' H' → SM F L' H' M' → c2 M' → ∃ ws, SqL F.K H' b ws ∧ Reps F L' H' ys ws) :
    Walk F L H (Itz F.K a b) (zipI xs ys) (fun M' => c1 M' ∧ c2 M') := by
  refine ⟨fun L' H' M' s m' c => ?_, fun i d hd L' H' M' s m' c => ?_⟩
  · obtain ⟨ws, q, rr⟩ := h L' H' M' s m' c.1
    obtain ⟨us, q', rr'⟩ := h' L' H' M' s m' c.2
    refine ⟨ws, us, q, q', ?_⟩
    rw [zip_len, ← reps_len rr, ← reps_len rr']
    omega
  · obtain ⟨x, y, hx, hy, rfl⟩ := zip_get hd
    obtain ⟨ws, q, rr⟩ := h L' H' M' s m' c.1
    obtain ⟨us, q', rr'⟩ := h' L' H' M' s m' c.2
    obtain ⟨v, h1, h2⟩ := reps_get rr hx
    obtain ⟨u, h3, h4⟩ := reps_get rr' hy
    refine ⟨⟨ws, us, v, u, q, q', h1, h3⟩, fun x0 H'' hz => ?_⟩
    obtain ⟨Tt, v0, u0, rfl, hT, rfl, z, z'⟩ := hz
    have e := z ws q
    rw [h1] at e
    cases e
    have e := z' us q'
    rw [h3] at e
    cases e
    exact stp_tup2 m' hT h2 h4
theorem walk_zipTT {a b : Addr} {xs ys : List D} {vs us : List V} (m : SM F L H M) (q : H a = some (.tup vs)) (r : Reps F L H xs vs) (q' : H b = some (.tup us)) (r' : Reps F L H ys us) : Walk F L H (RZ.ItzT F.K a b) (zipI xs ys) (fun _ => True) := by
  have st : ∀ {L' : List Addr} {H' : Hp}, Stp L H L' H' → SqT F.K H' a vs ∧ SqT F.K H' b us := fun s => ⟨sqt_stay m s (.inl (.inl q)), sqt_stay m s (.inl (.inl q'))⟩
  refine ⟨fun L' H' M' s m' c => ?_, fun i d hd L' H' M' s m' c => ?_⟩
  · refine ⟨vs, us, (st s).1, (st s).2, ?_⟩
    rw [zip_len, ← reps_len r, ← reps_len r']
    omega
  · obtain ⟨x, y, hx, hy, rfl⟩ := zip_get hd
    obtain ⟨v, h1, h2⟩ := reps_get r hx
    obtain ⟨u, h3, h4⟩ := reps_get r' hy
    refine ⟨⟨vs, us, v, u, (st s).1, (st s).2, h1, h3⟩, fun x0 H'' hz => ?_⟩
    obtain ⟨Tt, v0, u0, rfl, hT, rfl, z, z'⟩ := hz
    have e := z vs (st s).1
    rw [h1] at e
    cases e
    have e := z' us (st s).2
    rw [h3] at e
    cases e
    exact stp_tup2 m' hT (Rep.stay m s _ _ h2) (Rep.stay m s _ _ h4)
theorem di_zip {elts : List Expr} {kk : Nat} {tpos : Pos} {l l2 : Expr} {da db : DenE} {p pos : Pos} (hm : X.mg "zip" = none) (ha : DE F X W l da) (hb : DE F X W l2 db) (hK : X.K = F.K := by rfl) (hg : Gl X "zip" := by rfl) (hst : starEach (l :: [l2]) X.env = (false, eval l X.env) :: starEach [l2] X.env := by rfl) (hst2 : starEach (l2 :: []) X.env = (false, eval l2 X.env) :: starEach [] X.env := by rfl) (hpl : (backTo pos (starEach [l2] X.env)).any (·.1) = false := by rfl) :
    DI F X W (.Tuple elts kk tpos) (.Call (.Name "zip" p) [l, l2] [] pos) (zipD (consA da (consA db nilA))) := by
  obtain ⟨t, pa, qa⟩ := da_cons ha (da_cons hb da_nil hst2) hst
  refine ⟨_, RZ.pi_zipA hg hm pa hst hpl, fun e M L σ H R sr pp => qa e M L σ H _ sr (PostG.bind (fun ds M1 L1 H1 vs s1 r1 rv p2 => ?_) pp)⟩
  rw [hK]
  split at p2
  · rename_i xs ys
    obtain ⟨v, v', rfl, r2, r3⟩ := reps2 rv
    obtain ⟨a, us, rfl, a2, a3⟩ := r2
    obtain ⟨b, ws, rfl, b2, b3⟩ := r3
    exact ⟨a, b, us, ws, rfl, .inr ⟨.inl (.inl a2), .inl (.inl b2), p2.ok r1 (walk_zipTT r1.m a2 a3 b2 b3)⟩⟩
  · rename_i x y _
    obtain ⟨v, v', rfl, r2, r3⟩ := reps2 rv
    split at p2
    · rename_i hl
      split at p2
      · rename_i p' M2 q' M3 h1 h2
        obtain ⟨_, a, rfl, ⟨us, a2⟩, a3⟩ := items_lst r1.m hl.1 h1 r2
        obtain ⟨_, b, rfl, ⟨ws, b2⟩, b3⟩ := items_lst r1.m hl.2 h2 r3
        exact ⟨a, b, us, ws, rfl, .inl ⟨a2, b2, p2.ok r1 (walk_zipLL a3 b3)⟩⟩
      · exact False.elim p2
    · exact False.elim p2
  · exact False.elim p2
def intsOf : List D → Option (List Int)
  | [] => some []
  | .int i :: ds => (intsOf ds).map (i :: ·)
  | _ => none
theorem intsOf_rep : ∀ {ds : List D} {vs : List V} {ns : List Int}, intsOf ds = some ns → Reps F L H ds vs → vs = ns.map V.int
  | [], _, _, h, r => by
    cases h
    exact r
  | .int i :: ds, _, _, h, ⟨v, r, e, h1, h2⟩ => by
    obtain ⟨ns, q, rfl⟩ := Option.map_eq_some_iff.mp h
    have h1' : v = .int i := h1
    rw [e, h1', intsOf_rep q h2]
    rfl
  | .non :: _, _, _, h, _ => nomatch h
  | .bl _ :: _, _, _, h, _ => nomatch h
  | .str _ :: _, _, _, h, _ => nomatch h
  | .tup _ :: _, _, _, h, _ => nomatch h
  | .lst _ :: _, _, _, h, _ => nomatch h
  | .scr _ :: _, _, _, h, _ => nomatch h
  | .emp :: _, _, _, h, _ => nomatch h
  | .loc _ :: _, _, _, h, _ => nomatch h
  | .exc _ _ :: _, _, _, h, _ => nomatch h
  | .ty _ :: _, _, _, h, _ => nomatch h
  | .cls _ :: _, _, _, h, _ => nomatch h
  | .clo _ _ _ _ _ _ :: _, _, _, h, _ => nomatch h
  | .ktp _ :: _, _, _, h, _ => nomatch h
/-- the whole numbers of a list -/
def intsL (M : Store) (d : D) : Option (List Int) := (getL M d).bind intsOf
theorem intsL_rep (m : SM F L H M) {d : D} {v : V} {ns : List Int} (h : intsL M d = some ns) (r : Rep F L H d v) : ∃ a, v = .ref a ∧ SqL F.K H a (ns.map V.int) := by
  obtain ⟨ds, h1, h2⟩ := Option.bind_eq_some_iff.mp h
  obtain ⟨a, vs, rfl, q1, q2⟩ := getL_sq m h1 r
  rw [intsOf_rep h2 q2] at q1
  exact ⟨a, rfl, q1⟩
/-- the greatest, the least -/
def mxI : Int → List Int → Int
  | m, [] => m
  | m, x :: xs => mxI (if x > m then x else m) xs
def mnI : Int → List Int → Int
  | m, [] => m
  | m, x :: xs => mnI (if x < m then x else m) xs
theorem mxI_ge : ∀ (m : Int) (xs : List Int), m ≤ mxI m xs ∧ ∀ x ∈ xs, x ≤ mxI m xs
  | m, [] => ⟨Int.le_refl _, fun x hx => absurd hx (by simp)⟩
  | m, x :: xs => by
    obtain ⟨h1, h2⟩ := mxI_ge (if x > m then x else m) xs
    show m ≤ mxI _ xs ∧ ∀ y ∈ x :: xs, y ≤ mxI _ xs
    have q1 : m ≤ (if x > m then x else m) := by split <;> omega
    have q2 : x ≤ (if x > m then x else m) := by split <;> omega
    refine ⟨Int.le_trans q1 h1, fun y hy => ?_⟩
    rcases (List.mem_cons.mp hy) with rfl | hy
    · exact Int.le_trans q2 h1
    · exact h2 y hy
theorem mnI_le : ∀ (m : Int) (xs : List Int), mnI m xs ≤ m ∧ ∀ x ∈ xs, mnI m xs ≤ x
  | m, [] => ⟨Int.le_refl _, fun x hx => absurd hx (by simp)⟩
  | m, x :: xs => by
    obtain ⟨h1, h2⟩ := mnI_le (if x < m then x else m) xs
    show mnI _ xs ≤ m ∧ ∀ y ∈ x :: xs, mnI _ xs ≤ y
    have q1 : (if x < m then x else m) ≤ m := by split <;> omega
    have q2 : (if x < m then x else m) ≤ x := by split <;> omega
    refine ⟨Int.le_trans h1 q1, fun y hy => ?_⟩
    rcases (List.mem_cons.mp hy) with rfl | hy
    · exact Int.le_trans h1 q2
    · exact h2 y hy
theorem mxI_mem : ∀ (m : Int) (xs : List Int), mxI m xs ∈ m :: xs
  | m, [] => List.mem_cons_self
  | m, x :: xs => by
    have h := mxI_mem (if x > m then x else m) xs
    show mxI _ xs ∈ m :: x :: xs
    rcases List.mem_cons.mp h with h | h
    · rw [h]
      split <;> simp
    · exact List.mem_cons_of_mem _ (List.mem_cons_of_mem _ h)
theorem mnI_mem : ∀ (m : Int) (xs : List Int), mnI m xs ∈ m :: xs
  | m, [] => List.mem_cons_self
  | m, x :: xs => by
    have h := mnI_mem (if x < m then x else m) xs
    show mnI _ xs ∈ m :: x :: xs
    rcases List.mem_cons.mp h with h | h
    · rw [h]
      split <;> simp
    · exact List.mem_cons_of_mem _ (List.mem_cons_of_mem _ h)
def maxLF : List D → Store → RE
  | [d], M => match intsL M d with
    | some (n :: ns) => ok (.int (mxI n ns)) M
    | _ => none
  | _, _ => none
theorem maxL_ok : CallOk F (rMax F.K) maxLF := fun ds M L H e σ W vs Q sr rv p => by
  unfold maxLF at p
  split at p
  · rename_i d
    obtain ⟨v, rfl, r⟩ := reps1 rv
    split at p
    · rename_i n ns hn
      obtain ⟨a, rfl, q⟩ := intsL_rep sr.m hn r
      refine ⟨a, n :: ns, rfl, q, by simp, fun m hm hle => ?_⟩
      have e : m = mxI n ns := by
        have h1 := hle _ (mxI_mem n ns)
        obtain ⟨h2, h3⟩ := mxI_ge n ns
        rcases (List.mem_cons.mp hm) with rfl | hm
        · omega
        · have := h3 m hm
          omega
      rw [e]
      exact p.ok sr rfl
    · exact False.elim p
  · exact False.elim p
def minLF : List D → Store → RE
  | [d], M => match intsL M d with
    | some (n :: ns) => ok (.int (mnI n ns)) M
    | _ => none
  | _, _ => none
theorem minL_ok : CallOk F (rMin F.K) minLF := fun ds M L H e σ W vs Q sr rv p => by
  unfold minLF at p
  split at p
  · rename_i d
    obtain ⟨v, rfl, r⟩ := reps1 rv
    split at p
    · rename_i n ns hn
      obtain ⟨a, rfl, q⟩ := intsL_rep sr.m hn r
      refine ⟨a, n :: ns, rfl, q, by simp, fun m hm hle => ?_⟩
      have e : m = mnI n ns := by
        have h1 := hle _ (mnI_mem n ns)
        obtain ⟨h2, h3⟩ := mnI_le n ns
        rcases (List.mem_cons.mp hm) with rfl | hm
        · omega
        · have := h3 m hm
          omega
      rw [e]
      exact p.ok sr rfl
    · exact False.elim p
  · exact False.elim p
end
end DL
namespace DL
open PySem L2
/-- the things at these places -/
def pk {α : Type} (is : List Nat) (xs : List α) : List α := is.filterMap (xs[·]?)
theorem vals_pk {vs : List V} {us : List Value} (r : Vals vs us) : ∀ is : List Nat, Vals (pk is vs) (pk is us)
  | [] => .nil
  | i :: is => by
    have ih := vals_pk r is
    have l := Paired.length r
    unfold pk at ih ⊢
    rw [List.filterMap_cons, List.filterMap_cons]
    by_cases h : i < vs.length
    · obtain ⟨u, hu, ru⟩ := paired_get r (List.getElem?_eq_getElem h)
      rw [List.getElem?_eq_getElem h, hu]
      exact .cons ru ih
    · rw [List.getElem?_eq_none (by omega), List.getElem?_eq_none (by omega)]
      exact ih
/-- how n values and the keywords ks come to the parameters: each from its place -/
structure KwB (K : PySem.W.Frag) (fd : FuncData) (ps : List Str) (n : Nat) (ks : List Str) (is : List Nat) : Prop where
  to : ∀ (s : Shared) (us ws : List Value), K.In s.heap → us.length = n → ws.length = ks.length → BindsTo s fd ⟨us, ks.zip ws⟩ (ps.zip (pk is (us ++ ws)))
theorem KwB.of {K : PySem.W.Frag} {fd : FuncData} {ps : List Str} {n : Nat} {ks : List Str} {is : List Nat} (h : ∀ us ws : List Value, us.length = n → ws.length = ks.length → bindArgs fd ⟨us, ks.zip ws⟩ = pure (ps.zip (pk is (us ++ ws)))) : KwB K fd ps n ks is := ⟨fun s us ws _ l1 l2 => .of_eq (h us ws l1 l2)⟩
section
variable {F : Fx} {X : Cx} {W : WX} {k : Nat} {f : Addr} {fd : FuncData} {ps ks : List Str} {den : DenF} {n : Nat} {is : List Nat}
def DK (F : Fx) (X : Cx) (W : WX) (kws : List Keyword) (den : Env → Store → RD (List D)) : Prop :=
  ∃ t, PK X kws t ∧ ∀ (e : Env) (M : Store) (L : List Addr) (σ : St) (H : Hp) (Q : List V → Hp → Prop), SR F L H M e σ → PostA F e L H σ W Q (den e M) → t σ H Q
theorem dk_nil : DK F X W [] nilA := ⟨_, pk_nil, fun e M L σ H Q sr p => p.ok sr (rfl : ([] : List V) = [])⟩
theorem dk_cons {x : Expr} {nm : Option Str} {kpos : Pos} {kws : List Keyword} {da : DenE} {dr : DenA} (ha : DE F X W x da) (hr : DK F X W kws dr) : DK F X W (⟨nm, x, kpos⟩ :: kws) (consA da dr) := by
  obtain ⟨ta, pa, qa⟩ := ha
  obtain ⟨tr, pr, qr⟩ := hr
  refine ⟨_, pk_cons pa pr, fun e M L σ H Q sr p => qa e M L σ H _ sr (PostG.bind (fun d M1 L1 H1 v s1 r1 rv q => ?_) p)⟩
  refine qr e M1 L1 σ H1 _ r1 (PostG.bind (fun ds M2 L2 H2 vs s2 r2 rvs q2 => ?_) q)
  exact q2.ok r2 ⟨v, vs, rfl, Rep.stay r1.m s2 d v rv, rvs⟩
def tCallKw (F : Fx) (W : WX) (den : DenF) (n m l : Nat) (is : List Nat) (t tk : TA) : TE := fun σ H Q => t σ H fun vs H1 => tk σ H1 fun zs H2 => vs.length = n ∧ zs.length = m ∧ (pk is (vs ++ zs)).length = l ∧ spD F den (pk is (vs ++ zs)) H2 Q (WE W σ)
theorem run_fnKw {p₀ : List (Addr × Obj)} {σ : St} {H : Hp} {s : Shared} {Q : VK} {us ws : List Value} {vs zs : List V} (hK : X.K = F.K) (h : FnD X.prog X.w F X.mg X.base k f fd ps den) (d : Dc X W k) (hb : KwB X.K fd ps n ks is) (I : L2.Inv X p₀ σ H s) (r : Vals vs us) (rz : Vals zs ws)
    (l1 : vs.length = n) (l2 : zs.length = ks.length) (l3 : (pk is (vs ++ zs)).length = ps.length) (q : spD F den (pk is (vs ++ zs)) H Q (WE W σ)) : wpAny (model X.prog X.w) X.A (call (.ref f) us (ks.zip ws)) (EP X p₀ σ Q) X.xe s := by
  have r2 := vals_pk (r.append rz) is
  have e0 := I.env0
  rw [hK] at e0
  refine wpAny_call (codeAny_mono (h.run X.A X.stack s H ⟨us, ks.zip ws⟩ (pk is (us ++ ws)) (pk is (vs ++ zs)) Q (WE W σ) d.room d.gd e0 (hb.to s us ws I.kIn (r.length.symm.trans l1) (rz.length.symm.trans l2)) r2 l3 q) fun res s' hq => ?_)
  cases res with
  | error y => exact passAt d.tk σ p₀ H s y s' I hq
  | ok fl =>
    cases fl with
    | ret u => exact I.after hq
    | next => exact (show False from hq).elim
    | brk => exact (show False from hq).elim
    | cont => exact (show False from hq).elim
/-- the arguments as data; l parameters -/
def fnKD (den : DenF) (n m l : Nat) (is : List Nat) (dr dk : DenA) : DenE := fun e M => bindE (dr e M) fun ds M1 => bindE (dk e M1) fun zs M2 => if ds.length = n ∧ zs.length = m ∧ (pk is (ds ++ zs)).length = l then den (pk is (ds ++ zs)) M2 else none
theorem kw_fin {dr dk : DenA} {t tk : TA}
    (hr : ∀ (e : Env) (M : Store) (L : List Addr) (σ : St) (H : Hp) (Q : List V → Hp → Prop), SR F L H M e σ → PostA F e L H σ W Q (dr e M) → t σ H Q)
    (hk : ∀ (e : Env) (M : Store) (L : List Addr) (σ : St) (H : Hp) (Q : List V → Hp → Prop), SR F L H M e σ → PostA F e L H σ W Q (dk e M) → tk σ H Q)
    (n m l : Nat) (e : Env) (M : Store) (L : List Addr) (σ : St) (H : Hp) (Q : VK) (sr : SR F L H M e σ) (p : Post F e L H σ W Q (fnKD den n m l is dr dk e M)) : tCallKw F W den n m l is t tk σ H Q := by
  refine hr e M L σ H _ sr (PostG.bind (fun ds M1 L1 H1 vs s1 r1 rv q => ?_) p)
  refine hk e M1 L1 σ H1 _ r1 (PostG.bind (fun zs M2 L2 H2 ws s2 r2 rz q2 => ?_) q)
  split at q2
  · rename_i hn
    have rv2 := Reps.stay r1.m s2 _ _ rv
    have ra := reps_pick (reps_app rv2 rz) is
    exact ⟨by rw [← reps_len rv2]; exact hn.1, by rw [← reps_len rz]; exact hn.2.1, by
      have q := reps_len ra
      exact q.symm.trans hn.2.2, L2, M2, _, r2.m, ra, post_fn r2 q2⟩
  · exact False.elim q2
theorem de_callKw0 {x : Str} {p pos : Pos} {kws : List Keyword} {dk : DenA} (h : FnD X.prog X.w F X.mg X.base k f fd ps den) (d : Dc X W k) (hm : X.mg x = some (.ref f)) (hk : PySem.W.keepIn X.K (.ref f) = true) (hb : KwB X.K fd ps 0 ks is)
    (hkw : DK F X W kws dk) (hK : X.K = F.K := by rfl) (hg : Gl X x := by rfl) (hdb : (x == ("__debug__" : Str)) = false := by decide) (hall : (backToKw pos (keywordEach kws X.env)).all (·.1.isSome) = true := by rfl) (hks : (backToKw pos (keywordEach kws X.env)).filterMap (·.1) = ks := by rfl)
    (hnn : ((backTo pos (starEach [] X.env)).any (·.1) || (backToKw pos (keywordEach kws X.env)).any (·.1.isNone)) = false := by rfl) :
    DE F X W (.Call (.Name x p) [] kws pos) (fnKD den 0 ks.length ps.length is nilA dk) := by
  obtain ⟨tk, pk', qk⟩ := hkw
  refine ⟨tCallKw F W den 0 ks.length ps.length is tNil tk, ⟨fun p₀ s₀ σ₀ H₀ Q₀ I₀ h₀ => wpAny_Call_Name_kw (ld_glob I₀ hg hm ?_ hdb)⟩, kw_fin (t := tNil) (dr := nilA) (fun e M L σ H Q sr p => PostG.ok (d := ([] : List D)) (v := ([] : List V)) p sr rfl) qk 0 ks.length ps.length⟩
  refine PySem.W.callWith_KW0 (h₀ := X.base) I₀.ok.mod.kin hk hall ?_ hnn
  refine thn (pk'.run pos p₀ s₀ σ₀ H₀ _ I₀ h₀) fun ws s2 ⟨zs, H2, I2, rz, l1, l2, l3, q2⟩ => ⟨I2.kIn, ?_⟩
  rw [hks]
  exact run_fnKw (us := []) (vs := []) hK h d hb I2 .nil rz l1 l2 l3 q2
end
end DL
namespace DL
open PySem L2
end DL
namespace DL
open PySem L2
section
variable {F : Fx} {X : Cx} {W : WX} {L L1 : List Addr} {H H1 : Hp} {M : Store} {e : Env} {σ : St}
theorem PG.or {t : Expr} {g g' : TG} (h : PG X t g) (h' : PG X t g') : PG X t (fun v σ H Q => g v σ H Q ∨ g' v σ H Q) :=
  ⟨fun p s σ H v u Q I r q => q.elim (h.run p s σ H v u Q I r) (h'.run p s σ H v u Q I r)⟩
end
end DL
namespace DL
open PySem L2
abbrev kk (a b : Int) : List Key := [.inl a, .inl b]
/-- the pairs row by row -/
def cells (w h : Nat) : List (Nat × Nat) := (List.range h).flatMap fun y => (List.range w).map fun x => (x, y)
end DL
namespace DL
open PySem L2
/-- a fraction as the program tells it -/
abbrev qD (r : Rat) : D := .tup [.int r.num, .int (r.den : Int)]
structure Sz (k : Nat) (r : Rat) : Prop where
  n : Bd k r.num
  d : r.den < 2 ^ k
theorem Sz.mono {j k : Nat} {r : Rat} (s : Sz j r) (h : j ≤ k) : Sz k r := ⟨s.n.mono h, Nat.lt_of_lt_of_le s.d (Nat.pow_le_pow_right (by decide) h)⟩
theorem bd_div {k : Nat} {a b : Int} (ha : Bd k a) : Bd k (a / b) := by
  unfold Bd at *
  exact Nat.lt_of_le_of_lt (Int.natAbs_ediv_le_natAbs a b) ha
theorem bd_le {k : Nat} {a b : Int} (hb : Bd k b) (h : a.natAbs ≤ b.natAbs) : Bd k a := Nat.lt_of_le_of_lt h hb
theorem Sz.divInt {k : Nat} {a b : Int} (ha : Bd k a) (hb : Bd k b) (h0 : b ≠ 0) : Sz k (Rat.divInt a b) := by
  constructor
  · rw [Rat.num_divInt]
    refine bd_div ?_
    refine bd_le ha ?_
    rw [Int.natAbs_mul]
    have : b.sign.natAbs ≤ 1 := by
      rw [Int.natAbs_sign]
      split <;> omega
    calc b.sign.natAbs * a.natAbs ≤ 1 * a.natAbs := Nat.mul_le_mul_right _ this
      _ = a.natAbs := Nat.one_mul _
  · rw [Rat.den_divInt, if_neg h0]
    exact Nat.lt_of_le_of_lt (Nat.div_le_self _ _) hb
theorem Sz.int {k : Nat} {i : Int} (h : Bd k i) (hk : 1 ≤ k) : Sz k (i : Rat) := ⟨by rw [Rat.num_intCast]; exact h, by rw [Rat.den_intCast]; exact Nat.lt_of_lt_of_le (by decide : 1 < 2 ^ 1) (Nat.pow_le_pow_right (by decide) hk)⟩
/-- exact quotients -/
theorem fdivE {i j : Int} {k : Nat} {M : Store} (hj : Bd k j) (h0 : j ≠ 0) (hd : j ∣ i) (h : k < 9000) : fdivF (.int i) (.int j) M = ok (.int (i / j)) M := by
  rw [fdivB hj h0 h, Int.fdiv_eq_ediv_of_dvd hd]
end DL
namespace DL
open PySem L2
mutual
/-- data with short leaves -/
def okD : D → Bool
  | .non => true
  | .bl _ => true
  | .int i => decide (i.natAbs.log2 < 100)
  | .str x => ((PyData.str x).showable && (PyData.str x).leavesShort 200 && decide (x.cps.size ≤ 100)) && (PyData.str x).canLay0
  | .tup ds => okDs ds
  | .lst ds => okDs ds
  | _ => false
def okDs : List D → Bool
  | [] => true
  | d :: ds => okD d && okDs ds
end
mutual
def szD' : D → Nat
  | .tup ds => szDs ds
  | .lst ds => szDs ds
  | .str x => x.cps.size
  | _ => 0
def szDs : List D → Nat
  | [] => 0
  | d :: ds => szD' d + 1 + szDs ds
end
mutual
def dpD : D → Nat
  | .tup ds => dpDs ds + 1
  | .lst ds => dpDs ds + 1
  | _ => 0
def dpDs : List D → Nat
  | [] => 0
  | d :: ds => max (dpD d) (dpDs ds)
end
/-- how data are written -/
def rpr (d : D) : Str := match D.py d with
  | some p => p.shown
  | none => ""
section
variable {n w h : Nat} {f : Nat → D}
theorem lg {i : Int} (h : i.natAbs ≤ 1000000) : okD (.int i) = true := decide_eq_true (by
  have : Bd 20 i := by unfold Bd; omega
  have := this.lg
  omega)
end
end DL
namespace DL
open PySem L2 PyProof.Rows
/-- what an object of the top names, as far as it is asked of -/
def refsN (o : Obj) : List Addr := match o.data with
  | .func fd => He.refV fd.code ++ (He.refV fd.kwdefaults ++ (He.refV fd.defaults ++ fd.closure.map (·.2)))
  | .cls cd => [cd.ns]
  | .dict es _ => es.toList.flatMap fun e => He.refV e.val
  | _ => []
def lvl (g : Addr → Option Obj) : List Addr → List Addr
  | [] => []
  | a :: r => (match g a with
    | some o => refsN o
    | none => []) ++ lvl g r
/-- a list of addresses, each told as a number -/
def frA {α : Type} : List Addr → (List Addr → α) → α
  | [], k => k []
  | a :: r, k => HandSHeadRun.frNat a fun a => frA r fun r => k (a :: r)
theorem frA_eq {α : Type} : ∀ (l : List Addr) (k : List Addr → α), frA l k = k l
  | [], k => rfl
  | a :: r, k => by
    show (HandSHeadRun.frNat a fun a => frA r fun r => k (a :: r)) = _
    rw [HandSHeadRun.frNat_eq, frA_eq r]
/-- the objects at these places, but for empty tables -/
def frK {α : Type} (g : Addr → Option Obj) : List Addr → (PySem.W.Frag → α) → α
  | [], k => k []
  | a :: r, k => match g a with
    | some o => (match He.emptyTab o with
      | true => frK g r k
      | false => frK g r fun K => k ((a, o) :: K))
    | none => frK g r k
theorem frK_eq {α : Type} (g : Addr → Option Obj) : ∀ (l : List Addr) (k : PySem.W.Frag → α), frK g l k = k (He.frT g l)
  | [], k => rfl
  | a :: r, k => by
    show (match g a with
      | some o => (match He.emptyTab o with
        | true => frK g r k
        | false => frK g r fun K => k ((a, o) :: K))
      | none => frK g r k) = _
    unfold He.frT He.frG
    rw [List.filterMap_cons]
    cases h : g a with
    | none => exact frK_eq g r k
    | some o =>
      dsimp only [Option.map_some]
      rw [List.filter_cons]
      cases h2 : He.emptyTab o with
      | true => exact frK_eq g r k
      | false => exact frK_eq g r _
/-- four steps from the module's names -/
def asN {α : Type} (g : Addr → Option Obj) (k : List Addr → α) : α :=
  frA (lvl g [mainGlobals]) fun l1 => frA (lvl g l1) fun l2 => frA (lvl g l2) fun l3 => frA (lvl g l3) fun l4 => k (mainGlobals :: PySem.cStatics :: (l1 ++ (l2 ++ (l3 ++ l4))))
def asL (g : Addr → Option Obj) : List Addr := mainGlobals :: PySem.cStatics :: (lvl g [mainGlobals] ++ (lvl g (lvl g [mainGlobals]) ++ (lvl g (lvl g (lvl g [mainGlobals])) ++ lvl g (lvl g (lvl g (lvl g [mainGlobals]))))))
theorem asN_eq {α : Type} (g : Addr → Option Obj) (k : List Addr → α) : asN g k = k (asL g) := by
  unfold asN asL
  simp only [frA_eq]
def KZ (_n : Nat) (g : Addr → Option Obj) : PySem.W.Frag := He.frT g (asL g)
theorem KZ_in {n : Nat} {h : Heap} : (KZ n h.get?).In h := He.frT_in
abbrev FnM : Type := Option (Str × Str × Arguments × FuncBody × Scope × Addr × List Str × Addr)
/-- a function as it stands -/
def fnM (K : PySem.W.Frag) (a : Addr) : FnM := match K.lookup a with
  | some ⟨_, _, .func fd, _⟩ => some (fd.name, fd.qualname, fd.params, fd.body, fd.scope, fd.globals, fd.closure.map (·.1), fd.builtins)
  | _ => none
def fdOf (K : PySem.W.Frag) (a : Addr) : FuncData := match K.lookup a with
  | some ⟨_, _, .func fd, _⟩ => fd
  | _ => default
abbrev AlZ : Type := Bool × List FnM
abbrev FzL : Type := List (List (PySem.W.Frag → Bool))
abbrev MzL : Type := List (PySem.W.Frag → FnM)
def obsZ (fs : FzL) (ms : MzL) (K : PySem.W.Frag) : AlZ := (fs.all fun l => l.all fun f => f K, ms.map fun m => m K)
def SaysZ (fs : FzL) (ms : MzL) (vs : List FnM) (K : PySem.W.Frag) : Prop := obsZ fs ms K = (true, vs)
def hookZ (n : Nat) (fs : FzL) (ms : MzL) (vs : List FnM) : PySem.W.Hook where
  α := AlZ
  obs := fun s => obsZ fs ms (KZ n s.heap.get?)
  val := fun _ => (true, vs)
  says := fun _ h => ∃ K : PySem.W.Frag, K.In h ∧ SaysZ fs ms vs K
  of := fun _ _ e => ⟨_, KZ_in, e⟩
  keeps := fun _ _ _ ⟨Kw, hKw, cw⟩ kw => ⟨Kw, PySem.W.Frag.In.keeps hKw kw, cw⟩
def obZ (_n : Nat) (fs : FzL) (ms : MzL) (s : PySem.W.SharedT) : AlZ := asN (HandSHeadRun.getT s) fun as => frK (HandSHeadRun.getT s) as fun K => obsZ fs ms K
theorem obZ_eq {n : Nat} {fs : FzL} {ms : MzL} {vs : List FnM} (s : PySem.W.SharedT) : obZ n fs ms s = (hookZ n fs ms vs).obs s.abs := by
  have e : HandSHeadRun.getT s = s.abs.heap.get? := funext (HandSHeadRun.getT_eq s)
  unfold obZ
  rw [asN_eq, frK_eq, e] <;> rfl
section
variable {fs : FzL} {ms : MzL} {vs : List FnM} {K : PySem.W.Frag}
theorem SaysZ.fact (c : SaysZ fs ms vs K) (i j : Nat) {l : List (PySem.W.Frag → Bool)} {f : PySem.W.Frag → Bool} (hi : fs[i]? = some l := by rfl) (hj : l[j]? = some f := by rfl) : f K = true := by
  have c1 : (fs.all fun l => l.all fun f => f K) = true := congrArg (fun z : AlZ => z.1) c
  exact List.all_eq_true.mp (List.all_eq_true.mp c1 l (List.mem_of_getElem? hi)) f (List.mem_of_getElem? hj)
theorem SaysZ.fn (c : SaysZ fs ms vs K) (i : Nat) {m : PySem.W.Frag → FnM} {v : FnM} (hm : ms[i]? = some m := by rfl) (hv : vs[i]? = some v := by rfl) : m K = v := by
  have e : ms.map (fun m => m K) = vs := congrArg (fun z : AlZ => z.2) c
  have e2 : (ms.map fun m => m K)[i]? = vs[i]? := by rw [e]
  rw [List.getElem?_map, hm, hv] at e2
  exact Option.some.inj e2
end
def gloZ (x : Str) (K : PySem.W.Frag) : Bool := He.eqO (PySem.W.nsIn K mainGlobals x) (some (some (.ref (He.ga K x))))
def freeZ (x : Str) (K : PySem.W.Frag) : Bool := He.eqO (PySem.W.nsIn K mainGlobals x) (some none)
def bltZ (x : Str) (id : String) (K : PySem.W.Frag) : Bool := He.eqO (PySem.W.nsIn K mainGlobals x) (some (some (.builtin id)))
def intZ (x : Str) (i : Int) (K : PySem.W.Frag) : Bool := (He.Fa.int x i).ok K
section
variable {mg : Str → Option Value} {h : Heap} {K : PySem.W.Frag}
theorem gloZ_ok (X : K.In h) (G : h.Ns mainGlobals mg) {x : Str} (c : gloZ x K = true) : mg x = some (.ref (He.ga K x)) := PySem.W.mg_of X G (He.eqO_ok c)
theorem freeZ_ok (X : K.In h) (G : h.Ns mainGlobals mg) {x : Str} (c : freeZ x K = true) : mg x = none := PySem.W.mg_none_of X G (He.eqO_ok c)
theorem bltZ_ok (X : K.In h) (G : h.Ns mainGlobals mg) {x : Str} {id : String} (c : bltZ x id K = true) : mg x = some (.builtin id) := PySem.W.mg_of X G (He.eqO_ok c)
theorem intZ_ok (X : K.In h) (G : h.Ns mainGlobals mg) {x : Str} {i : Int} (c : intZ x i K = true) : ∃ t, mg x = some (.int i t) := He.int_ok X G c
end
/-- a def: its code object bears its name, no defaults -/
def defZ (x : Str) (K : PySem.W.Frag) : Bool := match K.lookup (He.ga K x) with
  | some ⟨_, _, .func fd, _⟩ => PySem.W.codeIn K fd.code x && (fd.defaults == Value.none && PySem.W.keepIn K (.ref (He.ga K x)))
  | _ => false
theorem fn_look {K : PySem.W.Frag} {a : Addr} {nm q : Str} {pa : Arguments} {body : List Stmt} {sc : Scope} {cn : List Str} {gl bi : Addr} (e : fnM K a = some (nm, q, pa, .stmts body, sc, gl, cn, bi)) :
    ∃ (oc : Value) (od : Option Addr) (osl : Array (Option Value)) (cl : List (Str × Addr)) (dV kV doc pm : Value) (an : Option Addr) (cdv ct : Value), cl.map (·.1) = cn ∧
      fdOf K a = ⟨nm, q, pa, .stmts body, sc, gl, cl, dV, kV, doc, pm, an, cdv, ct, bi⟩ ∧ K.lookup a = some ⟨oc, od, .func (fdOf K a), osl⟩ := by
  unfold fnM at e
  cases q1 : K.lookup a with
  | none =>
    rw [q1] at e
    cases e
  | some o =>
    obtain ⟨oc, od, dt, osl⟩ := o
    rw [q1] at e
    cases dt with
    | func fd =>
      rcases fd with ⟨n1, n2, n3, n4, n5, n6, n7, n8, n9, n10, n11, n12, n13, n14, n15⟩
      have e2 : (some (n1, n2, n3, n4, n5, n6, n7.map (·.1), n15) : FnM) = some (nm, q, pa, .stmts body, sc, gl, cn, bi) := e
      simp only [Prod.mk.injEq, Option.some.injEq] at e2
      rcases e2 with ⟨h1, h2, h3, h4, h5, h6, h7, h8⟩
      subst h1 h2 h3 h4 h5 h6 h7 h8
      have e3 : fdOf K a = ⟨n1, n2, n3, .stmts body, n5, n6, n7, n8, n9, n10, n11, n12, n13, n14, n15⟩ := by
        unfold fdOf
        rw [q1]
      exact ⟨oc, od, osl, n7, n8, n9, n10, n11, n12, n13, n14, rfl, e3, by rw [e3]⟩
    | _ => cases e
theorem map_nil {α β : Type} {f : α → β} {l : List α} (h : l.map f = []) : l = [] := List.map_eq_nil_iff.mp h
theorem fun_z {K : PySem.W.Frag} {x : Str} {st : Stmt} (e : fnM K (He.ga K x) = some (x, x, defArgs st, .stmts (defBody st), defScope st, mainGlobals, [], builtinsNs)) (b : defZ x K = true) : Fun K x x st (He.ga K x) (fdOf K (He.ga K x)) := by
  obtain ⟨oc, od, osl, cl, dV, kV, doc, pm, an, cdv, ct, hcl, hf, lk⟩ := fn_look e
  have hcl := map_nil hcl
  subst hcl
  unfold defZ at b
  rw [lk] at b
  dsimp only at b
  obtain ⟨b1, b2⟩ := He.ba b
  obtain ⟨b2, b3⟩ := He.ba b2
  rw [hf] at b1 b2
  have hd : dV = .none := beq_iff_eq.mp b2
  subst hd
  exact ⟨⟨oc, od, kV, doc, pm, an, cdv, ct, osl, hf, lk, b1⟩, b3⟩
theorem kwB_z {K : PySem.W.Frag} {x : Str} {st : Stmt} {f : Addr} {ps ks : List Str} {n : Nat} {is : List Nat} (F : Fun K x x st f (fdOf K (He.ga K x)))
    (h : ∀ (kV doc pm : Value) (an : Option Addr) (cdv ct : Value) (us ws : List Value), us.length = n → ws.length = ks.length → bindArgs (PySem.W.fnOf x x (defArgs st) (defBody st) (defScope st) .none kV doc pm an cdv ct) ⟨us, ks.zip ws⟩ = pure (ps.zip (pk is (us ++ ws)))) : KwB K (fdOf K (He.ga K x)) ps n ks is := by
  obtain ⟨oc, od, kV, doc, pm, an, cdv, ct, osl, hf, lk, hcd⟩ := F.ex
  rw [hf]
  exact KwB.of fun us ws h1 h2 => h kV doc pm an cdv ct us ws h1 h2
def cOf (K : PySem.W.Frag) (x : Str) : Addr := match (fdOf K (He.ga K x)).code with
  | .ref c => c
  | _ => 0
def tOf (K : PySem.W.Frag) (x : Str) : Addr := match K.lookup (cOf K x) with
  | some ⟨_, _, .fields ws, _⟩ => (match (ws[11]? : Option Value) with
    | some (.ref P) => P
    | _ => 0)
  | _ => 0
def codZ (x : Str) (K : PySem.W.Frag) : Bool := decide ((fdOf K (He.ga K x)).code = .ref (cOf K x)) && (decide (PySem.W.tabIn K x = some (cOf K x, tOf K x)) && (K.lookup (tOf K x)).isNone)
theorem codZ_ok {x : Str} {K : PySem.W.Frag} (h : codZ x K = true) : (fdOf K (He.ga K x)).code = .ref (cOf K x) ∧ PySem.W.tabIn K x = some (cOf K x, tOf K x) ∧ K.lookup (tOf K x) = none := by
  obtain ⟨h1, h2⟩ := He.ba h
  obtain ⟨h2, h3⟩ := He.ba h2
  exact ⟨of_decide_eq_true h1, of_decide_eq_true h2, Option.isNone_iff_eq_none.mp h3⟩
def neZ (x y : Str) (K : PySem.W.Frag) : Bool := decide (tOf K x ≠ tOf K y)
def excZ (x : Str) (K : PySem.W.Frag) : Bool := (fun C : Addr =>
  (PySem.W.keepIn K (.ref C) && (decide (PySem.W.subIn K (.ref C) (.type "BaseException") = some true) && decide (PySem.W.typeIn K (.ref C) = some (.type "type")))) &&
  ((He.eqO (PySem.W.findIn K (.ref C) "__getattribute__") (some (some (.builtin "BaseException.__getattribute__"))) && He.eqO (PySem.W.findIn K (.ref C) "__getattr__") (some none)) &&
  ((PySem.W.hasDictIn K C && He.eqO (PySem.W.findIn K (.ref C) "__class__") (some (some (.builtin "object.__class__")))) &&
  ((He.eqO (PySem.W.specialIn K (.builtin "object.__class__") "__get__") (some (some (.builtin "getset_descriptor.__get__"))) && decide (PySem.W.takesIn K (.builtin "object.__class__") = some true)) && decide (PySem.W.mroIn K C (.type "object") = some true))))) (He.ga K x)
structure ExcF (K : PySem.W.Frag) (C : Addr) : Prop where
  kp : (PySem.W.keepIn K (.ref C)) = true
  bc : PySem.W.subIn K (.ref C) (.type "BaseException") = some true
  tc : PySem.W.typeIn K (.ref C) = some (.type "type")
  ec : L2.ExcC K C
theorem excZ_ok {x : Str} {K : PySem.W.Frag} (h : excZ x K = true) : ExcF K (He.ga K x) := by
  unfold excZ at h
  obtain ⟨h1, h2⟩ := He.ba h
  obtain ⟨h3, h4⟩ := He.ba h1
  obtain ⟨h4, h5⟩ := He.ba h4
  obtain ⟨h6, h7⟩ := He.ba h2
  obtain ⟨h6, h8⟩ := He.ba h6
  obtain ⟨h9, h10⟩ := He.ba h7
  obtain ⟨h9, h11⟩ := He.ba h9
  obtain ⟨h12, h13⟩ := He.ba h10
  obtain ⟨h12, h14⟩ := He.ba h12
  have e := of_decide_eq_true h4
  exact ⟨h3, e, of_decide_eq_true h5, ⟨He.eqO_ok h6, He.eqO_ok h8, e, h9, He.eqO_ok h11, He.eqO_ok h12, of_decide_eq_true h14, of_decide_eq_true h13⟩⟩
def kitZ (x : Str) (v : PySem.W.Frag → Value) (b : Bool) (K : PySem.W.Frag) : Bool := decide (PySem.W.kitOne K (.ref (He.ga K x)) (v K) = some b)
def exmOZ (x y : Str) (K : PySem.W.Frag) : Bool := decide (PySem.W.exmOne K (.ref (He.ga K x)) (.ref (He.ga K y)) = some true)
def exc0Z (x : Str) (tl : List Value) (nw : String) (K : PySem.W.Frag) : Bool := PySem.W.excIn K (He.ga K x) tl nw
/-- an own error's own __init__ -/
def iA (K : PySem.W.Frag) (x : Str) : Addr := He.ma K (He.ga K x) "__init__"
def iniZ (x f : Str) (B nw ini : String) (tl : List Value) (file : Str) (q : Str) (dfl : Bool) (K : PySem.W.Frag) : Bool := (fun (C I : Addr) =>
  ((match K.lookup C with
    | some ⟨.type "type", _, .cls cdd, sll⟩ => (match cdd.mro, sll.toList with
      | .ref C' :: bm, [_, _, _, _, some (.builtin n), _] => decide (C' = C) && (decide (n = nw) && (!cdd.hasDel && (cdd.hasDict && refsB tl bm)))
      | _, _ => false)
    | _ => false) &&
  (He.eqO (PySem.W.ks_superIn K C C "__init__") (some (some (.builtin ini))) && (decide (PySem.W.subIn K (.ref C) (.type B) = some true) && PySem.W.excInitIn K C tl nw))) &&
  ((He.eqO (PySem.W.findIn K (.ref C) "__setattr__") (some (some (.builtin "object.__setattr__"))) && (He.eqO (PySem.W.findIn K (.ref C) f) (some none) && He.eqO (PySem.W.findIn K (.ref C) "__init__") (some (some (.ref I))))) &&
  ((decide (PySem.W.typeIn K (.ref I) = some (.type "function")) && (He.eqO (PySem.W.nsIn K PySem.cStatics "thirdparty.any") (some none) && decide (PySem.W.mroIn K C (.ref C) = some true))) &&
  ((match (fdOf K I).code with
    | .ref cda => PySem.W.codeIn K (.ref cda) q && (match K.lookup cda with
      | some ⟨_, _, .fields vs, _⟩ => (match (vs[2]? : Option Value) with
        | some (.str z _) => file == z
        | _ => false)
      | _ => false)
    | _ => false) &&
  ((match (fdOf K I).closure with
    | [(_, cc)] => (match K.lookup cc with
      | some ⟨_, _, .cell (some v), _⟩ => decide (v = .ref C)
      | _ => false)
    | _ => false) &&
  (match dfl, (fdOf K I).defaults with
    | false, v => decide (v = Value.none)
    | true, .ref T => (match K.lookup T with
      | some ⟨_, _, .seq its _, _⟩ => decide (its.toList = [Value.none])
      | _ => false)
    | _, _ => false)))))) (He.ga K x) (iA K x)
section
variable {P : Program} {K : PySem.W.Frag} {x f y q file : Str} {B nw ini : String} {tl : List Value} {dfl : Bool} {pa : Arguments} {body : List Stmt}
theorem ini_parts (c : iniZ x f B nw ini tl file q dfl K = true) :
    (∃ nm q N bs bm sn sb ab col dd k0 k1 k2 k3 k5, K.lookup (He.ga K x) = some (excClassObj nm q (He.ga K x) N bs bm true sn sb ab col dd k0 k1 k2 k3 k5 nw) ∧ (refsB tl bm = true)) ∧
    (PySem.W.ks_superIn K (He.ga K x) (He.ga K x) "__init__" = some (some (.builtin ini)) ∧ PySem.W.subIn K (.ref (He.ga K x)) (.type B) = some true ∧ PySem.W.excInitIn K (He.ga K x) tl nw = true) ∧
    (PySem.W.findIn K (.ref (He.ga K x)) "__setattr__" = some (some (.builtin "object.__setattr__")) ∧ PySem.W.findIn K (.ref (He.ga K x)) f = some none ∧ PySem.W.findIn K (.ref (He.ga K x)) "__init__" = some (some (.ref (iA K x)))) ∧
    (PySem.W.typeIn K (.ref (iA K x)) = some (.type "function") ∧ PySem.W.nsIn K PySem.cStatics "thirdparty.any" = some none ∧ PySem.W.mroIn K (He.ga K x) (.ref (He.ga K x)) = some true) ∧
    (∃ cda ccl cdd vs ccs tf, (fdOf K (iA K x)).code = .ref cda ∧ PySem.W.codeIn K (.ref cda) q = true ∧ K.lookup cda = some ⟨ccl, cdd, .fields vs, ccs⟩ ∧ (vs[2]? : Option Value) = some (.str file tf)) ∧
    (∃ n cc cl cld csl, (fdOf K (iA K x)).closure = [(n, cc)] ∧ K.lookup cc = some ⟨cl, cld, .cell (some (.ref (He.ga K x))), csl⟩) ∧
    ((dfl = false ∧ (fdOf K (iA K x)).defaults = .none) ∨ (dfl = true ∧ ∃ T oc od its n sl, (fdOf K (iA K x)).defaults = .ref T ∧ K.lookup T = some ⟨oc, od, .seq its n, sl⟩ ∧ its = #[Value.none])) := by
  unfold iniZ at c
  obtain ⟨h0, c⟩ := He.ba c
  obtain ⟨h1, h0⟩ := He.ba h0
  obtain ⟨h2, h0⟩ := He.ba h0
  obtain ⟨h3, h4⟩ := He.ba h0
  obtain ⟨h5, c⟩ := He.ba c
  obtain ⟨h5, h6⟩ := He.ba h5
  obtain ⟨h6, h7⟩ := He.ba h6
  obtain ⟨h8, c⟩ := He.ba c
  obtain ⟨h8, h9⟩ := He.ba h8
  obtain ⟨h9, h10⟩ := He.ba h9
  obtain ⟨h11, c⟩ := He.ba c
  obtain ⟨h12, h13⟩ := He.ba c
  clear c h0
  refine ⟨?_, ⟨He.eqO_ok h2, of_decide_eq_true h3, h4⟩, ⟨He.eqO_ok h5, He.eqO_ok h6, He.eqO_ok h7⟩, ⟨of_decide_eq_true h8, He.eqO_ok h9, of_decide_eq_true h10⟩, ?_, ?_, ?_⟩
  · clear h2 h3 h4 h5 h6 h7 h8 h9 h10 h11 h12 h13
    generalize He.ga K x = C at h1 ⊢
    split at h1
    · rename_i dd cd sl ho
      split at h1
      · rename_i C' bm k0 k1 k2 k3 n k5 hmr hs
        obtain ⟨e2, g1⟩ := He.ba h1
        obtain ⟨e3, g2⟩ := He.ba g1
        obtain ⟨e4, g3⟩ := He.ba g2
        obtain ⟨e5, g4⟩ := He.ba g3
        clear h1 g1 g2 g3
        have d2 := of_decide_eq_true e2
        have d3 := of_decide_eq_true e3
        clear e2 e3
        subst d2 d3
        have e6 : cd.hasDel = false := by simpa using e4
        clear e4
        rcases cd with ⟨nm, bs, mro, ns, qn, hd, sn, sub, ab, col, del⟩
        dsimp only at hmr e6 e5
        subst hmr e6 e5
        have hsl : sl = #[k0, k1, k2, k3, (some (.builtin n)), k5] := by
          obtain ⟨l⟩ := sl
          simp only at hs
          rw [hs]
        subst hsl
        exact ⟨nm, qn, ns, bs, bm, sn, sub, ab, col, dd, k0, k1, k2, k3, k5, ho, g4⟩
      · cases h1
    · cases h1
  · clear h1 h2 h3 h4 h5 h6 h7 h8 h9 h10 h12 h13
    generalize (fdOf K (iA K x)).code = cv at h11 ⊢
    cases cv with
    | ref cda =>
      obtain ⟨e1, h11⟩ := He.ba h11
      cases q1 : K.lookup cda with
      | none =>
        rw [q1] at h11
        cases h11
      | some o =>
        obtain ⟨oc, od, dt, osl⟩ := o
        rw [q1] at h11
        cases dt with
        | fields vs =>
          dsimp only at h11
          split at h11
          · rename_i z tf hz
            have ez : file = z := beq_iff_eq.mp h11
            subst ez
            exact ⟨cda, oc, od, vs, osl, tf, rfl, e1, q1, hz⟩
          · cases h11
        | _ => cases h11
    | _ => cases h11
  · clear h1 h2 h3 h4 h5 h6 h7 h8 h9 h10 h11 h13
    generalize (fdOf K (iA K x)).closure = cv at h12 ⊢
    split at h12
    · rename_i n cc
      split at h12
      · rename_i cl cld v csl ho
        have e := of_decide_eq_true h12
        subst e
        exact ⟨n, cc, cl, cld, csl, rfl, ho⟩
      · cases h12
    · cases h12
  · clear h1 h2 h3 h4 h5 h6 h7 h8 h9 h10 h11 h12
    generalize (fdOf K (iA K x)).defaults = cv at h13 ⊢
    cases dfl with
    | false => exact .inl ⟨rfl, of_decide_eq_true h13⟩
    | true =>
      right
      cases cv with
      | ref T =>
        cases q1 : K.lookup T with
        | none =>
          simp only [q1] at h13
          cases h13
        | some o =>
          obtain ⟨oc, od, dt, osl⟩ := o
          simp only [q1] at h13
          cases dt with
          | seq its n =>
            have e : its.toList = [Value.none] := of_decide_eq_true h13
            refine ⟨rfl, T, oc, od, its, n, osl, rfl, q1, ?_⟩
            obtain ⟨l⟩ := its
            simp only at e
            rw [e]
          | _ => cases h13
      | _ => cases h13
theorem ini_fd (e : fnM K (iA K x) = some (("__init__" : Str), q, pa, .stmts body, iniS y, mainGlobals, [("__class__" : Str)], builtinsNs)) (c : iniZ x f B nw ini tl file q dfl K = true) :
    ∃ oc od osl dV kV doc pm an cda ct cc ccl cdd vs ccs tf cl cld csl, fdOf K (iA K x) = PySem.W.ksFn "__init__" q pa body (iniS y) dV kV doc pm an (.ref cda) ct cc ∧ K.lookup (iA K x) = some ⟨oc, od, .func (fdOf K (iA K x)), osl⟩ ∧
      PySem.W.codeIn K (.ref cda) q = true ∧ K.lookup cda = some ⟨ccl, cdd, .fields vs, ccs⟩ ∧ (vs[2]? : Option Value) = some (.str file tf) ∧ K.lookup cc = some ⟨cl, cld, .cell (some (.ref (He.ga K x))), csl⟩ ∧
      ((dfl = false ∧ dV = .none) ∨ (dfl = true ∧ ∃ T oc od its n sl, dV = .ref T ∧ K.lookup T = some ⟨oc, od, .seq its n, sl⟩ ∧ its = #[Value.none])) := by
  obtain ⟨_, _, _, _, ⟨cda, ccl, cdd, vs, ccs, tf, a1, a2, a3, a4⟩, ⟨n, cc, cl, cld, csl, b1, b2⟩, d⟩ := ini_parts c
  obtain ⟨oc, od, osl, cl', dV, kV, doc, pm, an, cdv, ct, hcl, hf, lk⟩ := fn_look e
  rw [hf] at a1 b1 d
  dsimp only at a1 b1 d
  subst a1 b1
  have hn : n = "__class__" := by simpa using hcl
  subst hn
  exact ⟨oc, od, osl, dV, kV, doc, pm, an, cda, ct, cc, ccl, cdd, vs, ccs, tf, cl, cld, csl, hf, lk, a2, a3, a4, b2, d⟩
theorem ini_z {msg : Str} {p0 p1 p2 p3 p4 p5 q1 q2 q3 q4 : Pos} {j : Nat} {ar : Arg} (eb : EB B nw ini tl) (e : fnM K (iA K x) = some (("__init__" : Str), q, pa, .stmts body, iniS y, mainGlobals, [("__class__" : Str)], builtinsNs))
    (hb : body = [.Expr (.Call (.Attribute (.Call (.Name "super" p0) [] [] p1) "__init__" p2) [.Constant (.str msg) j p3] [] p4) p5, .Assign [.Attribute (.Name "self" q1) f q2] (.Name y q3) q4]) (hl : (p2.endLine == p4.line) = true)
    (ha : (pa.posonlyargs ++ pa.args).head? = some ar) (hs : ar.arg = "self") (hf : ((P.main.file : Str) == file) = true) (ht : (P.main.scope.names.lookup ("super" : Str)).isSome = false)
    (n1 : (iniS y).names.lookup ("super" : Str) = some .globalImplicit) (n2 : (iniS y).names.lookup ("__class__" : Str) = some .free) (n3 : (iniS y).names.lookup ("self" : Str) = some .local) (n4 : (iniS y).names.lookup y = some .local)
    (c : iniZ x f B nw ini tl file q dfl K = true) : IniTxt P K (He.ga K x) (iA K x) f y := by
  obtain ⟨⟨nm, q', N, bs, bm, sn, sb, ab, col, dd, k0, k1, k2, k3, k5, c1, c2⟩, ⟨s1, s2, s3⟩, ⟨s4, s5, s6⟩, ⟨s7, s8, s9⟩, _⟩ := ini_parts c
  obtain ⟨oc, od, osl, dV, kV, doc, pm, an, cda, ct, cc, ccl, cdd, vs, ccs, tf, cl, cld, csl, f1, f2, f3, f4, f5, f6, _⟩ := ini_fd e c
  rw [f1, hb] at f2
  exact ⟨⟨_, _, _, _, eb, nm, q', N, bs, bm, sn, sb, ab, col, dd, k0, k1, k2, k3, k5, c1, c2, s1, s2, s3⟩, s4, s5, s6, s7, s8, s9, ⟨oc, od, an, dV, kV, doc, pm, ct, cda, cc, osl, q, msg, pa, p0, p1, p2, p3, p4, p5, q1, q2, q3, q4, j, ar, vs, file, tf, ccl, cl, cdd, cld, ccs, csl, f2, f3, ha, hs, f4, f5, hf, f6, n1, n2, n3, n4, hl⟩, ht⟩
theorem ini_bD (e : fnM K (iA K x) = some (("__init__" : Str), q, pa, .stmts body, iniS y, mainGlobals, [("__class__" : Str)], builtinsNs)) (c : iniZ x f B nw ini tl file q true K = true)
    (b : ∀ (T : Addr) (kV doc pm : Value) (an : Option Addr) (cdv ct : Value) (cc : Addr) (a : Addr) (v : Value), ∃ k : Option (Array Value) → Sem (List (Str × Value)), bindArgs (PySem.W.ksFn "__init__" q pa body (iniS y) (.ref T) kV doc pm an cdv ct cc) ⟨[.ref a, v], []⟩ = seqItems? (.ref T) >>= k ∧ k (some #[Value.none]) = (pure [(("self" : Str), Value.ref a), ((y : Str), v)] : Sem (List (Str × Value)))) :
    ∀ (s : Shared) (a : Addr) (v : Value) (fd : FuncData), K.In s.heap → (∃ oc od osl, K.lookup (iA K x) = some ⟨oc, od, .func fd, osl⟩) → BindsTo s fd ⟨[.ref a, v], []⟩ [("self", .ref a), (y, v)] := by
  obtain ⟨oc, od, osl, dV, kV, doc, pm, an, cda, ct, cc, ccl, cdd, vs, ccs, tf, cl, cld, csl, f1, f2, f3, f4, f5, f6, d⟩ := ini_fd e c
  rcases d with ⟨z, _⟩ | ⟨_, T, oc', od', its, n, sl, hd, hT, hi⟩
  · cases z
  · subst hd hi
    rw [f1] at f2
    exact fun s a v fd hk h => bd_mkD f2 hk h rfl hT rfl (b _ _ _ _ _ _ _ _ a v)
end
theorem walk_Z {l : PySem.W.OpenLaw} {n k : Nat} {q : Program} {loose : List Str} {XP : (Str → Option Value) → Heap → Prop} {YP : World → Heap → Prop} {d : DefRec} {x : Str} (hn : l.most = some n) (hn2 : n ≤ sizeLine) (hdf : d.params.defaults = [])
    (hr : Room k callerA) (F : ∀ (w : World) (mg : Str → Option Value) (fa : Addr) (h : Heap), YP w h → h.Ns mainGlobals mg → mg d.name = some (.ref fa) → ∃ K : PySem.W.Frag, K.In h ∧ DEnd l.prog w K q k n x mg fa) :
    PySem.W.WalkO q loose XP YP l.row.toRowW d [] (fun g ws => PySem.call g ws) := by
  refine Att.attach_callB hn hdf fun w s₀ s₁ mg mb fa ob pmd cdv dcv a vs ns G Y ho hd hcd hmg hobj hints hlen hbits hg => ?_
  obtain ⟨K, KX, F0, fd, xs, den, hK, hx, hT, hb, hF, hden⟩ := F w mg fa _ Y G.T.g hmg
  subst hK
  have hc : ∀ p ∈ xs.map (·.2), PySem.W.CodeHd s₁.heap p.1 p.2 ∧ s₁.heap.get? p.2 = some { cls := .none, data := .fields #[] } := fun p hp => by
    obtain ⟨y, hy, rfl⟩ := List.mem_map.mp hp
    obtain ⟨⟨dd, h1⟩, h2, h3⟩ := hx y hy
    exact PySem.W.tab_of G.T KX h1 h2
  have e : Ent F0.K mg s₁ (xs.map (·.2)) a vs ns := ⟨KX, G.T.g, ⟨mb, G.T.b, G.T.builtins⟩, G.T.nolimit, hg, fun p hp => (hc p hp).2, fun p hp => by
    obtain ⟨y, hy, rfl⟩ := List.mem_map.mp hp
    exact (hx y hy).2.2, fun p hp => (hc p hp).1, G.T.bmain, hobj, hints, Nat.le_trans hlen hn2⟩
  exact ent_call e hr hT hb hF (hden ns hlen hbits)
end DL
namespace DL
open PySem L2 PyProof.Rows
end DL
namespace DL
open PySem L2
end DL
namespace DL
open PySem L2
end DL
namespace DL
open PySem L2 PySem.Spec PyProof.Rows
/-- the first base is in the second -/
abbrev Ext (b b' : Heap) : Prop := ∀ a o, b.get? a = some o → b'.get? a = some o
/-- the heap without what is tracked and without the frames: nothing here changes any more -/
def bsL (X : Cx) (H : Hp) (s : Shared) : Heap := PySem.W.hideAll s.heap (trk s.heap H ++ frs X.stack)
section
variable {X : Cx} {pins : List (Addr × Obj)} {σ : L2.St}
variable {H HZ : Hp} {s s1 : Shared}
theorem bsL_get {b : Addr} {o : Obj} (e : s.heap.get? b = some o) (n : H b = none) (nf : b ∉ frs X.stack) : (bsL X H s).get? b = some o :=
  PySem.W.hideAll_get _ e fun zz => by
    rcases List.mem_append.mp zz with hm | hm
    · have q : (H b).isSome = true := (List.mem_filter.mp hm).2
      rw [n] at q
      simp at q
    · exact nf hm
theorem of_bsL {b : Addr} {o : Obj} (e : (bsL X H s).get? b = some o) : s.heap.get? b = some o ∧ H b = none ∧ b ∉ frs X.stack := by
  have e' : s.heap.get? b = some o := PySem.W.of_hideAll _ e
  refine ⟨e', ?_, fun z => ?_⟩
  · cases q : H b with
    | none => rfl
    | some x =>
      have hm : b ∈ trk s.heap H ++ frs X.stack := List.mem_append_left _ (List.mem_filter.mpr ⟨List.mem_range.mpr (Heap.lt_size e'), by simp [q]⟩)
      have z : (bsL X H s).get? b = none := PySem.W.hideAll_none _ hm
      rw [z] at e
      cases e
  · have z' : (bsL X H s).get? b = none := PySem.W.hideAll_none _ (List.mem_append_right _ z)
    rw [z'] at e
    cases e
theorem bsL_size : (bsL X H s).objs.size = s.heap.objs.size := PySem.W.hideAll_size _ _
theorem base_nofr (I : Inv X pins σ H s) {b : Addr} {o : Obj} (e : X.base.get? b = some o) : b ∉ frs X.stack := fun z => by
  rcases List.mem_cons.mp (I.stkSub b z) with q | q
  · have h1 := Heap.lt_size e
    rw [q] at h1
    exact Nat.lt_irrefl _ (Nat.lt_of_lt_of_le h1 (Nat.le_trans I.ok.bsz I.ok.above))
  · exact I.ok.nofr e q
theorem base_in (I : Inv X pins σ H s) : Ext X.base (bsL X H s) := fun b o e => bsL_get (I.bs b o e).1 (I.bs b o e).2 (base_nofr I e)
theorem env0L (I : Inv X pins σ H s) : Env0 X.prog X.w X.K X.mg (bsL X H s) X.A X.stack s H := by
  refine ⟨I.ok.frames, ⟨I.ok.mod.kin.keeps (base_in I), I.ok.mod.glob.keeps (base_in I), ?_, I.ok.mod.nolimit.keeps (base_in I)⟩, fun b o e => ⟨(of_bsL e).1, (of_bsL e).2.1⟩, Nat.le_of_eq bsL_size, ?_, I.stkFree, I.hok, I.bare⟩
  · obtain ⟨mb, h1, h2⟩ := I.ok.mod.blt
    exact ⟨mb, h1.keeps (base_in I), h2⟩
  · refine PySem.W.funFrames_hide I.stack fun env he a ha => List.mem_append_right _ ?_
    exact List.mem_filterMap.mpr ⟨env, he, ha⟩
theorem tabB_up {b b' : Heap} {mg : Str → Option Value} {c P : Addr} (t : LamX.TabB b mg c P) (h : Ext b b') : LamX.TabB b' mg c P := ⟨t.code.keeps h, t.bm.keeps h, t.gP⟩
/-- one parameter, captured names, globals -/
structure LamS1 (p : Str) (sc scope : Scope) : Prop where
  kind : scope.kind = .function
  co : (scope.isCoroutine = false)
  gen : (scope.isGenerator = false)
  own : ∀ y ∈ scope.names, y.2 ≠ .cell ∧ (y.2 = .local → y.1 = p)
  par : scope.names.lookup p = some .local
  free : ∀ nm ∈ scope.names, nm.2 = .free → sc.names.lookup nm.1 = some .cell ∨ sc.names.lookup nm.1 = some .free
def lamS1B (p : Str) (sc scope : Scope) : Bool :=
  decide (scope.kind = .function) && !scope.isCoroutine && !scope.isGenerator && (scope.names.all fun y => !decide (y.2 = .cell) && (!decide (y.2 = .local) || decide (y.1 = p))) && decide (scope.names.lookup p = some .local) &&
    (scope.names.all fun y => (!decide (y.2 = .free) || decide (sc.names.lookup y.1 = some .cell) || decide (sc.names.lookup y.1 = some .free)))
theorem lamS1_by {p : Str} {sc scope : Scope} (h : lamS1B p sc scope = true) : LamS1 p sc scope := by
  unfold lamS1B at h
  (simp only [Bool.and_eq_true, Bool.or_eq_true, Bool.not_eq_true', decide_eq_true_eq, decide_eq_false_iff_not, List.all_eq_true] at h)
  obtain ⟨⟨⟨⟨⟨h1, h2⟩, h3⟩, h4⟩, h5⟩, h6⟩ := h
  refine ⟨h1, h2, h3, fun y hy => ⟨(h4 y hy).1, fun e => ?_⟩, h5, fun y hy e => ?_⟩
  · rcases (h4 y hy).2 with z | z
    · exact absurd e z
    · exact z
  · rcases h6 y hy with (z | z) | z
    · exact absurd e z
    · exact .inl z
    · exact .inr z
theorem LamS1.has {p : Str} {scope : Scope} (L : LamS1 p X.env.scope scope) (ok : X.Ok) : ∀ y ∈ scope.names, y.2 = .free → ∃ c, X.env.cells.lookup y.1 = some c := fun y hy e => by
  (rcases L.free y hy e with k | k)
  · exact ok.has _ (.inl k)
  · exact ok.has _ (.inr k)
/-- the context of the lambda's body -/
def lamCx1 (X : Cx) (b' : Heap) (A : Around) (outer : List PySem.Env) (s : Shared) (H : Hp) (E : XK) (scope : Scope) (f c' : Addr) (p : Str) : Cx :=
  { LamX.lamCx X A outer s H E scope f c' with base := b', N := X.N ++ [p] }
/-- what was a cell when the lambda was made is one now, its content too -/
theorem cell_now (I : Inv X pins σ H s) (hfn : ∀ y, X.fn y = true) {y : Str} {c : Addr} {v : Option Value} (hc : X.env.cells.lookup y = some c) (hv : s.heap.IsCell c v) : ∃ o, (bsL X H s).get? c = some o ∧ o.data = .cell v := by
  obtain ⟨o, ho, hd⟩ := hv
  refine ⟨o, bsL_get ho (I.freeC y c hc) fun z => ?_, hd⟩
  rcases List.mem_cons.mp (I.stkSub c z) with q | q
  · obtain ⟨m, ⟨o', es, ep, e1, e2, _⟩, _⟩ := I.loc
    rw [← q, ho] at e1
    cases e1
    rw [hd] at e2
    cases e2
  · obtain ⟨_, o', ho', _⟩ := I.ok.funs.mem q
    exact Nat.lt_irrefl _ (Nat.lt_of_lt_of_le (Heap.lt_size ho') (I.ok.cab y c (hfn y) hc))
theorem lam_start3 {A : Around} {outer : List PySem.Env} {E : XK} {scope : Scope} {f c' : Addr} {h₁ : Heap} {tk : Nat} {p : Str} {v : V} {u : Value} {b' : Heap} (I : Inv X pins σ H s) (L : LamS1 p X.env.scope scope)
    (e0 : Env0 X.prog X.w X.K X.mg b' A outer s1 HZ) (hd : A.handled = none) (hfn : ∀ y, X.fn y = true) (hb : Ext (bsL X H s) b') (hp : p ∉ X.N) (rv : RelV v u)
    (hns : h₁.Ns s1.heap.objs.size fun y => ([(p, u)] : List (Str × Value)).reverse.lookup y) (kp : ∀ b o, s1.heap.get? b = some o → h₁.get? b = some o) :
    Inv (lamCx1 X b' A outer s1 HZ E scope f c' p) [] (σ ++ [some v]) HZ { s1 with heap := h₁, toks := tk } := by
  have hfree := L.has I.ok
  have cm : ∀ {y c}, (cloFrom X.env.cells scope.names []).lookup y = some c → X.env.cells.lookup y = some c := fun {y c} eq => by
    rcases cloFrom_mem (PySem.mem_of_lookup eq) with hm | ⟨h1, h2⟩
    · cases hm
    · (obtain ⟨c1, hc⟩ := hfree _ h1 rfl)
      have hc : X.env.cells.lookup y = some c1 := (hc)
      have e2 : c = c1 := by
        rw [h2, hc] <;> rfl
      rw [e2]
      exact hc
  have look : ∀ {y}, scope.names.lookup y = some .free → ∃ c, (cloFrom X.env.cells scope.names []).lookup y = some c := fun {y} hlk => by
    have hy : (y, NameKind.free) ∈ scope.names := PySem.mem_of_lookup hlk
    (exact mem_lookup (cloFrom_has (cells := X.env.cells) (acc := []) hy))
  have cellK : ∀ {y : Str} {c : Addr} {w : Option Value}, X.env.cells.lookup y = some c → s.heap.IsCell c w → h₁.IsCell c w ∧ HZ c = none := fun {y c w} hc hw => by
    obtain ⟨o, ho, hd⟩ := cell_now I hfn hc hw
    exact ⟨⟨o, kp _ _ (e0.bs _ _ (hb _ _ ho)).1, hd⟩, (e0.bs _ _ (hb _ _ ho)).2⟩
  have noA : ∀ b : Addr, b ∉ (lamCx1 X b' A outer s1 HZ E scope f c' p).ex := fun b z => absurd (show b ∈ ([] : List Addr) from z) (by simp)
  have lN : σ.length = X.N.length := I.len
  refine ⟨⟨e0.mod, L.kind, rfl, rfl, Nat.le_refl _, fun y z c q1 q2 => I.ok.inj y z c (cm q1) (cm q2), fun y hy => ?_, fun y c z _ => ?_, fun _ => hd, Around.frames_deeper e0.frames, .inr ⟨rfl, rfl⟩, fun b z => absurd z (noA b), e0.bs, e0.bsz, fun b _ _ => noA b,
      fun b zz => absurd zz (noA b), e0.funs, e0.frf⟩,
    rfl, e0.bare, Un.kept kp, ⟨_, hns, fun i y w e1 e2 e3 => ?_⟩, fun y c e => ?_, e0.hok.fresh (Nat.le_refl _), fun y c e => ?_, fun q hq => absurd (show q ∈ ([] : List (Addr × Obj)) ++ [] from hq) (by simp), e0.hok.kept kp, ?_⟩
  · (have hy : scope.names.lookup y = some .cell ∨ scope.names.lookup y = some .free := hy)
    rcases hy with hy | hy
    · exact absurd rfl (L.own _ (PySem.mem_of_lookup hy)).1
    · exact look hy
  · have z : false = true := z
    cases z
  · have e1 : (X.N ++ [p])[i]? = some y := e1
    have e3 : Vis scope y := e3
    by_cases hi : i < X.N.length
    · rw [List.getElem?_append_left hi] at e1
      rw [List.getElem?_append_left (by omega)] at e2
      rcases e3 with k | k | k
      · have z := (L.own _ (PySem.mem_of_lookup k)).2 rfl
        have z' : y = p := z
        rw [z'] at e1
        exact absurd (List.mem_of_getElem? e1) hp
      · (exact absurd rfl (L.own _ (PySem.mem_of_lookup k)).1)
      · obtain ⟨m, hn, hl⟩ := I.loc
        have hvis : Vis X.env.scope y := ((L.free _ (PySem.mem_of_lookup k) rfl).elim (fun k => .inr (.inl k)) (fun k => .inr (.inr k)))
        obtain ⟨w', r, q⟩ := hl i y w e1 e2 hvis
        obtain ⟨c2, h2⟩ := look k
        (refine ⟨w', r, .inr ⟨.inr k, c2, h2, ?_⟩⟩)
        have c1 := cm h2
        (rcases q with ⟨k', _⟩ | ⟨_, c3, e', z⟩)
        · (have k' : X.env.scope.names.lookup y = some .local := k')
          (rcases L.free _ (PySem.mem_of_lookup k) rfl with k2 | k2 <;> rw [show X.env.scope.names.lookup y = _ from k2] at k' <;> cases k')
        · rw [c1] at e'
          cases e'
          exact (cellK c1 z).1
    · rw [List.getElem?_append_right (by omega)] at e1 e2
      have hi2 : i - X.N.length = 0 := by
        have := (List.getElem?_eq_some_iff.mp e1).1
        simp at this
        omega
      rw [hi2] at e1
      rw [lN, hi2] at e2
      have y1 : p = y := Option.some.inj e1
      have y2 : some v = some w := Option.some.inj e2
      cases y2
      subst y1
      refine ⟨u, rv, .inl ⟨L.par, ?_⟩⟩
      show ([(p, u)] : List (Str × Value)).reverse.lookup p = some u
      simp
  · (obtain ⟨w', z⟩ := I.cell y c (cm e))
    exact ⟨w', (cellK (cm e) z).1⟩
  · (obtain ⟨w', z⟩ := I.cell y c (cm e))
    exact (cellK (cm e) z).2
  · show (σ ++ [some v]).length = (X.N ++ [p]).length
    rw [List.length_append, List.length_append, lN]
    rfl
end
end DL
namespace DL
open PySem L2 PySem.Spec PyProof.Rows
open Classical in
/-- the call of what stands in slot i, where that is cl, with one thing -/
noncomputable def callC1 (i : Nat) (cl : D) (cden : D → Store → RE) (da : DenE) : DenE := fun e M => match e[i]? with
  | some (some d) => if d = cl then bindE (da e M) cden else none
  | _ => none
abbrev ZCx1 (X : Cx) (b' : Heap) (Ng : List Str) (x : Str) (sg : Scope) (g : Addr) (cdg : Value) (s : Shared) (H : Hp) : Cx := cxOf (L2.CX X.prog X.w) X.prog X.w X.K X.mg b' Ng x sg g cdg X.A X.stack s H E0
/-- what may be called at any depth of the def that got the lambda -/
def Act1 (F : Fx) (X : Cx) (b' : Heap) (a : Str) (k : Nat) (cl : D) (cden : D → Store → RE) : Prop :=
  ∀ (X' : Cx) (W' : WX) (i : Nat) (e2 : Expr) (d2 : DenE) (p1 p2 : Pos), X'.prog = X.prog → X'.w = X.w → X'.K = X.K → X'.mg = X.mg → X'.base = b' → X'.N[i]? = some a → Vis X'.env.scope a → Dc X' W' k → DA F X' W' [e2] (consA d2 nilA) →
    starEach [e2] X'.env = (false, eval e2 X'.env) :: starEach [] X'.env → DE F X' W' (.Call (.Name a p1) [e2] [] p2) (callC1 i cl cden d2)
section
variable {F : Fx} {X : Cx} {W : WX} {L L1 : List Addr} {H H1 : Hp} {M : Store} {e : DL.Env} {σ : L2.St} {k : Nat}
theorem act1_ok {b : Str} {py : Str} {params : Arguments} {body : Expr} {scope : Scope} {db : DenE} {pins : List (Addr × Obj)} {s1 : Shared} {f c' : Addr} {pm ctv : Value} {cl : D}
    (I1 : L2.Inv X pins σ H1 s1) (Ls : LamS1 py X.env.scope scope) (hfnX : ∀ y, X.fn y = true) (hpy : py ∉ X.N)
    (hbody : ∀ (b' : Heap), Ext X.base b' → ∀ (A : Around) (outer : List PySem.Env) (s : Shared) (H : Hp) (E : XK) (f c' : Addr), Dc (lamCx1 X b' A outer s H E scope f c' py) (fun cls d _ H => E cls d H) k → DE F (lamCx1 X b' A outer s H E scope f c' py) (fun cls d _ H => E cls d H) body db)
    (hbind : ∀ (qn : Str) (cells : List (Str × Addr)) (pmv cv ctv v : Value), bindArgs (PySem.W.kla_fn "<lambda>" qn params body scope cells pmv cv ctv) ⟨[v], []⟩ = pure [(py, v)])
    (hf : s1.heap.get? f = some (PySem.W.kla_obj "<lambda>" (X.env.qual ++ "<lambda>") params body scope (cloFrom X.env.cells scope.names []) pm c' ctv)) (hfn : H1 f = none) (hfr : f ∉ frs X.stack)
    (hcl : D.clo f c' (X.env.qual ++ "<lambda>") σ (capI 0 e) (capD e) = cl) (sr : SR F L H1 M e σ)
    (hd1 : (b == ("__debug__" : Str)) = false) (hd2 : (b == ("__classdict__" : Str)) = false) :
    Act1 F X (bsL X H1 s1) b (k + 2) cl (fun u M' => db (e ++ [some u]) M') := by
  intro X' W' i e2 d2 p1 p2 q1 q2 q3 q4 q5 hN hv dct ha he
  obtain ⟨ta, pa, qa⟩ := ha
  refine ⟨fun σZ HZ QZ => ∃ (eZ : DL.Env) (MZ : Store) (LZ : List Addr), SR F LZ HZ MZ eZ σZ ∧ Post F eZ LZ HZ σZ W' QZ (callC1 i cl (fun u M' => db (e ++ [some u]) M') d2 eZ MZ), ⟨fun pZ sZ σZ HZ QZ IZ hZ => ?_⟩, fun eZ MZ LZ σZ HZ QZ sr pp => ⟨eZ, MZ, LZ, sr, pp⟩⟩
  obtain ⟨eZ, MZ, LZ, srZ, ppZ⟩ := hZ
  unfold callC1 at ppZ
  split at ppZ
  · rename_i dz hdz
    split at ppZ
    · rename_i hz
      subst hz
      obtain ⟨vz, hv1, hv2⟩ := srZ.e i dz hdz
      subst hcl
      obtain ⟨⟨rfl, hco2⟩, _⟩ := hv2
      refine wpAny_Call_Name_kw (thn ((pe_var (X := X') (pos := p1) (i := i) hN hv hd1 hd2).run pZ sZ σZ HZ (fun v H2 => v = .ref f ∧ H2 = HZ) IZ ⟨.ref f, hv1, rfl, rfl⟩) fun u s2 y => ?_)
      obtain ⟨v, H2, I2, r2, ev, eH⟩ := y
      subst ev
      rw [eH] at I2
      obtain rfl : u = Value.ref f := r2
      have fb : X'.base.get? f = some (PySem.W.kla_obj "<lambda>" (X.env.qual ++ "<lambda>") params body scope (cloFrom X.env.cells scope.names []) pm c' ctv) := by
        rw [q5]
        exact bsL_get hf hfn hfr
      have fob := I2.bk f _ fb
      have hpl : (backTo p2 (starEach ([] : List Expr) X'.env)).any (·.1) = false := rfl
      refine PySem.W.callWith_F ⟨_, _, _, _, fob⟩ (thn (pa.run p2 pZ s2 σZ HZ (fun vs H3 => ∃ (L3 : List Addr) (M3 : Store) (d3 : D), SR F L3 H3 M3 eZ σZ ∧ Reps F L3 H3 [d3] vs ∧ Post F eZ L3 H3 σZ W' QZ (db (e ++ [some d3]) M3)) I2 (qa eZ MZ LZ σZ HZ _ srZ ?_)) fun us s3 y => ?_) he hpl
      · refine PostG.bind (rq := Rep F) (P := QZ) (f := fun ds M2 => match ds with | [y] => db (e ++ [some y]) M2 | _ => none) (fun ds M2 L2 H2 vs s2 r2 rvs q3 => ?_) ?_
        · split at q3
          · rename_i y2
            exact ⟨L2, M2, y2, r2, rvs, q3⟩
          · exact False.elim q3
        · have ee : bindE (consA d2 nilA eZ MZ) (fun ds M2 => match ds with | [y] => db (e ++ [some y]) M2 | _ => none) = bindE (d2 eZ MZ) (fun u M' => db (e ++ [some u]) M') := by
            unfold consA nilA
            cases d2 eZ MZ with
            | none => rfl
            | some z =>
              obtain ⟨o, M2⟩ := z
              cases o <;> rfl
          rw [ee]
          exact ppZ
      · obtain ⟨vs, H3, I3, r3, L3, M3, d3, sr3, rv3, pp3⟩ := y
        obtain ⟨v3, rfl, rd3⟩ := reps1 rv3
        obtain ⟨u3, rfl, ru3⟩ := vals1 r3
        have fob3 := I3.bk f _ fb
        refine ⟨⟨_, _, _, _, fob3⟩, ?_⟩
        -- what was captured, at this state
        obtain ⟨vz3, hw1, hw2⟩ := sr3.e i _ hdz
        obtain ⟨⟨_, hco3⟩, ws, hw3, hw4⟩ := hw2
        obtain ⟨⟨oc2, vs2, tk2, hoc, hdc, hvc⟩, _, _⟩ := I3.hok c' _ hco3
        have srD : SR F L3 H3 M3 (e ++ [some d3]) (σ ++ [some v3]) := ⟨by rw [List.length_append, List.length_append, sr.l]; rfl, sr3.m, fun j dd q => by
          by_cases hj : j < e.length
          · rw [List.getElem?_append_left hj] at q
            obtain ⟨v, a1, a2⟩ := cap_to (F := F) (L := L3) (H := H3) (σ := σ) e 0 ws hw3 hw4 j dd q
            rw [Nat.zero_add] at a1
            exact ⟨v, by rw [List.getElem?_append_left (by rw [sr.l]; exact hj)]; exact a1, a2⟩
          · rw [List.getElem?_append_right (by omega)] at q
            have j0 : j - e.length = 0 := by
              have := (List.getElem?_eq_some_iff.mp q).1
              simp at this
              omega
            rw [j0] at q
            have qq : some d3 = some dd := Option.some.inj q
            cases qq
            exact ⟨v3, by rw [List.getElem?_append_right (by rw [sr.l]; omega), sr.l, j0]; rfl, rd3⟩⟩
        have e0 : Env0 X.prog X.w X.K X.mg (bsL X H1 s1) X'.A X'.stack s3 H3 := by
          have z := I3.env0
          rw [q1, q2, q3, q4, q5] at z
          exact z
        have hbase : Ext X.base (bsL X H1 s1) := base_in I1
        have rcl2 : codeAny (model X'.prog X'.w) X'.A (.call (.ref f) ⟨[u3], []⟩) (CR (L2.CX X'.prog X'.w) X'.stack X'.prog X'.w H3 s3 QZ (WE W' σZ)) s3 := by
          refine PySem.W.kla_callFunE dct.room.depth fob3 rfl Ls.co Ls.gen rfl ⟨c', oc2, vs2, tk2, rfl, hoc, hdc, hvc⟩ ?_
          rw [hbind]
          refine wpAny_pure (wpAny_newFunctionEnv (fun y hy => (Ls.own y hy).1) (fun y hy => ?_) (fun h₁ hns hsb => ⟨I3.nolimit.fresh _ hsb, ?_⟩) Ls.kind)
          · rw [List.mem_singleton.mp hy]
            exact Ls.par
          show codeAny _ _ (.expr body (LamX.lamEnv X scope s3.heap.objs.size f c')) _ _
          have kp2 : ∀ b o, s3.heap.get? b = some o → h₁.get? b = some o := fun b o z => hsb.extBut b o (Nat.ne_of_lt (Heap.lt_size z)) (Heap.get?_push_of_some _ z)
          have J : L2.Inv (lamCx1 X (bsL X H1 s1) X'.A X'.stack s3 H3 (WE W' σZ) scope f c' py) [] (σ ++ [some v3]) H3 { s3 with heap := h₁, toks := s3.toks + ([(py, u3)] : List (Str × Value)).length } :=
            lam_start3 I1 Ls e0 (I3.ok.hd dct.calm) hfnX (fun _ _ z => z) hpy ru3 hns kp2
          obtain ⟨tb, pb, qb⟩ := hbody (bsL X H1 s1) hbase X'.A X'.stack s3 H3 (WE W' σZ) f c' ⟨takes_of rfl rfl rfl rfl, ((dct.room.mono (by omega : k + 1 ≤ k + 2)).deeper _), rfl, dct.gd, passes_of rfl⟩
          have key : ∀ r : RE, Post F eZ L3 H3 σZ W' QZ r → Post F (e ++ [some d3]) L3 H3 (σ ++ [some v3]) (fun cls d _ H => WE W' σZ cls d H) QZ r := fun r => by
            cases r with
            | none => exact id
            | some y =>
              obtain ⟨oo, M5⟩ := y
              cases oo with
              | val d5 => exact fun q L5 H5 v5 s5 r5 rv5 => q L5 H5 v5 s5 (sr3.stay s5 r5.m) rv5
              | exc c5 fs5 => exact fun q L5 H5 cls5 dd5 s5 r5 x5 => q L5 H5 cls5 dd5 s5 (sr3.stay s5 r5.m) x5
          have ppD := key _ pp3
          have fin := PySem.W.kla_codeExpr (R := CR (L2.CX X.prog X.w) X'.stack X.prog X.w H3 s3 QZ (WE W' σZ)) (wpAny_mono (pb.run [] _ _ H3 QZ J (qb (e ++ [some d3]) M3 L3 (σ ++ [some v3]) H3 QZ srD ppD)) (fun v s4 hq => ?_) fun y s4 hq => hq)
          · rw [q1, q2]
            exact fin
          · obtain ⟨v4, H4, J4, rv4, q4'⟩ := hq
            exact ⟨v4, H4, J4.os, J4.bare, J4.base, J4.hok, rv4, q4'⟩
        refine wpAny_call (codeAny_mono rcl2 fun res s4 hq => ?_)
        cases res with
        | error y => exact passAt dct.tk σZ pZ H3 s3 y s4 I3 hq
        | ok fl =>
          cases fl with
          | ret u => exact I3.after hq
          | next => exact (show False from hq).elim
          | brk => exact (show False from hq).elim
          | cont => exact (show False from hq).elim
    · exact False.elim ppZ
  · exact False.elim ppZ
end
end DL
namespace DL
open PySem L2 PySem.Spec PyProof.Rows
section
variable {F : Fx} {X : Cx} {W : WX} {L L1 : List Addr} {H H1 : Hp} {M : Store} {e : DL.Env} {σ : L2.St} {k : Nat}
/-- what the call comes to -/
def lam1D (gden : D → (D → Store → RE) → Store → RE) (d1 db : DenE) : DenE := fun e M => bindE (d1 e M) fun v M1 => valOnly (gden v (fun u M' => db (e ++ [some u]) M') M1)
theorem de_lam1 {x a b py : Str} {g c P : Addr} {fd : FuncData} {st : Stmt} {Ng : List Str} {n : Nat} {params : Arguments} {e1 body : Expr} {scope : Scope} {p lpos pos : Pos} {d1 db : DenE} {gS : D → (D → Store → RE) → DenS} {gden : D → (D → Store → RE) → Store → RE}
    (d : Dc X W (k + 3)) (hm : X.mg x = some (.ref g)) (Fg : Fun X.K x x st g fd) (hb : Binds X.K fd [a, b] []) (Sg : FnScope Ng [a, b] (defScope st)) (hn : Ng.length = n)
    (TB : LamX.TabB X.base X.mg c P) (hcode : X.env.code = .ref c) {qual : Str} (hq : X.env.qual = qual) (hmT : (P, qual ++ "<lambda>") ∈ F.T) (hu : ∀ y ∈ F.T, y.1 = P → y.2 = qual ++ "<lambda>") (Ls : LamS1 py X.env.scope scope) (hfnX : ∀ y, X.fn y = true) (hpy : py ∉ X.N)
    (h1 : DE F X W e1 d1)
    (hbody : ∀ (b' : Heap), Ext X.base b' → ∀ (A : Around) (outer : List PySem.Env) (s : Shared) (H : Hp) (E : XK) (f c' : Addr), Dc (lamCx1 X b' A outer s H E scope f c' py) (fun cls d _ H => E cls d H) k → DE F (lamCx1 X b' A outer s H E scope f c' py) (fun cls d _ H => E cls d H) body db)
    (hG : ∀ (b' : Heap), Ext X.base b' → ∀ (cdg : Value) (s : Shared) (H : Hp) (cl : D) (cden : D → Store → RE), Dc (ZCx1 X b' Ng x (defScope st) g cdg s H) (fun cls d _ H => E0 cls d H) (k + 2) → Act1 F X b' b (k + 2) cl cden →
      DSs F (ZCx1 X b' Ng x (defScope st) g cdg s H) (fun cls d _ H => E0 cls d H) (defBody st) (gS cl cden))
    (hden : ∀ (cl : D) (cden : D → Store → RE) (v : D) (M : Store), gden v cden M = none ∨ cutR M (ofBody n (gS cl cden) [v, cl] M) = gden v cden M)
    (hbind : ∀ (qn : Str) (cells : List (Str × Addr)) (pmv cv ctv v : Value), bindArgs (PySem.W.kla_fn "<lambda>" qn params body scope cells pmv cv ctv) ⟨[v], []⟩ = pure [(py, v)])
    (hK : X.K = F.K := by rfl) (hg : Gl X x := by rfl) (hdef : defaultsOf params X.env = ([], []) := by rfl)
    (he : starEach (e1 :: [.Lambda params body scope lpos]) X.env = (false, eval e1 X.env) :: starEach [.Lambda params body scope lpos] X.env := by rfl)
    (hdb : (x == ("__debug__" : Str)) = false := by decide) (hd1 : (b == ("__debug__" : Str)) = false := by decide) (hd2 : (b == ("__classdict__" : Str)) = false := by decide) :
    DE F X W (.Call (.Name x p) [e1, .Lambda params body scope lpos] [] pos) (lam1D gden d1 db) := by
  subst hq
  obtain ⟨t1, pr1, qr1⟩ := h1
  refine ⟨fun σ H Q => ∃ (e : DL.Env) (M : Store) (L : List Addr), SR F L H M e σ ∧ Post F e L H σ W Q (lam1D gden d1 db e M), ⟨fun p₀ s₀ σ H Q I₀ h₀ => ?_⟩, fun e M L σ H Q sr pp => ⟨e, M, L, sr, pp⟩⟩
  obtain ⟨e, M, L, sr, pp⟩ := h₀
  refine wpAny_Call_Name_kw (ld_glob I₀ hg hm ?_ hdb)
  refine PySem.W.callWith_K (h₀ := X.base) I₀.ok.mod.kin Fg.kp ?_ he (by rfl)
  rw [he]
  show wpAny _ _ (spliced ((false, eval e1 X.env) :: backTo pos (starEach [.Lambda params body scope lpos] X.env))) _ _ s₀
  refine Calls.spliced_cons (thn (pr1.run p₀ s₀ σ H (fun v1 H1 => ∃ (L1 : List Addr) (M1 : Store) (dv : D), SR F L1 H1 M1 e σ ∧ Rep F L1 H1 dv v1 ∧ Post F e L1 H1 σ W Q (valOnly (gden dv (fun u M' => db (e ++ [some u]) M') M1))) I₀
    (qr1 e M L σ H _ sr (PostG.bind (fun dv M1 L1 H1 v1 s1 r1 rv1 pq => ⟨L1, M1, dv, r1, rv1, pq⟩) pp))) fun u1 s1 y => ?_)
  obtain ⟨v1, H1, I1, r1, L1, M1, dv, sr1, rv1, pp1⟩ := y
  show wpAny _ _ (spliced ((false, eval (.Lambda params body scope lpos) X.env) :: backTo pos (starEach [] X.env))) _ _ s1
  refine Calls.spliced_cons (LamX.lam_make2 I1 TB hcode hmT hu sr1.m.tbs hdef (Ls.has I1.ok) fun f c' pm ctv H2 s2 I2 eN T2 hf hfn hfr hco => ?_)
  refine Calls.spliced_nil (And.intro I2.kIn ?_)
  obtain ⟨stp2, m2⟩ := stp_extn sr1.m eN T2
  have sr2 : SR F L1 H2 M1 e σ := sr1.stay stp2 m2
  have rv2 := Rep.stay sr1.m stp2 _ _ rv1
  obtain ⟨oc, od, kV, doc, pmg, an, cdv, ct, osl, hfd, lk, hcd⟩ := Fg.ex
  subst hfd
  obtain ⟨cvs, hc1, hc2⟩ := cap_of (F := F) (L := L1) (H := H2) (σ := σ) e 0 fun i dd q => by
    rw [Nat.zero_add]
    exact sr2.e i dd q
  have rcl : Rep F L1 H2 (.clo f c' (X.env.qual ++ "<lambda>") σ (capI 0 e) (capD e)) (.ref f) := ⟨⟨rfl, hco⟩, cvs, hc1, hc2⟩
  generalize hcl : D.clo f c' (X.env.qual ++ "<lambda>") σ (capI 0 e) (capD e) = cl at rcl
  have rc : codeAny (model X.prog X.w) X.A (.call (.ref g) ⟨[u1, .ref f], []⟩) (CR (L2.CX X.prog X.w) X.stack X.prog X.w H2 s2 Q E0) s2 := by
    refine LamX.run_ofS (base := bsL X H2 s2) (N := Ng) (ps := [a, b]) (us := [u1, .ref f]) (vs := [v1, .ref f]) lk hcd Sg d.room (env0L I2) (hb s2 [u1, .ref f] I2.kIn rfl) (.cons r1 (.cons rfl .nil)) rfl fun hr' => ?_
    have dcZ : Dc (ZCx1 X (bsL X H2 s2) Ng x (defScope st) g cdv s2 H2) (fun cls d _ H => E0 cls d H) (k + 2) := ⟨takes_of rfl rfl rfl rfl, hr', rfl, d.gd, passes_of rfl⟩
    obtain ⟨tz, pz, qz⟩ := hG (bsL X H2 s2) (base_in I2) cdv s2 H2 cl _ dcZ (act1_ok I2 Ls hfnX hpy hbody hbind hf hfn hfr hcl sr2 hd1 hd2)
    have rl : Reps F L1 H2 [dv, cl] [v1, .ref f] := ⟨v1, [.ref f], rfl, rv2, .ref f, [], rfl, rcl, rfl⟩
    obtain ⟨se1, se2⟩ := start_env n rl Ng hn
    refine ⟨tz, pz, qz _ M1 L1 _ H2 _ ⟨se2, m2, se1⟩ ?_⟩
    have pp2 := PostG.go stp2 pp1
    have pp3 : Post F e L1 H2 σ W Q (ofBody n (gS cl (fun u M' => db (e ++ [some u]) M')) [dv, cl] M1) ∧ ∀ c5 fs5 M5, ofBody n (gS cl (fun u M' => db (e ++ [some u]) M')) [dv, cl] M1 ≠ some (.exc c5 fs5, M5) := by
      rcases hden cl (fun u M' => db (e ++ [some u]) M') dv M1 with zn | zn
      · rw [zn] at pp2
        exact (show False from pp2).elim
      · rw [← zn] at pp2
        generalize ofBody n (gS cl (fun u M' => db (e ++ [some u]) M')) [dv, cl] M1 = r at pp2
        refine ⟨post_cut sr2 ?_, fun c5 fs5 M5 z => ?_⟩
        · revert pp2
          cases cutR M1 r with
          | none => exact id
          | some y =>
            obtain ⟨o, M5⟩ := y
            cases o with
            | val d => exact id
            | exc c fs => exact False.elim
        · rw [z] at pp2
          unfold cutR at pp2
          simp only at pp2
          split at pp2
          · exact (show False from pp2).elim
          · exact (show False from pp2).elim
    obtain ⟨pp4, nex⟩ := pp3
    unfold ofBody at nex
    unfold ofBody at pp4
    revert pp4
    cases hgs : gS cl (fun u M' => db (e ++ [some u]) M') (List.map some [dv, cl] ++ List.replicate (n - [dv, cl].length) none) M1 with
    | none => exact id
    | some y =>
      obtain ⟨fl, M'⟩ := y
      cases fl with
      | nx e' => exact fun q L' H' σ' s' r' => q L' H' .non s' (sr2.stay s' r'.m) rfl
      | rt d' => exact fun q L' H' v s' r' rv => q L' H' v s' (sr2.stay s' r') rv
      | ex c5 fs5 e' => exact fun q => (nex c5 fs5 M' (by rw [hgs] <;> rfl)).elim
      | bk e' => exact False.elim
      | ct e' => exact False.elim
  refine wpAny_call (codeAny_mono rc fun res s3 hq => ?_)
  cases res with
  | error y => exact passL p₀ σ H2 s2 y s3 I2 hq
  | ok fl =>
    cases fl with
    | ret u => exact I2.after hq
    | next => exact (show False from hq).elim
    | brk => exact (show False from hq).elim
    | cont => exact (show False from hq).elim
end
end DL
namespace DL.M4
open PySem PySem.Calls
section
variable {prog : Program}
variable {w : World}
variable {A : Around}
variable {E : Value → Shared → Prop} {s : Shared}
abbrev mx (i j : Int) : Int := if j > i then j else i
abbrev mn (i j : Int) : Int := if j < i then j else i
end
end DL.M4
namespace DL
open PySem L2 M4
section
variable {F : Fx} {X : Cx}
theorem callC1_at {i : Nat} {cl d : D} {cden : D → Store → RE} {da : DenE} {e : DL.Env} {M : Store} (h : e[i]? = some (some cl)) (hd : da e M = ok d M) : callC1 i cl cden da e M = cden d M := by
  unfold callC1
  rw [h]
  simp only [if_true]
  rw [hd]
  rfl
end
end DL
namespace L2
open PySem PySem.Spec
open PyProof.Rows
section
variable {X : Cx}
def tPar3 (i j l : Nat) (ta : TA) : TS := fun D σ H => ta σ H fun vs H1 => ∃ v w z, vs = [v, w, z] ∧ D.nx (((σ.set i (some v)).set j (some w)).set l (some z)) H1
theorem ps_par3 {i j l : Nat} {x y z : Str} {a b c : Expr} {ta : TA} {px py pz pt pos : Pos} {kt k2 pt2} (hcq : X.calm = true) (hNq : X.N.Nodup) (hi : X.N[i]? = some x) (hj : X.N[j]? = some y) (hl : X.N[l]? = some z) (hij : i ≠ j) (hil : i ≠ l) (hjl : j ≠ l)
    (hxq : X.env.scope.names.lookup x = some .local) (hyq : X.env.scope.names.lookup y = some .local) (hzq : X.env.scope.names.lookup z = some .local) (ha : PA X [a, b, c] ta)
    (hwq : swappedStores [.Tuple [.Name x px, .Name y py, .Name z pz] kt pt] (.Tuple [a, b, c] k2 pt2) X.env = pure (some [x, y, z]))
    (hsq : swapsWithSole [.Tuple [.Name x px, .Name y py, .Name z pz] kt pt] (.Tuple [a, b, c] k2 pt2) pos.line X.env = pure false) : PS X (.Assign [.Tuple [.Name x px, .Name y py, .Name z pz] kt pt] (.Tuple [a, b, c] k2 pt2) pos) (tPar3 i j l ta) := by
  refine ⟨fun pins s σ H D I h0 => ?_⟩
  rw [exec_Assign_arm]
  (refine wpAny_bind (wpAny_standAt ?_))
  rw [hsq]
  (refine wpAny_bind (wpAny_pure ?_))
  rw [if_neg (by decide)]
  refine wpAny_bind (Tuple_ (thn (ha.run _ pins s σ H _ I h0) fun us s1 ⟨vs, H1, I1, r1, q1⟩ => ?_))
  obtain ⟨v, w, t, e1, q1⟩ := q1
  subst e1
  obtain ⟨u1, u2, u3, rfl, rv, rw', rt⟩ : ∃ u1 u2 u3, us = [u1, u2, u3] ∧ RelV v u1 ∧ RelV w u2 ∧ RelV t u3 := by
    cases r1 with
    | cons p q => cases q with
      | cons p' q' => cases q' with
        | cons p2 q2 =>
          cases q2
          exact ⟨_, _, _, rfl, p, p', p2⟩
  (refine wpAny_newObj_type ?_ (by show 3 ≤ sizeLine; decide))
  have I2 : Inv X pins σ H1 { s1 with heap := s1.heap.push { cls := .type "tuple", data := .seq [u1, u2, u3].toArray } } := by
    exact I1.kept (t' := s1.toks) (fun b o q => Heap.get?_push_of_some _ q)
  rw [hwq]
  (refine wpAny_bind (wpAny_pure ?_))
  (show wpAny (model X.prog X.w) X.A (do rule "assign.swapped-stores"; let items ← unpackItems (.ref s1.heap.objs.size) 3 none; assignInOrder [fun v => bindName X.env z v, fun v => bindName X.env y v, fun v => bindName X.env x v] items.reverse; pure Flow.next) _ _ _)
  refine wpAny_bind (wpAny_rule (wpAny_bind (unpackItems_tuple (items := #[u1, u2, u3]) (I.ok.hd hcq) (IsTup.new s1.heap _) fun h' hxq' => ?_)))
  have I3 := I2.kept (h' := h') (t' := s1.toks) fun b o e => hxq' b o (Nat.ne_of_lt (Heap.lt_size e)) e
  (show wpAny _ _ (assignInOrder [fun v => bindName X.env z v, fun v => bindName X.env y v, fun v => bindName X.env x v] [u3, u2, u1] >>= fun _ => pure Flow.next) _ _ _)
  refine wpAny_bind (assignInOrder_cons (wpAny_bindName (store_ok I3 hNq hl (.inl hzq) rt (fun s2 I4 => ?_) (.inr hzq))))
  refine assignInOrder_cons (wpAny_bindName (store_ok I4 hNq hj (.inl hyq) rw' (fun s3 I5 => ?_) (.inr hyq)))
  refine assignInOrder_cons (wpAny_bindName (store_ok I5 hNq hi (.inl hxq) rv (fun s4 I6 => assignInOrder_nil (wpAny_pure ?_)) (.inr hxq)))
  have e : ((σ.set l (some t)).set j (some w)).set i (some v) = ((σ.set i (some v)).set j (some w)).set l (some t) := by
    rw [List.set_comm _ _ hjl.symm, List.set_comm _ _ hil.symm, List.set_comm (some w) (some v) hij.symm]
  rw [e] at I6
  exact ⟨_, H1, I6, q1⟩
end
end L2
namespace DL
open PySem L2
section
variable {F : Fx} {X : Cx} {W : WX} {L L1 : List Addr} {H H1 : Hp} {M : Store} {e : Env} {σ : St} {T : Ends} {k : Nat}
def parS3 (i j l : Nat) (da db dc : DenE) : DenS := fun e M => thenS (da e M) e fun d M1 => thenS (db e M1) e fun d' M2 => thenS (dc e M2) e fun d2 M3 => some (.nx (((e.set i (some d)).set j (some d')).set l (some d2)), M3)
theorem ds_par3 (i j l : Nat) {x y z : Str} {a b c : Expr} {da db dc : DenE} {px py pz pt pos : Pos} {kt k2 pt2} (hc : X.calm = true) (hN : X.N.Nodup) (ha : DE F X W a da) (hb : DE F X W b db) (hd : DE F X W c dc) (hi : X.N[i]? = some x := by rfl) (hj : X.N[j]? = some y := by rfl) (hl : X.N[l]? = some z := by rfl) (hij : i ≠ j := by decide) (hil : i ≠ l := by decide) (hjl : j ≠ l := by decide)
    (hx : X.env.scope.names.lookup x = some .local := by rfl) (hy : X.env.scope.names.lookup y = some .local := by rfl) (hz : X.env.scope.names.lookup z = some .local := by rfl) (hw : swappedStores [.Tuple [.Name x px, .Name y py, .Name z pz] kt pt] (.Tuple [a, b, c] k2 pt2) X.env = pure (some [x, y, z]) := by rfl)
    (hs : swapsWithSole [.Tuple [.Name x px, .Name y py, .Name z pz] kt pt] (.Tuple [a, b, c] k2 pt2) pos.line X.env = pure false := by rfl) (h1 : starEach (a :: [b, c]) X.env = (false, eval a X.env) :: starEach [b, c] X.env := by rfl) (h2 : starEach (b :: [c]) X.env = (false, eval b X.env) :: starEach [c] X.env := by rfl) (h3 : starEach (c :: []) X.env = (false, eval c X.env) :: starEach [] X.env := by rfl) :
    DS F X W (.Assign [.Tuple [.Name x px, .Name y py, .Name z pz] kt pt] (.Tuple [a, b, c] k2 pt2) pos) (parS3 i j l da db dc) := by
  obtain ⟨ta, p1, q1⟩ := ha
  obtain ⟨tb, p2, q2⟩ := hb
  obtain ⟨tc, p3, q3⟩ := hd
  refine ⟨_, ps_par3 hc hN hi hj hl hij hil hjl hx hy hz (pa_cons p1 (pa_cons p2 (pa_cons p3 pa_nil h3) h2) h1) hw hs, fun e M L σ H T sr pp => q1 e M L σ H _ sr (post_then (fun d M1 L1 H1 v s1 r1 rv q => ?_) pp)⟩
  refine q2 e M1 L1 σ H1 _ r1 (post_then (fun d2 M2 L2 H2 v2 s2 r2 rv2 q => ?_) q)
  refine q3 e M2 L2 σ H2 _ r2 (post_then (fun d3 M3 L3 H3 v3 s3 r3 rv3 q => ?_) q)
  exact ⟨v, v2, v3, rfl, q L3 H3 _ (Stp.refl L3 H3) (((r3.set i (Rep.stay r2.m s3 d v (Rep.stay r1.m s2 d v rv))).set j (Rep.stay r2.m s3 d2 v2 rv2)).set l rv3)⟩
end
end DL
namespace DL
open PySem L2
end DL
namespace DL
open PySem L2
section
variable {e : DL.Env} {M : Store} {da db : DenE} {a b : Bool}
theorem or_v (h1 : da e M = ok (.bl a) M) (h2 : a = false → db e M = ok (.bl b) M) : orD da db e M = ok (.bl (a || b)) M := by
  unfold orD brD
  rw [h1, bindE_v]
  cases a with
  | true => rfl
  | false => exact h2 rfl
theorem and_v (h1 : da e M = ok (.bl a) M) (h2 : a = true → db e M = ok (.bl b) M) : andD da db e M = ok (.bl (a && b)) M := by
  unfold andD brD
  rw [h1, bindE_v]
  cases a with
  | false => rfl
  | true => exact h2 rfl
theorem not_v (h1 : da e M = ok (.bl a) M) : unD notF da e M = ok (.bl (!a)) M := by
  unfold unD
  rw [h1]
  rfl
theorem tst_v (h1 : da e M = ok (.bl a) M) : tstD da e M = ok (.bl a) M := by
  unfold tstD
  rw [h1]
  rfl
theorem if_t {d1 d2 : DenS} (h1 : da e M = ok (.bl true) M) : ifS da d1 d2 e M = d1 e M := by
  unfold ifS
  rw [h1]
  rfl
theorem if_f {d1 d2 : DenS} (h1 : da e M = ok (.bl false) M) : ifS da d1 d2 e M = d2 e M := by
  unfold ifS
  rw [h1]
  rfl
end
section
variable {g : DenG} {body b : DenS} {chk : Store → Prop} {di : DenI} {e : DL.Env} {M : Store} {P : Flw → Store → Prop}
theorem forL_R (Inv : Nat → DL.Env → Store → Prop) : ∀ (ds : List D) (i : Nat) (e : DL.Env) (M : Store), (∀ (j : Nat) (d : D) (e : DL.Env) (M : Store), ds[j]? = some d → Inv (i + j) e M → chk M ∧ ∃ e1 M1, g d e M = some (.nx e1, M1) ∧ Wp (body e1 M1) fun f M2 => (∃ e2, (f = .nx e2 ∨ f = .ct e2) ∧ Inv (i + j + 1) e2 M2) ∨ ∃ v, f = .rt v ∧ P f M2) →
    (∀ e M, Inv (i + ds.length) e M → chk M) → Inv i e M → Wp (forIL g chk body ds e M) fun f M2 => (∃ e2, f = .nx e2 ∧ Inv (i + ds.length) e2 M2) ∨ ∃ v, f = .rt v ∧ P f M2
  | [], i, e, M, _, hc, h => ⟨.nx e, M, by unfold forIL; rw [if_pos (hc e M h)], .inl ⟨e, rfl, h⟩⟩
  | d :: ds, i, e, M, hs, hc, h => by
    obtain ⟨c, e1, M1, h1, f, M2, h2, h3⟩ := hs 0 d e M rfl h
    rcases h3 with ⟨e2, h3, h4⟩ | ⟨v, rfl, h4⟩
    · obtain ⟨f', M', k1, k2⟩ := forL_R Inv ds (i + 1) e2 M2 (fun j d' e M q w => by
        have := hs (j + 1) d' e M q (by rwa [show i + (j + 1) = i + 1 + j by omega])
        rwa [show i + (j + 1) + 1 = i + 1 + j + 1 by omega] at this) (fun e M w => hc e M (by rwa [List.length_cons, show i + (ds.length + 1) = i + 1 + ds.length by omega])) h4
      refine ⟨f', M', ?_, by rwa [List.length_cons, show i + (ds.length + 1) = i + 1 + ds.length by omega]⟩
      unfold forIL
      rw [if_pos c, h1]
      dsimp only
      rcases h3 with rfl | rfl
      · rw [h2]
        exact k1
      · rw [h2]
        exact k1
    · refine ⟨.rt v, M2, ?_, .inr ⟨v, rfl, h4⟩⟩
      unfold forIL
      rw [if_pos c, h1]
      dsimp only
      rw [h2]
theorem wp_forR (ds : List D) (Inv : Nat → DL.Env → Store → Prop) (hdi : di e M = ok (ds, chk) M)
    (hs : ∀ (j : Nat) (d : D) (e : DL.Env) (M : Store), ds[j]? = some d → Inv j e M → chk M ∧ ∃ e1 M1, g d e M = some (.nx e1, M1) ∧ Wp (body e1 M1) fun f M2 => (∃ e2, (f = .nx e2 ∨ f = .ct e2) ∧ Inv (j + 1) e2 M2) ∨ ∃ v, f = .rt v ∧ P f M2)
    (hc : ∀ e M, Inv ds.length e M → chk M) (h : Inv 0 e M) (k : ∀ e' M', Inv ds.length e' M' → P (.nx e') M') : Wp (forI g di body e M) P := by
  obtain ⟨f, M', h1, h2⟩ := forL_R (P := P) (g := g) (body := body) (chk := chk) Inv ds 0 e M (fun j d e M q w => by
    rw [Nat.zero_add] at w ⊢
    exact hs j d e M q w) (fun e M w => hc e M (by rwa [Nat.zero_add] at w)) h
  refine ⟨f, M', ?_, ?_⟩
  · unfold forI
    rw [hdi, thenS_v]
    exact h1
  · rcases h2 with ⟨e2, rfl, h2⟩ | ⟨v, rfl, h2⟩
    · exact k e2 M' (by rwa [Nat.zero_add] at h2)
    · exact h2
theorem wp_forR_nx (ds : List D) (Inv : Nat → DL.Env → Store → Prop) (hdi : di e M = ok (ds, chk) M)
    (hs : ∀ (j : Nat) (d : D) (e : DL.Env) (M : Store), ds[j]? = some d → Inv j e M → chk M ∧ ∃ e1 M1, g d e M = some (.nx e1, M1) ∧ Wp (body e1 M1) fun f M2 => (∃ e2, (f = .nx e2 ∨ f = .ct e2) ∧ Inv (j + 1) e2 M2) ∨ ∃ v, f = .rt v ∧ P f M2)
    (hc : ∀ e M, Inv ds.length e M → chk M) (h : Inv 0 e M) (k : ∀ e' M', Inv ds.length e' M' → Wp (b e' M') P) : Wp (seqS (forI g di body) b e M) P := by
  refine wp_seq (wp_forR ds Inv hdi (fun j d e M q w => ?_) hc h fun e' M' w => .inl ⟨e', rfl, k e' M' w⟩)
  obtain ⟨c, e1, M1, h1, f, M2, h2, h3⟩ := hs j d e M q w
  refine ⟨c, e1, M1, h1, f, M2, h2, ?_⟩
  rcases h3 with h3 | ⟨v, rfl, h4⟩
  · exact .inl h3
  · exact .inr ⟨v, rfl, .inr ⟨(fun _ z => nomatch z), h4⟩⟩
end
theorem pick_range {α : Type} (xs : List α) (a : Nat) : ∀ m, a + m ≤ xs.length → ((List.range m).map fun j => a + j).filterMap (xs[·]?) = (xs.drop a).take m
  | 0, _ => by simp
  | m + 1, h => by
    have e : xs[a + m]? = some xs[a + m] := List.getElem?_eq_getElem (by omega)
    rw [List.range_succ, List.map_append, List.filterMap_append, pick_range xs a m (by omega), List.map_singleton, List.filterMap_cons, e]
    rw [List.take_add_one, List.getElem?_drop, e]
    rfl
theorem slp_part {ds : List D} {lo hi : Option Int} {a m : Nat} {M : Store} (h : (Builtin.Slice.sliceAdjust lo hi 1 ds.length).1 = (a : Int)) (h2 : Builtin.Slice.slicePlaces (Builtin.Slice.sliceAdjust lo hi 1 ds.length).1 (Builtin.Slice.sliceAdjust lo hi 1 ds.length).2 1 = m) (hm : a + m ≤ ds.length) (hl : ds.length ≤ 100000) : slpF (.tup ds) lo hi none M = ok (.tup ((ds.drop a).take m)) M := by
  have e : prtI ds.length lo hi none = (List.range m).map fun j => a + j := by
    unfold prtI
    rw [show (none : Option Int).getD 1 = 1 from rfl, h2, h]
    exact List.map_congr_left fun j _ => by omega
  unfold slpF prtF
  dsimp only
  rw [if_pos ⟨by decide, by rw [e, List.length_map, List.length_range]; omega⟩]
  unfold prtT
  rw [e, pick_range _ _ _ hm]
  by_cases w : whole ds.length lo hi none = true
  · rw [if_pos w]
    unfold whole at w
    rw [show (none : Option Int).getD 1 = 1 from rfl, h2, h] at w
    simp only [Bool.and_eq_true, beq_iff_eq] at w
    have a0 : a = 0 := by omega
    rw [a0, List.drop_zero, w.2, List.take_length]
  · rw [if_neg w]
theorem slp_take {ds : List D} {k : Nat} {M : Store} (hl : ds.length ≤ 100000) : slpF (.tup ds) none (some (k : Int)) none M = ok (.tup (ds.take k)) M := by
  rw [slp_part (a := 0) (m := min k ds.length) rfl ?_ (by omega) hl]
  · rw [List.drop_zero]
    by_cases c : k ≤ ds.length
    · rw [Nat.min_eq_left c]
    · rw [Nat.min_eq_right (by omega), List.take_length, List.take_of_length_le (by omega)]
  · unfold Builtin.Slice.slicePlaces Builtin.Slice.sliceAdjust
    simp only [show ¬ (1 : Int) < 0 by decide, if_false, show (1 : Int) > 0 by decide, if_true]
    rw [if_neg (show ¬ (k : Int) < 0 by omega)]
    split <;> omega
theorem slp_drop {ds : List D} {k : Nat} {M : Store} (hl : ds.length ≤ 100000) : slpF (.tup ds) (some (k : Int)) none none M = ok (.tup (ds.drop k)) M := by
  rw [slp_part (a := min k ds.length) (m := ds.length - k) ?_ ?_ (by omega) hl]
  · congr 2
    by_cases c : k ≤ ds.length
    · rw [Nat.min_eq_left c, List.take_of_length_le (by simp)]
    · rw [Nat.min_eq_right (by omega), List.drop_of_length_le (Nat.le_refl _), List.drop_of_length_le (by omega), List.take_nil]
  · unfold PySem.Builtin.Slice.sliceAdjust
    simp only [show ¬ (1 : Int) < 0 by decide, if_false]
    rw [if_neg (show ¬ (k : Int) < 0 by omega)]
    omega
  · unfold Builtin.Slice.slicePlaces Builtin.Slice.sliceAdjust
    simp only [show ¬ (1 : Int) < 0 by decide, if_false, show (1 : Int) > 0 by decide, if_true]
    rw [if_neg (show ¬ (k : Int) < 0 by omega)]
    split <;> omega
section
variable {e : DL.Env} {M : Store} {n : Nat}
theorem map_getR {α : Type} {n j : Nat} {f : Nat → α} {d : α} (h : ((List.range n).map f)[j]? = some d) : j < n ∧ d = f j := by
  have lt := (List.getElem?_eq_some_iff.mp h).1
  simp only [List.length_map, List.length_range] at lt
  refine ⟨lt, ?_⟩
  rw [List.getElem?_map, List.getElem?_range lt] at h
  exact (Option.some.inj h).symm
theorem get_mapR {α : Type} {n j : Nat} {f : Nat → α} (h : j < n) : ((List.range n).map f)[j]? = some (f j) := by
  rw [List.getElem?_map, List.getElem?_range h]
  rfl
theorem it_r1 {da : DenE} {n : Nat} (h : da e M = ok (.int (n : Int)) M) (hn : n ≤ 1000000) : rng1 (consA da nilA) e M = ok ((List.range n).map fun (j : Nat) => D.int (j : Int), fun _ => True) M := it_rng (by
  show bindE (da e M) (fun d M1 => bindE (ok [] M1) fun ds M2 => ok (d :: ds) M2) = _
  rw [h]
  rfl) hn
theorem it_r2 {da db : DenE} {a b : Nat} (ha : da e M = ok (.int (a : Int)) M) (hb : db e M = ok (.int (b : Int)) M) (h : b ≤ 1000000) (h2 : a ≤ 1000000) : rng2 (consA da (consA db nilA)) e M = ok ((List.range (b - a)).map fun (j : Nat) => D.int ((a + j : Nat) : Int), fun _ => True) M := by
  unfold rng2
  show bindE (bindE (da e M) fun d M1 => bindE (bindE (db e M1) fun d M1 => ok [d] M1) fun ds M2 => ok (d :: ds) M2) _ = _
  rw [ha, bindE_v, hb, bindE_v, bindE_v, bindE_v]
  dsimp only
  rw [if_pos ⟨small_i (by omega), small_i (by omega)⟩, show ((b : Int) - (a : Int)).toNat = b - a by omega]
  unfold rngI
  refine congrArg (fun l => ok (l, fun _ => True) M) (List.map_congr_left fun j _ => ?_)
  exact congrArg D.int (by omega)
theorem ixN_nat {n j : Nat} (h : j < n) : ixN n (j : Int) = some j := by
  unfold ixN
  (rw [if_pos (by omega), if_pos (by omega)])
  rfl
theorem subG_at {dob di : DenE} {n j : Nat} {i : Int} {d : D} {ds : List D} (ho : dob e M = ok (.loc n) M) (hi : di e M = ok (.int i) M) (hij : i = (j : Int)) (h : M[n]? = some (.lst ds)) (hj : j < ds.length) : subG dob di d e M = some (.nx e, M.set n (.lst (ds.set j d))) := by
  subst hij
  unfold subG
  rw [ho, thenS_v, hi, thenS_v]
  dsimp only
  rw [h]
  dsimp only
  rw [ixN_nat hj]
theorem map_set {n j : Nat} {f : Nat → D} {d : D} (hj : j < n) : ((List.range n).map f).set j d = (List.range n).map fun c => if c = j then d else f c := by
  apply List.ext_getElem?
  intro i
  by_cases hi : i < n
  · rw [get_mapR hi]
    by_cases hij : j = i
    · subst hij
      rw [List.getElem?_set_self (by simp; omega), if_pos rfl]
    · rw [List.getElem?_set_ne hij, get_mapR hi, if_neg (fun z => hij z.symm)]
  · rw [List.getElem?_eq_none (by simp; omega), List.getElem?_eq_none (by simp; omega)]
theorem set_self {α : Type} {M : List α} {i : Nat} {o : α} (h : M[i]? = some o) : M.set i o = M := by
  have lt := (List.getElem?_eq_some_iff.mp h).1
  apply List.ext_getElem?
  intro j
  by_cases hj : i = j
  · subst hj
    rw [List.getElem?_set_self lt, h]
  · rw [List.getElem?_set_ne hj]
theorem range_snoc {f : Nat → D} (n : Nat) : (List.range n).map f ++ [f n] = (List.range (n + 1)).map f := by
  rw [List.range_succ, List.map_append]
  rfl
theorem tupcompR {f g : Nat → D} {de : DenE} {di : DenI} {i : Nat} (hdi : ∀ M, di e M = ok ((List.range n).map g, fun _ => True) M) (hn : n ≤ 100) (hde : ∀ k, k < n → ∀ M, de (e.set i (some (g k))) M = ok (f k) M) (nl : ∀ k, k < n → nlD 0 (f k) = true) (M : Store) :
    callD tupcF (consA (cutE (compD (set1 i) (cD (.bl true)) de [i] di)) nilA) e M = ok (rowD n f) M := by
  have hc := comp_v (M := M) (set := set1 i) (vs := [i]) (de := de) (g := g) (f := f) (e := e) (List.range n) (hdi M) (by rw [List.length_range]; omega) (fun k hk => ⟨e.set i (some (g k)), by
    show some ((e.set i none).set i (some (g k))) = _
    rw [List.set_set], hde k (List.mem_range.mp hk)⟩) (fun k hk => nl k (List.mem_range.mp hk))
  show bindE (bindE (cutE _ e M) fun d M1 => bindE (ok [] M1) fun ds M2 => ok (d :: ds) M2) tupcF = _
  rw [hc]
  exact tup_row (by omega)
theorem addG_tup {xs ys : List D} (h : xs.length + ys.length ≤ 100000) : addGF (.tup xs) (.tup ys) M = ok (.tup (xs ++ ys)) M := by
  cases xs with
  | nil =>
    show (if ys.length ≤ 100000 then ok (D.tup ys) M else none) = _
    rw [if_pos (by simpa using h)]
    rfl
  | cons x r =>
    show (if (x :: r).length + ys.length ≤ sizeLine ∧ x :: r ≠ [] then ok (D.tup (x :: r ++ ys)) M else none) = _
    rw [if_pos ⟨sz_ok h, by simp⟩]
theorem addG_int {i j : Int} : addGF (.int i) (.int j) M = ok (.int (i + j)) M := rfl
end
end DL
namespace DL
open PySem L2
def Flw.out : Flw → Bool
  | .rt _ => true
  | .ex _ _ _ => true
  | _ => false
section
variable {g : DenG} {body b : DenS} {chk : Store → Prop} {di : DenI} {e : DL.Env} {M : Store} {P : Flw → Store → Prop}
theorem forL_X (Inv : Nat → DL.Env → Store → Prop) : ∀ (ds : List D) (i : Nat) (e : DL.Env) (M : Store), (∀ (j : Nat) (d : D) (e : DL.Env) (M : Store), ds[j]? = some d → Inv (i + j) e M → chk M ∧ ∃ e1 M1, g d e M = some (.nx e1, M1) ∧ Wp (body e1 M1) fun f M2 => (∃ e2, (f = .nx e2 ∨ f = .ct e2) ∧ Inv (i + j + 1) e2 M2) ∨ (f.out = true ∧ P f M2)) →
    (∀ e M, Inv (i + ds.length) e M → chk M) → Inv i e M → Wp (forIL g chk body ds e M) fun f M2 => (∃ e2, f = .nx e2 ∧ Inv (i + ds.length) e2 M2) ∨ (f.out = true ∧ P f M2)
  | [], i, e, M, _, hc, h => ⟨.nx e, M, by unfold forIL; rw [if_pos (hc e M h)], .inl ⟨e, rfl, h⟩⟩
  | d :: ds, i, e, M, hs, hc, h => by
    obtain ⟨c, e1, M1, h1, f, M2, h2, h3⟩ := hs 0 d e M rfl h
    rcases h3 with ⟨e2, h3, h4⟩ | ⟨ho, h4⟩
    · obtain ⟨f', M', k1, k2⟩ := forL_X Inv ds (i + 1) e2 M2 (fun j d' e M q w => by
        have := hs (j + 1) d' e M q (by rwa [show i + (j + 1) = i + 1 + j by omega])
        rwa [show i + (j + 1) + 1 = i + 1 + j + 1 by omega] at this) (fun e M w => hc e M (by rwa [List.length_cons, show i + (ds.length + 1) = i + 1 + ds.length by omega])) h4
      refine ⟨f', M', ?_, by rwa [List.length_cons, show i + (ds.length + 1) = i + 1 + ds.length by omega]⟩
      unfold forIL
      rw [if_pos c, h1]
      dsimp only
      rcases h3 with rfl | rfl
      · rw [h2]
        exact k1
      · rw [h2]
        exact k1
    · refine ⟨f, M2, ?_, .inr ⟨ho, h4⟩⟩
      unfold forIL
      rw [if_pos c, h1]
      dsimp only
      rw [h2]
      cases f with
      | rt v => rfl
      | ex c fs e' => rfl
      | nx _ => cases ho
      | ct _ => cases ho
      | bk _ => cases ho
theorem wp_forX (ds : List D) (Inv : Nat → DL.Env → Store → Prop) (hdi : di e M = ok (ds, chk) M)
    (hs : ∀ (j : Nat) (d : D) (e : DL.Env) (M : Store), ds[j]? = some d → Inv j e M → chk M ∧ ∃ e1 M1, g d e M = some (.nx e1, M1) ∧ Wp (body e1 M1) fun f M2 => (∃ e2, (f = .nx e2 ∨ f = .ct e2) ∧ Inv (j + 1) e2 M2) ∨ (f.out = true ∧ P f M2))
    (hc : ∀ e M, Inv ds.length e M → chk M) (h : Inv 0 e M) (k : ∀ e' M', Inv ds.length e' M' → P (.nx e') M') : Wp (forI g di body e M) P := by
  obtain ⟨f, M', h1, h2⟩ := forL_X (P := P) (g := g) (body := body) (chk := chk) Inv ds 0 e M (fun j d e M q w => by
    rw [Nat.zero_add] at w ⊢
    exact hs j d e M q w) (fun e M w => hc e M (by rwa [Nat.zero_add] at w)) h
  refine ⟨f, M', ?_, ?_⟩
  · unfold forI
    rw [hdi, thenS_v]
    exact h1
  · rcases h2 with ⟨e2, rfl, h2⟩ | ⟨_, h2⟩
    · exact k e2 M' (by rwa [Nat.zero_add] at h2)
    · exact h2
theorem zip_rowsR {n : Nat} {da db : DenE} {e : DL.Env} {f1 f2 : Nat → D} {M : Store} (ha : da e M = ok (rowD n f1) M) (hb : db e M = ok (rowD n f2) M) : zipD (consA da (consA db nilA)) e M = ok ((List.range n).map fun i => .tup [f1 i, f2 i], fun _ => True) M := by
  have e1 : zipD (consA da (consA db nilA)) e M = ok (zipI ((List.range n).map f1) ((List.range n).map f2), fun _ => True) M := by
    unfold zipD
    simp only [consA, nilA, ha, hb, bindE_v]
    rfl
  rw [e1]
  refine congrArg (fun l => ok (l, fun _ => True) M) ?_
  have : ∀ (l : List Nat), zipI (l.map f1) (l.map f2) = l.map fun i => .tup [f1 i, f2 i] := fun l => by
    induction l with
    | nil => rfl
    | cons a r ih =>
      show D.tup [f1 a, f2 a] :: zipI (r.map f1) (r.map f2) = _
      rw [ih]
      rfl
  exact this _
/-- the place of the first thing that isn't so -/
theorem enum_rows {n : Nat} {da : DenE} {e : DL.Env} {f : Nat → D} {M : Store} (ha : da e M = ok (rowD n f) M) : enumD (consA da nilA) e M = ok ((List.range n).map fun (i : Nat) => .tup [.int (i : Int), f i], fun _ => True) M := by
  have h1 : enumD (consA da nilA) e M = ok (enumI 0 ((List.range n).map f), fun _ => True) M := by
    unfold enumD
    simp only [consA, nilA, ha, bindE_v]
    rfl
  rw [h1]
  refine congrArg (fun l => ok (l, fun _ => True) M) ?_
  apply List.ext_getElem?
  intro i
  rw [enum_get]
  by_cases hi : i < n
  · rw [get_mapR hi, get_mapR hi, Nat.zero_add]
    rfl
  · rw [List.getElem?_eq_none (by simp; omega), List.getElem?_eq_none (by simp; omega)]
    rfl
end
end DL
namespace L2
open PySem PySem.Spec
open PyProof.Rows
end L2
namespace DL
open PySem L2
end DL
namespace DL
open PySem L2
mutual
/-- data with longer leaves -/
def okW : D → Bool
  | .non => true
  | .bl _ => true
  | .int i => decide (i.natAbs.log2 < 1500)
  | .str x => ((PyData.str x).showable && (PyData.str x).leavesShort 1600 && decide (x.cps.size ≤ 100)) && (PyData.str x).canLay0
  | .tup ds => okWs ds
  | .lst ds => okWs ds
  | _ => false
def okWs : List D → Bool
  | [] => true
  | d :: ds => okW d && okWs ds
end
mutual
theorem pyw_ok : ∀ d : D, okW d = true → ∃ p, D.py d = some p ∧ p.showable = true ∧ p.hasDict = false ∧ p.depth ≤ dpD d ∧ p.leavesShort 1600 = true ∧ p.bulk = szD' d ∧ p.canLay0 = true ∧ PyData.eqv p p = true
  | .non, _ => ⟨.none, rfl, rfl, rfl, Nat.zero_le _, rfl, rfl, rfl, rfl⟩
  | .bl b, _ => ⟨.bool b, rfl, rfl, rfl, Nat.zero_le _, rfl, rfl, rfl, by simp [PyData.eqv]⟩
  | .int i, h => by
    have h1 : i.natAbs.log2 < 1500 := of_decide_eq_true h
    have h2 : (PySem.Str.ofString (toString i)).length ≤ 1501 := Nat.le_trans (Nat.le_of_eq (PySem.ofString_length _)) (PySem.int_text_length_le (Nat.zero_lt_succ _) h1)
    refine ⟨.int i, rfl, ?_, rfl, Nat.zero_le _, ?_, rfl, rfl, by simp [PyData.eqv]⟩
    · simp [PyData.showable]; omega
    · simp only [PyData.leavesShort, PyData.shown, decide_eq_true_eq]
      exact decide_eq_true (Nat.le_trans h2 (by decide : 1501 ≤ 1600))
  | .str x, h => by
    have h' : (((PyData.str x).showable && (PyData.str x).leavesShort 1600 && decide (x.cps.size ≤ 100)) && (PyData.str x).canLay0) = true := h
    rw [Bool.and_eq_true, Bool.and_eq_true, Bool.and_eq_true] at h'
    exact ⟨.str x, rfl, h'.1.1.1, rfl, Nat.zero_le _, h'.1.1.2, rfl, h'.2, by simp [PyData.eqv]⟩
  | .tup ds, h => by
    obtain ⟨ps, h1, h2, h3, h4, h5, h6, h7, h8⟩ := pysw_ok ds h
    refine ⟨.tuple ps, by show (D.pys ds).map PyData.tuple = _; rw [h1]; rfl, ?_, ?_, ?_, ?_, ?_, ?_, ?_⟩
    · simp only [PyData.showable]; exact h2
    · simp only [PyData.hasDict]; exact h3
    · simp only [PyData.depth]; show _ ≤ dpDs ds + 1; omega
    · simp only [PyData.leavesShort]; exact h5
    · simp only [PyData.bulk]; exact h6
    · simp only [PyData.canLay0]; exact h7
    · simp only [PyData.eqv]; exact h8
  | .lst ds, h => by
    obtain ⟨ps, h1, h2, h3, h4, h5, h6, h7, h8⟩ := pysw_ok ds h
    refine ⟨.list ps, by show (D.pys ds).map PyData.list = _; rw [h1]; rfl, ?_, ?_, ?_, ?_, ?_, ?_, ?_⟩
    · simp only [PyData.showable]; exact h2
    · simp only [PyData.hasDict]; exact h3
    · simp only [PyData.depth]; show _ ≤ dpDs ds + 1; omega
    · simp only [PyData.leavesShort]; exact h5
    · simp only [PyData.bulk]; exact h6
    · simp only [PyData.canLay0]; exact h7
    · simp only [PyData.eqv]; exact h8
  | .scr _, h => nomatch (show false = true from h)
  | .emp, h => nomatch (show false = true from h)
  | .loc _, h => nomatch (show false = true from h)
  | .exc _ _, h => nomatch (show false = true from h)
  | .ty _, h => nomatch (show false = true from h)
  | .cls _, h => nomatch (show false = true from h)
  | .clo _ _ _ _ _ _, h => nomatch (show false = true from h)
  | .ktp _, h => nomatch (show false = true from h)
theorem pysw_ok : ∀ ds : List D, okWs ds = true → ∃ ps, D.pys ds = some ps ∧ PyData.showableAll ps = true ∧ PyData.hasDictAll ps = false ∧ PyData.depthAll ps ≤ dpDs ds ∧ PyData.leavesShortAll 1600 ps = true ∧ PyData.bulkAll ps = szDs ds ∧ PyData.canLayAll0 ps = true ∧ PyData.eqvAll ps ps = true
  | [], _ => ⟨[], rfl, rfl, rfl, Nat.zero_le _, rfl, rfl, rfl, by simp [PyData.eqvAll]⟩
  | d :: ds, h => by
    have h' : (okW d && okWs ds) = true := h
    rw [Bool.and_eq_true] at h'
    obtain ⟨p, a1, a2, a3, a4, a5, a6, a7, a8⟩ := pyw_ok d h'.1
    obtain ⟨ps, h1, h2, h3, h4, h5, h6, h7, h8⟩ := pysw_ok ds h'.2
    refine ⟨p :: ps, by show (match D.py d, D.pys ds with | some p, some ps => some (p :: ps) | _, _ => none) = _; rw [a1, h1], ?_, ?_, ?_, ?_, ?_, ?_, ?_⟩
    · simp only [PyData.showableAll, a2, h2, Bool.and_self]
    · simp only [PyData.hasDictAll, a3, h3, Bool.or_self]
    · simp only [PyData.depthAll]; show _ ≤ max (dpD d) (dpDs ds); omega
    · simp only [PyData.leavesShortAll, a5, h5, Bool.and_self]
    · simp only [PyData.bulkAll, a6, h6]; rfl
    · simp only [PyData.canLayAll0, a7, h7, Bool.and_self]
    · simp only [PyData.eqvAll, a8, h8, Bool.and_self]
end
section
variable {n : Nat} {f : Nat → D}
theorem okWs_map {α : Type} {f : α → D} : ∀ (l : List α), (∀ i ∈ l, okW (f i) = true) → okWs (l.map f) = true
  | [], _ => rfl
  | i :: l, h => by
    show (okW (f i) && okWs (l.map f)) = true
    rw [h i List.mem_cons_self, okWs_map l fun j hj => h j (List.mem_cons_of_mem _ hj)]
    rfl
theorem okW_row (h : ∀ i, i < n → okW (f i) = true) : okW (rowD n f) = true := okWs_map _ fun i hi => h i (List.mem_range.mp hi)
theorem szs_map {α : Type} {f : α → D} {k : Nat} : ∀ (l : List α), (∀ i ∈ l, szD' (f i) ≤ k) → szDs (l.map f) ≤ l.length * (k + 1)
  | [], _ => Nat.zero_le _
  | i :: l, h => by
    have := szs_map l fun j hj => h j (List.mem_cons_of_mem _ hj)
    have := h i List.mem_cons_self
    show szD' (f i) + 1 + szDs (l.map f) ≤ (l.length + 1) * (k + 1)
    rw [Nat.succ_mul]
    omega
theorem sz_rowN {k : Nat} (h : ∀ i, i < n → szD' (f i) ≤ k) : szD' (rowD n f) ≤ n * (k + 1) := by
  have := szs_map (f := f) (k := k) (List.range n) fun i hi => h i (List.mem_range.mp hi)
  rw [List.length_range] at this
  exact this
theorem dps_map {α : Type} {f : α → D} {k : Nat} : ∀ (l : List α), (∀ i ∈ l, dpD (f i) ≤ k) → dpDs (l.map f) ≤ k
  | [], _ => Nat.zero_le _
  | i :: l, h => by
    have := dps_map l fun j hj => h j (List.mem_cons_of_mem _ hj)
    have := h i List.mem_cons_self
    show max (dpD (f i)) (dpDs (l.map f)) ≤ k
    omega
theorem dp_rowN {k : Nat} (h : ∀ i, i < n → dpD (f i) ≤ k) : dpD (rowD n f) ≤ k + 1 := Nat.succ_le_succ (dps_map _ fun i hi => h i (List.mem_range.mp hi))
theorem okW_int {i : Int} {k : Nat} (h : Bd k i) (hk : k < 1500) : okW (.int i) = true := decide_eq_true (Nat.lt_of_le_of_lt h.lg hk)
end
mutual
theorem pye_of : ∀ (d : D) (p : PyData), D.py d = some p → D.pye d = some p
  | .non, _, h => h
  | .bl _, _, h => h
  | .int _, _, h => h
  | .str _, _, h => h
  | .tup ds, p, h => by
    have h' : (D.pys ds).map PyData.tuple = some p := h
    obtain ⟨ps, h1, h2⟩ := Option.map_eq_some_iff.mp h'
    show (D.pyes ds).map PyData.tuple = some p
    rw [pyes_of ds ps h1, ← h2]
    rfl
  | .lst ds, p, h => by
    have h' : (D.pys ds).map PyData.list = some p := h
    obtain ⟨ps, h1, h2⟩ := Option.map_eq_some_iff.mp h'
    show (D.pyes ds).map PyData.list = some p
    rw [pyes_of ds ps h1, ← h2]
    rfl
  | .scr _, _, h => nomatch (show none = some _ from h)
  | .emp, _, h => nomatch (show none = some _ from h)
  | .loc _, _, h => nomatch (show none = some _ from h)
  | .exc _ _, _, h => nomatch (show none = some _ from h)
  | .ty _, _, h => nomatch (show none = some _ from h)
  | .cls _, _, h => nomatch (show none = some _ from h)
  | .clo _ _ _ _ _ _, _, h => nomatch (show none = some _ from h)
  | .ktp _, _, h => nomatch (show none = some _ from h)
theorem pyes_of : ∀ (ds : List D) (ps : List PyData), D.pys ds = some ps → D.pyes ds = some ps
  | [], _, h => h
  | d :: ds, ps, h => by
    have h' : (match D.py d, D.pys ds with
      | some p, some ps => some (p :: ps)
      | _, _ => none) = some ps := h
    cases q1 : D.py d with
    | none => rw [q1] at h'; cases h'
    | some p =>
      cases q2 : D.pys ds with
      | none => rw [q1, q2] at h'; cases h'
      | some qs =>
        rw [q1, q2] at h'
        show (match D.pye d, D.pyes ds with
          | some p, some ps => some (p :: ps)
          | _, _ => none) = some ps
        rw [pye_of d p q1, pyes_of ds qs q2]
        exact h'
end
theorem reprG_w {d : D} {M : Store} (h : okW d = true) (hz : szD' d ≤ 6000) (hd : dpD d ≤ 60) : reprGF [d] M = ok (.str (rpr d)) M := by
  obtain ⟨p, h1, h2, h3, h4, h5, h6, _, _⟩ := pyw_ok d h
  have q := PyData.shown_le_bulk 1600 (by decide) p h5
  have q3 : 10200000 ≤ sizeLine := by decide
  unfold reprGF rpr
  simp only [pye_of d p h1, h1]
  exact if_pos ⟨h2, by omega, by omega⟩
end DL
namespace DL
open PySem L2
section
variable {F : Fx} {X : Cx} {W : WX} {L L1 : List Addr} {H H1 : Hp} {M : Store} {e : DL.Env} {σ : L2.St} {T : Ends} {k : Nat}
theorem post_own {Q : VK} {ds : List D} {vs : List V} {p : Addr} (h : Post F e L H σ W Q (ok (.loc M.length) (M ++ [.lst ds]))) (sr : SR F L H M e σ) (r : Reps F L H ds vs) (hp : H p = none) : Q (.ref p) (upd H p (.lst vs)) := by
  obtain ⟨m3, s3⟩ := SM.own sr.m hp r
  refine h (L ++ [p]) _ (.ref p) s3 (sr.stay s3 m3) ⟨p, rfl, ?_⟩
  rw [← sr.m.len, List.getElem?_append_right (Nat.le_refl _), Nat.sub_self]
  rfl
/-- a new list of a sequence's things -/
def lstcOF : List D → Store → RE
  | [x], M => match sqD M x with
    | some ds => ok (.loc M.length) (M ++ [.lst ds])
    | none => none
  | _, _ => none
theorem lstcO_ok : CallOk F (rLstC F.K) lstcOF := fun ds M L H e σ W vs Q sr rv p => by
  unfold lstcOF at p
  split at p
  · obtain ⟨v, rfl, h1⟩ := reps1 rv
    split at p
    · rename_i es hg
      rcases sqD_cases hg with rfl | hg
      · obtain ⟨a, ws, rfl, q1, q2⟩ := h1
        exact ⟨a, ws, rfl, .inr (.inl (.inl q1)), fun q hq => post_own p sr q2 hq⟩
      · obtain ⟨a, ws, rfl, q1, q2⟩ := getL_sq sr.m hg h1
        exact ⟨a, ws, rfl, .inl q1, fun q hq => post_own p sr q2 hq⟩
    · exact False.elim p
  · exact False.elim p
def mulOwnF : D → D → Store → RE
  | x, .int k, M => match getW M x with
    | some xs => if -(2 ^ 63) ≤ k ∧ k < 2 ^ 63 ∧ xs.length * k.toNat ≤ sizeLine then ok (.loc M.length) (M ++ [.lst (List.replicate k.toNat xs).flatten]) else none
    | none => none
  | _, _, _ => none
theorem mulOwn_ok : OpOk F rMulD mulOwnF := fun d1 d2 M L H e σ W v1 v2 Q sr r1 r2 p => by
  unfold mulOwnF at p
  split at p
  · rename_i k
    have q2 : v2 = .int k := r2
    subst q2
    split at p
    · rename_i xs h1
      obtain ⟨a, vs, rfl, a2, a3⟩ := getW_lst sr.m h1 r1
      split at p
      · rename_i hz
        exact .inr ⟨a, k, vs, rfl, rfl, a2, hz.1, hz.2.1, by rw [← reps_len a3]; exact hz.2.2, fun p' hp => post_own p sr (reps_rep a3 _) hp⟩
      · exact False.elim p
    · exact False.elim p
  · exact False.elim p
theorem mulOwn_v {x : D} {n : Nat} (h : n ≤ 1000) : mulOwnF (.lst [x]) (.int (n : Int)) M = ok (.loc M.length) (M ++ [.lst (List.replicate n x)]) := by
  have fl : ∀ n : Nat, (List.replicate n [x]).flatten = List.replicate n x := fun n => by
    induction n with
    | zero => rfl
    | succ n ih =>
      rw [List.replicate_succ, List.flatten_cons, ih]
      rfl
  simp only [mulOwnF, getW, getL]
  rw [if_pos ⟨by omega, by omega, sz_ok (by simp; omega)⟩, Int.toNat_natCast, fl]
end
section
variable {e : DL.Env} {M : Store} {set : D → DL.Env → Option DL.Env} {de : DenE} {vs : List Nat} {di : DenI} {g : Nat → D} {f : Nat → List D}
theorem compL_own {e0 : DL.Env} (M : Store) (h : ∀ k, ∃ e1, set (g k) e0 = some e1 ∧ ∀ M', de e1 M' = ok (.loc M'.length) (M' ++ [.lst (f k)])) : ∀ (n a : Nat), a + n ≤ 1000 →
    compL (fun _ => True) set (cD (.bl true)) de e0 M.length ((List.range n).map fun j => g (a + j)) (M ++ .lst ((List.range a).map fun k => D.loc (M.length + 1 + k)) :: ((List.range a).map fun k => Ob.lst (f k))) = ok () (M ++ .lst ((List.range (a + n)).map fun k => D.loc (M.length + 1 + k)) :: ((List.range (a + n)).map fun k => Ob.lst (f k)))
  | 0, a, _ => by
    unfold compL
    simp
  | n + 1, a, hl => by
    obtain ⟨e1, h1, h2⟩ := h a
    have e2 : (List.range (n + 1)).map (fun j => g (a + j)) = g a :: (List.range n).map fun j => g (a + 1 + j) := by
      (rw [List.range_succ_eq_map, List.map_cons, List.map_map])
      refine congrArg _ (List.map_congr_left fun j _ => ?_)
      show g (a + (j + 1)) = _
      rw [show a + (j + 1) = a + 1 + j by omega]
    rw [e2]
    have ih := compL_own M h n (a + 1) (by omega)
    obtain ⟨N, hN⟩ : ∃ N, N = (M ++ .lst ((List.range a).map fun k => D.loc (M.length + 1 + k)) :: ((List.range a).map fun k => Ob.lst (f k))) := ⟨_, rfl⟩
    have lN : N.length = M.length + 1 + a := by
      rw [hN]
      simp
      omega
    have gN : (N ++ [Ob.lst (f a)])[M.length]? = some (.lst ((List.range a).map fun k => D.loc (M.length + 1 + k))) := by
      rw [hN, List.append_assoc]
      exact get_mid
    rw [← hN]
    unfold compL
    rw [if_pos trivial, h1]
    show bindV (cD (.bl true) e1 N) _ = _
    show bindV (de e1 N) _ = _
    rw [h2]
    show (match (N ++ [Ob.lst (f a)])[M.length]? with
      | some (.lst acc) => if acc.length < 100000 then compL (fun _ => True) set (cD (.bl true)) de e0 M.length ((List.range n).map fun j => g (a + 1 + j)) ((N ++ [Ob.lst (f a)]).set M.length (.lst (acc ++ [D.loc N.length]))) else none
      | _ => none) = _
    rw [gN]
    dsimp only
    rw [if_pos (by simp; omega)]
    have e3 : (N ++ [Ob.lst (f a)]).set M.length (.lst ((List.range a).map (fun k => D.loc (M.length + 1 + k)) ++ [D.loc N.length])) = M ++ .lst ((List.range (a + 1)).map fun k => D.loc (M.length + 1 + k)) :: ((List.range (a + 1)).map fun k => Ob.lst (f k)) := by
      rw [lN, hN, List.append_assoc, List.cons_append, set_mid, List.range_succ, List.map_append, List.map_append]
      rfl
    rw [e3, ih, show a + 1 + n = a + (n + 1) by omega]
theorem comp_own {n : Nat} (hdi : di e M = ok ((List.range n).map g, fun _ => True) M) (hn : n ≤ 1000) (h : ∀ k, ∃ e1, set (g k) (wipeE e vs) = some e1 ∧ ∀ M', de e1 M' = ok (.loc M'.length) (M' ++ [.lst (f k)])) :
    compD set (cD (.bl true)) de vs di e M = ok (.loc M.length) (M ++ .lst ((List.range n).map fun k => D.loc (M.length + 1 + k)) :: ((List.range n).map fun k => Ob.lst (f k))) := by
  have := compL_own (set := set) (de := de) (g := g) (f := f) (e0 := wipeE e vs) M h n 0 (by omega)
  simp only [Nat.zero_add] at this
  unfold compD
  rw [hdi, bindE_v]
  show bindE (compL _ _ _ _ _ _ _ (M ++ [.lst []])) _ = _
  have e1 : (M ++ Ob.lst ((List.range 0).map fun k => D.loc (M.length + 1 + k)) :: ((List.range 0).map fun k => Ob.lst (f k))) = M ++ [.lst []] := rfl
  rw [e1] at this
  rw [this]
  rfl
end
end DL
namespace DL
open PySem L2
section
variable {F : Fx} {X : Cx} {W : WX} {L L1 : List Addr} {H H1 : Hp} {M : Store} {e : DL.Env} {σ : L2.St} {T : Ends} {k : Nat}
def lstOD (dr : DenA) : DenE := fun e M => bindE (dr e M) fun ds M1 => if ds.length ≤ 100000 then ok (.loc M1.length) (M1 ++ [.lst ds]) else none
theorem de_lstO {ys : List Expr} {dr : DenA} {pos : Pos} (hr : DA F X W ys dr) : DE F X W (.List ys pos) (lstOD dr) := by
  obtain ⟨t, p, q⟩ := hr
  refine ⟨_, pe_lst p, fun e M L σ H Q sr pp => q e M L σ H _ sr (PostG.bind (fun ds M1 L1 H1 vs s1 r1 rv q2 => ?_) pp)⟩
  split at q2
  · rename_i hl
    exact ⟨by rw [← reps_len rv]; exact sz_ok hl, fun p' hp => post_own q2 r1 rv hp⟩
  · exact False.elim q2
end
end DL
namespace L2
open PySem PySem.Spec
open PyProof.Rows
section
variable {prog : Program}
variable {w : World}
variable {A : Around}
variable {E : Value → Shared → Prop} {s : Shared} {l : Addr} {xs : Array (Int × Tok)}
theorem iter_intTup {Q : Value → Shared → Prop} (hl : s.heap.IsTuple l (intItems xs))
    (hk : ∀ sn : Shared, sn = { s with heap := s.heap.push { cls := .type "tuple_iterator", data := .fields #[.ref l, .int 0 0] } } →
      (sn.heap.IsTupleIter s.heap.objs.size l 0 ∧ sn.heap.IsTuple l (intItems xs)) → (∀ b ∈ [s.heap.objs.size, l], b < sn.heap.objs.size) → l ≠ s.heap.objs.size → Q (.ref s.heap.objs.size) sn) : wpAny (model prog w) A (pyIter (.ref l)) Q E s := by
  have hlt : l < s.heap.objs.size := by
    rcases hl with ⟨_, e, _⟩
    exact Heap.lt_size e
  refine wpAny_pyIter_tuple hl (hk _ rfl ⟨⟨_, Heap.get?_push_size _ rfl, rfl, rfl⟩, hl.push _⟩ (fun b hb => ?_) (Nat.ne_of_lt hlt))
  (show b < (s.heap.push _).objs.size)
  rw [Heap.size_push]
  rcases (List.mem_cons.mp hb) with rfl | hb
  · exact (Nat.lt_succ_self _)
  · rcases (List.mem_cons.mp hb) with rfl | hb
    · exact (Nat.lt_succ_of_lt hlt)
    · cases hb
theorem old_keptT {h' : Heap} (hk : ∀ b o, b ∉ [s.heap.objs.size] → (s.heap.push { cls := .type "tuple_iterator", data := .fields #[.ref l, .int 0 0] }).get? b = some o → h'.get? b = some o) :
    ∀ bb ob, s.heap.get? bb = some ob → h'.get? bb = some ob := fun b o e => by
  (refine hk b o (fun hm => ?_) (Heap.get?_push_of_some _ e))
  rcases (List.mem_cons.mp hm) with e1 | hm
  · subst e1
    exact Nat.lt_irrefl _ (Heap.lt_size e)
  · cases hm
theorem max_intTup {Q : Value → Shared → Prop} (hh : A.handled = none) (hl : s.heap.IsTuple l (intItems xs)) (hne : 0 < xs.size)
    (hq : ∀ v h' tk, (intItems xs)[argBest (fun i j => decide (numAt xs i > numAt xs j)) (xs.size - 1)]? = some v → (∀ b o, s.heap.get? b = some o → h'.get? b = some o) → Q v { s with heap := h', toks := tk }) : wpAny (model prog w) A (call (.builtin "max") [.ref l]) Q E s := by
  refine call_max_walk (iter_intTup hl fun sn e st hfp hlI => ?_)
  subst e
  refine ⟨_, _, _, _, _, _, _, rfl, Walks.tuple (A := A.in1) hh _ l hlI (intItems xs), st, hfp, by simpa [intItems] using hne, CmpOf.ints_gt (numAt xs) (fun _ _ => intItems_at), fun v h' tk hP hk => ?_⟩
  exact hq v h' tk (by simpa [intItems] using hP) (old_keptT hk)
theorem min_intTup {Q : Value → Shared → Prop} (hh : A.handled = none) (hl : s.heap.IsTuple l (intItems xs)) (hne : 0 < xs.size)
    (hq : ∀ v h' tk, (intItems xs)[argBest (fun i j => decide (numAt xs i < numAt xs j)) (xs.size - 1)]? = some v → (∀ b o, s.heap.get? b = some o → h'.get? b = some o) → Q v { s with heap := h', toks := tk }) : wpAny (model prog w) A (call (.builtin "min") [.ref l]) Q E s := by
  refine call_min_walk (iter_intTup hl fun sn e st hfp hlI => ?_)
  subst e
  refine ⟨_, _, _, _, _, _, _, rfl, Walks.tuple (A := A.in1) hh _ l hlI (intItems xs), st, hfp, by simpa [intItems] using hne, CmpOf.ints_lt (numAt xs) (fun _ _ => intItems_at), fun v h' tk hP hk => ?_⟩
  exact hq v h' tk (by simpa [intItems] using hP) (old_keptT hk)
variable {its : List Value} {ns : List Int} {Q : Value → Shared → Prop}
theorem max_rawT (hh : A.handled = none) (hl : s.heap.IsTuple l its.toArray) (hin : IntsAre its ns) (hne : 0 < ns.length)
    (hq : ∀ h' tk m t', (∀ b o, s.heap.get? b = some o → h'.get? b = some o) → m ∈ ns → (∀ a, a ∈ ns → a ≤ m) → Q (.int m t') { s with heap := h', toks := tk }) : wpAny (model prog w) A (call (.builtin "max") [.ref l]) Q E s := by
  obtain ⟨ys, e⟩ := hin.allInts.items
  have hnm : numsOf (intItems ys).toList = ns := by rw [← e]; exact hin.numsOf
  rw [nums_intItems] at hnm
  subst hnm
  rw [e] at hl
  have hsz : 0 < ys.size := by simpa using hne
  refine max_intTup hh hl hsz fun v h' tk hv hk => ?_
  (obtain ⟨t, rfl⟩ := intItems_at hv)
  obtain ⟨g1, g2⟩ := argBest_gt (numAt ys) (ys.size - 1)
  refine hq h' tk _ t hk ?_ fun a ha => ?_
  · rw [numAt_eq]
    exact PySem.getD_mem (by rw [List.length_map, Array.length_toList]; omega)
  · (obtain ⟨j, hj, rfl⟩ := mem_getD ha)
    (rw [List.length_map, Array.length_toList] at hj)
    rw [← numAt_eq]
    exact g2 j (by omega)
theorem min_rawT (hh : A.handled = none) (hl : s.heap.IsTuple l its.toArray) (hin : IntsAre its ns) (hne : 0 < ns.length)
    (hq : ∀ h' tk m t', (∀ b o, s.heap.get? b = some o → h'.get? b = some o) → m ∈ ns → (∀ a, a ∈ ns → m ≤ a) → Q (.int m t') { s with heap := h', toks := tk }) : wpAny (model prog w) A (call (.builtin "min") [.ref l]) Q E s := by
  obtain ⟨ys, e⟩ := hin.allInts.items
  have hnm : numsOf (intItems ys).toList = ns := by rw [← e]; exact hin.numsOf
  rw [nums_intItems] at hnm
  subst hnm
  rw [e] at hl
  have hsz : 0 < ys.size := by simpa using hne
  refine min_intTup hh hl hsz fun v h' tk hv hk => ?_
  (obtain ⟨t, rfl⟩ := intItems_at hv)
  obtain ⟨g1, g2⟩ := argBest_lt (numAt ys) (ys.size - 1)
  refine hq h' tk _ t hk ?_ fun a ha => ?_
  · rw [numAt_eq]
    exact PySem.getD_mem (by rw [List.length_map, Array.length_toList]; omega)
  · (obtain ⟨j, hj, rfl⟩ := mem_getD ha)
    (rw [List.length_map, Array.length_toList] at hj)
    rw [← numAt_eq]
    exact g2 j (by omega)
end
section
variable {X : Cx}
def rMaxT (K : PySem.W.Frag) : List V → Hp → VK → Prop := fun vs H Q => ∃ (a : Addr) (ns : List Int), vs = [V.ref a] ∧ SqT K H a (ns.map V.int) ∧ 0 < ns.length ∧ ∀ m, m ∈ ns → (∀ y, y ∈ ns → y ≤ m) → Q (.int m) H
def rMinT (K : PySem.W.Frag) : List V → Hp → VK → Prop := fun vs H Q => ∃ (a : Addr) (ns : List Int), vs = [V.ref a] ∧ SqT K H a (ns.map V.int) ∧ 0 < ns.length ∧ ∀ m, m ∈ ns → (∀ y, y ∈ ns → m ≤ y) → Q (.int m) H
theorem cr_maxT (hc : X.calm = true) : CallR X (.builtin "max") (rMaxT X.K) := by
  intro pins s σ H vs us Q I r hx
  obtain ⟨a, ns, rfl, hs, hne, q⟩ := hx
  obtain ⟨its, rv, hl, _⟩ := I.tuple hs
  rw [Vals.ref1 r]
  exact max_rawT (I.ok.hd hc) hl rv.ints hne fun h' tk m t' hk g1 g2 => ⟨.int _, H, I.kept hk, ⟨_, rfl⟩, q m g1 g2⟩
theorem cr_minT (hc : X.calm = true) : CallR X (.builtin "min") (rMinT X.K) := by
  intro pins s σ H vs us Q I r hx
  obtain ⟨a, ns, rfl, hs, hne, q⟩ := hx
  obtain ⟨its, rv, hl, _⟩ := I.tuple hs
  rw [Vals.ref1 r]
  exact min_rawT (I.ok.hd hc) hl rv.ints hne fun h' tk m t' hk g1 g2 => ⟨.int _, H, I.kept hk, ⟨_, rfl⟩, q m g1 g2⟩
end
end L2
namespace DL
open PySem L2
section
variable {F : Fx} {X : Cx} {W : WX} {L L1 : List Addr} {H H1 : Hp} {M : Store} {e : DL.Env} {σ : L2.St} {T : Ends} {k : Nat}
/-- of a list or a tuple -/
def maxLTF : List D → Store → RE
  | [.tup ds], M => match intsOf ds with
    | some (n :: ns) => ok (.int (mxI n ns)) M
    | _ => none
  | ds, M => maxLF ds M
def minLTF : List D → Store → RE
  | [.tup ds], M => match intsOf ds with
    | some (n :: ns) => ok (.int (mnI n ns)) M
    | _ => none
  | ds, M => minLF ds M
theorem maxLT_ok : CallOk F (fun vs H Q => rMaxT F.K vs H Q ∨ rMax F.K vs H Q) maxLTF := fun ds M L H e σ W vs Q sr rv p => by
  unfold maxLTF at p
  split at p
  · rename_i es
    obtain ⟨v, rfl, h1⟩ := reps1 rv
    split at p
    · rename_i n ns hn
      obtain ⟨a, ws, rfl, q1, q2⟩ := h1
      rw [intsOf_rep hn q2] at q1
      refine .inl ⟨a, n :: ns, rfl, .inl (.inl q1), by simp, fun m hm hle => ?_⟩
      have e : m = mxI n ns := by
        have h1 := hle _ (mxI_mem n ns)
        obtain ⟨h2, h3⟩ := mxI_ge n ns
        (rcases List.mem_cons.mp hm with rfl | hm)
        · omega
        · have := h3 m hm
          omega
      rw [e]
      exact p.ok sr rfl
    · exact False.elim p
  · exact .inr (maxL_ok _ M L H e σ W vs Q sr rv p)
theorem minLT_ok : CallOk F (fun vs H Q => rMinT F.K vs H Q ∨ rMin F.K vs H Q) minLTF := fun ds M L H e σ W vs Q sr rv p => by
  unfold minLTF at p
  split at p
  · rename_i es
    obtain ⟨v, rfl, h1⟩ := reps1 rv
    split at p
    · rename_i n ns hn
      obtain ⟨a, ws, rfl, q1, q2⟩ := h1
      rw [intsOf_rep hn q2] at q1
      refine .inl ⟨a, n :: ns, rfl, .inl (.inl q1), by simp, fun m hm hle => ?_⟩
      have e : m = mnI n ns := by
        have h1 := hle _ (mnI_mem n ns)
        obtain ⟨h2, h3⟩ := mnI_le n ns
        (rcases List.mem_cons.mp hm with rfl | hm)
        · omega
        · have := h3 m hm
          omega
      rw [e]
      exact p.ok sr rfl
    · exact False.elim p
  · exact .inr (minL_ok _ M L H e σ W vs Q sr rv p)
theorem callr_maxLT (hc : X.calm = true) : CallR X (.builtin "max") (fun vs H Q => rMaxT X.K vs H Q ∨ rMax X.K vs H Q) := fun pins s σ H vs us Q I r hx => by
  rcases hx with hx | hx
  · exact cr_maxT hc pins s σ H vs us Q I r hx
  · exact cr_max hc pins s σ H vs us Q I r hx
theorem callr_minLT (hc : X.calm = true) : CallR X (.builtin "min") (fun vs H Q => rMinT X.K vs H Q ∨ rMin X.K vs H Q) := fun pins s σ H vs us Q I r hx => by
  rcases hx with hx | hx
  · exact cr_minT hc pins s σ H vs us Q I r hx
  · exact cr_min hc pins s σ H vs us Q I r hx
end
end DL
namespace K63
open PySem L2 DL
def topS (i : Nat) : Stmt := PySem.Challenge.pw_hollowrise_k63_frames.main.body.getD i (.Pass ⟨0, 0, 0, 0⟩)
abbrev s__law_cell : Stmt := topS 48
theorem sc__law_cell : FnScope ["cells", "spot", "k", "base", "own", "turn"] ["cells", "spot"] (defScope s__law_cell) := ⟨rfl, rfl, rfl, by decide +kernel, rfl, by decide +kernel, by decide +kernel⟩
abbrev s__law_low : Stmt := topS 49
theorem sc__law_low : FnScope ["above", "below", "one", "other", "part"] ["above", "below"] (defScope s__law_low) := ⟨rfl, rfl, rfl, by decide +kernel, rfl, by decide +kernel, by decide +kernel⟩
abbrev s__law_entries : Stmt := topS 53
theorem sc__law_entries : FnScope ["cells", "spot", "length", "sort", "found", "i", "row", "j", "n", "some", "far"] ["cells", "spot", "length", "sort"] (defScope s__law_entries) := ⟨rfl, rfl, rfl, by decide +kernel, rfl, by decide +kernel, by decide +kernel⟩
abbrev s__law_bent : Stmt := topS 57
theorem sc__law_bent : FnScope ["grid", "n", "length", "odd", "nth", "spot", "bad", "row", "menu"] ["grid", "n"] (defScope s__law_bent) := ⟨rfl, rfl, rfl, by decide +kernel, rfl, by decide +kernel, by decide +kernel⟩
abbrev s__law_flat : Stmt := topS 50
theorem sc__law_flat : FnScope ["wide", "high", "found", "y", "x"] ["wide", "high"] (defScope s__law_flat) := ⟨rfl, rfl, rfl, by decide +kernel, rfl, by decide +kernel, by decide +kernel⟩
abbrev s__law_most : Stmt := topS 51
theorem sc__law_most : FnScope ["heights", "x", "y", "found", "last", "top", "north", "row", "east", "height"] ["heights", "x", "y"] (defScope s__law_most) := ⟨rfl, rfl, rfl, by decide +kernel, rfl, by decide +kernel, by decide +kernel⟩
abbrev s_is_whole : Stmt := topS 10
theorem sc_is_whole : FnScope ["thing"] ["thing"] (defScope s_is_whole) := ⟨rfl, rfl, rfl, by decide +kernel, rfl, by decide +kernel, by decide +kernel⟩
abbrev s_frame : Stmt := topS 39
theorem sc_frame : FnScope ["size"] ["size"] (defScope s_frame) := ⟨rfl, rfl, rfl, by decide +kernel, rfl, by decide +kernel, by decide +kernel⟩
abbrev s__law_frame_right : Stmt := topS 55
theorem sc__law_frame_right : FnScope ["length", "wide", "high", "due", "less_wide", "less_high", "heights", "y", "x"] ["length"] (defScope s__law_frame_right) := ⟨rfl, rfl, rfl, by decide +kernel, rfl, by decide +kernel, by decide +kernel⟩
abbrev s__law_is_refused : Stmt := topS 54
theorem sc__law_is_refused : FnScope ["call", "error", "caught"] ["call"] (defScope s__law_is_refused) := ⟨rfl, rfl, rfl, by decide +kernel, rfl, by decide +kernel, by decide +kernel⟩
abbrev s__law_square : Stmt := topS 52
theorem sc__law_square : FnScope ["target", "off", "x", "y", "length", "found", "i", "j"] ["target", "off"] (defScope s__law_square) := ⟨rfl, rfl, rfl, by decide +kernel, rfl, by decide +kernel, by decide +kernel⟩
abbrev s__law_framed : Stmt := topS 56
theorem sc__law_framed : FnScope ["grid", "length", "wide", "high", "worths", "y", "dots", "line", "row", "x", "worth"] ["grid"] (defScope s__law_framed) := ⟨rfl, rfl, rfl, by decide +kernel, rfl, by decide +kernel, by decide +kernel⟩
abbrev s_is_rim_low : Stmt := topS 23
theorem sc_is_rim_low : FnScope ["rows", "edge", "row"] ["rows"] (defScope s_is_rim_low) := ⟨rfl, rfl, rfl, by decide +kernel, rfl, by decide +kernel, by decide +kernel⟩
abbrev s_are_height_rows : Stmt := topS 24
theorem sc_are_height_rows : FnScope ["thing", "wide", "row", "height"] ["thing"] (defScope s_are_height_rows) := ⟨rfl, rfl, rfl, by decide +kernel, rfl, by decide +kernel, by decide +kernel⟩
abbrev s__wrong_or_steps : Stmt := topS 21
theorem sc__wrong_or_steps : FnScope ["thing"] ["thing"] (defScope s__wrong_or_steps) := ⟨rfl, rfl, rfl, by decide +kernel, rfl, by decide +kernel, by decide +kernel⟩
abbrev s_is_side_long : Stmt := topS 19
theorem sc_is_side_long : FnScope ["thing"] ["thing"] (defScope s_is_side_long) := ⟨rfl, rfl, rfl, by decide +kernel, rfl, by decide +kernel, by decide +kernel⟩
abbrev s_are_steps_beside : Stmt := topS 22
theorem sc_are_steps_beside : FnScope ["row", "west", "height"] ["row"] (defScope s_are_steps_beside) := ⟨rfl, rfl, rfl, by decide +kernel, rfl, by decide +kernel, by decide +kernel⟩
abbrev s_wrong_with_heights : Stmt := topS 20
theorem sc_wrong_with_heights : FnScope ["thing", "first", "wide", "south", "row", "west", "height", "below"] ["thing"] (defScope s_wrong_with_heights) := ⟨rfl, rfl, rfl, by decide +kernel, rfl, by decide +kernel, by decide +kernel⟩
abbrev s_is_tuple_of : Stmt := topS 11
theorem sc_is_tuple_of : FnScope ["thing", "many"] ["thing", "many"] (defScope s_is_tuple_of) := ⟨rfl, rfl, rfl, by decide +kernel, rfl, by decide +kernel, by decide +kernel⟩
abbrev s_are_worth_rows : Stmt := topS 25
theorem sc_are_worth_rows : FnScope ["thing", "size", "wide", "high", "row", "worth", "above", "below"] ["thing", "size"] (defScope s_are_worth_rows) := ⟨rfl, rfl, rfl, by decide +kernel, rfl, by decide +kernel, by decide +kernel⟩
abbrev s_sides : Stmt := topS 17
theorem sc_sides : FnScope ["rows"] ["rows"] (defScope s_sides) := ⟨rfl, rfl, rfl, by decide +kernel, rfl, by decide +kernel, by decide +kernel⟩
abbrev s_need_field : Stmt := topS 16
theorem sc_need_field : FnScope ["thing", "heights", "worths", "place"] ["thing"] (defScope s_need_field) := ⟨rfl, rfl, rfl, by decide +kernel, rfl, by decide +kernel, by decide +kernel⟩
abbrev s_is_field : Stmt := topS 15
theorem sc_is_field : FnScope ["thing"] ["thing"] (defScope s_is_field) := ⟨rfl, rfl, rfl, by decide +kernel, rfl, by decide +kernel, by decide +kernel⟩
abbrev s_is_flat_rows : Stmt := topS 33
theorem sc_is_flat_rows : FnScope ["heights", "row"] ["heights"] (defScope s_is_flat_rows) := ⟨rfl, rfl, rfl, by decide +kernel, rfl, by decide +kernel, by decide +kernel⟩
abbrev s_need_flat : Stmt := topS 32
theorem sc_need_flat : FnScope ["field"] ["field"] (defScope s_need_flat) := ⟨rfl, rfl, rfl, by decide +kernel, rfl, by decide +kernel, by decide +kernel⟩
abbrev s_need_target_on : Stmt := topS 29
theorem sc_need_target_on : FnScope ["heights", "thing", "x", "y", "top", "row"] ["heights", "thing"] (defScope s_need_target_on) := ⟨rfl, rfl, rfl, by decide +kernel, rfl, by decide +kernel, by decide +kernel⟩
abbrev s_need_square : Stmt := topS 41
theorem sc_need_square : FnScope ["field", "target"] ["field", "target"] (defScope s_need_square) := ⟨rfl, rfl, rfl, by decide +kernel, rfl, by decide +kernel, by decide +kernel⟩
abbrev s_at : Stmt := topS 18
theorem sc_at : FnScope ["rows", "spot", "x", "y"] ["rows", "spot"] (defScope s_at) := ⟨rfl, rfl, rfl, by decide +kernel, rfl, by decide +kernel, by decide +kernel⟩
abbrev s__worths_at : Stmt := topS 46
theorem sc__worths_at : FnScope ["field", "spots", "row", "spot"] ["field", "spots"] (defScope s__worths_at) := ⟨rfl, rfl, rfl, by decide +kernel, rfl, by decide +kernel, by decide +kernel⟩
abbrev s_square_of : Stmt := topS 42
theorem sc_square_of : FnScope ["target", "x", "y", "size", "i", "j"] ["target"] (defScope s_square_of) := ⟨rfl, rfl, rfl, by decide +kernel, rfl, by decide +kernel, by decide +kernel⟩
abbrev s_square_worths : Stmt := topS 38
theorem sc_square_worths : FnScope ["field", "target"] ["field", "target"] (defScope s_square_worths) := ⟨rfl, rfl, rfl, by decide +kernel, rfl, by decide +kernel, by decide +kernel⟩
abbrev s__is_row : Stmt := topS 45
theorem sc__is_row : FnScope ["thing", "many", "one", "above", "below"] ["thing", "many"] (defScope s__is_row) := ⟨rfl, rfl, rfl, by decide +kernel, rfl, by decide +kernel, by decide +kernel⟩
abbrev s_need_rows : Stmt := topS 43
theorem sc_need_rows : FnScope ["thing", "least", "most", "row"] ["thing", "least", "most"] (defScope s_need_rows) := ⟨rfl, rfl, rfl, by decide +kernel, rfl, by decide +kernel, by decide +kernel⟩
abbrev s_need_no_nought : Stmt := topS 44
theorem sc_need_no_nought : FnScope ["rows", "row", "above", "_"] ["rows"] (defScope s_need_no_nought) := ⟨rfl, rfl, rfl, by decide +kernel, rfl, by decide +kernel, by decide +kernel⟩
abbrev s_need_number : Stmt := topS 34
theorem sc_need_number : FnScope ["thing", "least", "most"] ["thing", "least", "most"] (defScope s_need_number) := ⟨rfl, rfl, rfl, by decide +kernel, rfl, by decide +kernel, by decide +kernel⟩
abbrev s_rows_by : Stmt := topS 27
theorem sc_rows_by : FnScope ["size", "told", "wide", "high", "y", "x"] ["size", "told"] (defScope s_rows_by) := ⟨rfl, rfl, rfl, by decide +kernel, rfl, by decide +kernel, by decide +kernel⟩
abbrev s__flat_heights : Stmt := topS 35
theorem sc__flat_heights : FnScope ["size"] ["size"] (defScope s__flat_heights) := ⟨rfl, rfl, rfl, by decide +kernel, rfl, by decide +kernel, by decide +kernel⟩
abbrev s_flat : Stmt := topS 31
theorem sc_flat : FnScope ["wide", "high"] ["wide", "high"] (defScope s_flat) := ⟨rfl, rfl, rfl, by decide +kernel, rfl, by decide +kernel, by decide +kernel⟩
abbrev s_field_by : Stmt := topS 40
theorem sc_field_by : FnScope ["rows", "wide", "high", "x", "y", "heights", "worths", "lines", "spots", "row", "a", "b", "worth", "line"] ["rows"] (defScope s_field_by) := ⟨rfl, rfl, rfl, by decide +kernel, rfl, by decide +kernel, by decide +kernel⟩
abbrev s_law : Stmt := topS 58
theorem sc_law : FnScope ["script", "spot", "length", "odd", "k", "n", "grid", "due", "kept", "aim", "bad"] ["script"] (defScope s_law) := ⟨rfl, rfl, rfl, by decide +kernel, rfl, by decide +kernel, by decide +kernel⟩
/-- where things stand -/
structure Tx where
  K : PySem.W.Frag
  mg : Str → Option Value
  a__law_cell : Addr
  fd__law_cell : FuncData
  a__law_low : Addr
  fd__law_low : FuncData
  a__law_entries : Addr
  fd__law_entries : FuncData
  a__law_bent : Addr
  fd__law_bent : FuncData
  a__law_flat : Addr
  fd__law_flat : FuncData
  a__law_most : Addr
  fd__law_most : FuncData
  a_is_whole : Addr
  fd_is_whole : FuncData
  a_frame : Addr
  fd_frame : FuncData
  a__law_frame_right : Addr
  fd__law_frame_right : FuncData
  a__law_is_refused : Addr
  fd__law_is_refused : FuncData
  a__law_square : Addr
  fd__law_square : FuncData
  a__law_framed : Addr
  fd__law_framed : FuncData
  a_is_rim_low : Addr
  fd_is_rim_low : FuncData
  a_are_height_rows : Addr
  fd_are_height_rows : FuncData
  a__wrong_or_steps : Addr
  fd__wrong_or_steps : FuncData
  a_is_side_long : Addr
  fd_is_side_long : FuncData
  a_are_steps_beside : Addr
  fd_are_steps_beside : FuncData
  a_wrong_with_heights : Addr
  fd_wrong_with_heights : FuncData
  a_is_tuple_of : Addr
  fd_is_tuple_of : FuncData
  a_are_worth_rows : Addr
  fd_are_worth_rows : FuncData
  a_sides : Addr
  fd_sides : FuncData
  a_need_field : Addr
  fd_need_field : FuncData
  a_is_field : Addr
  fd_is_field : FuncData
  a_is_flat_rows : Addr
  fd_is_flat_rows : FuncData
  a_need_flat : Addr
  fd_need_flat : FuncData
  a_need_target_on : Addr
  fd_need_target_on : FuncData
  a_need_square : Addr
  fd_need_square : FuncData
  a_at : Addr
  fd_at : FuncData
  a__worths_at : Addr
  fd__worths_at : FuncData
  a_square_of : Addr
  fd_square_of : FuncData
  a_square_worths : Addr
  fd_square_worths : FuncData
  a__is_row : Addr
  fd__is_row : FuncData
  a_need_rows : Addr
  fd_need_rows : FuncData
  a_need_no_nought : Addr
  fd_need_no_nought : FuncData
  a_need_number : Addr
  fd_need_number : FuncData
  a_rows_by : Addr
  fd_rows_by : FuncData
  a__flat_heights : Addr
  fd__flat_heights : FuncData
  a_flat : Addr
  fd_flat : FuncData
  a_field_by : Addr
  fd_field_by : FuncData
  a_law : Addr
  fd_law : FuncData
  C_HollowError : Addr
  C_BadField : Addr
  C_BadFraction : Addr
  C_BadTarget : Addr
  C_BadOrder : Addr
  C_BadTable : Addr
  C_BadRows : Addr
  I_BadField : Addr
  I_BadTable : Addr
  c__flat_heights : Addr
  P__flat_heights : Addr
  c_flat : Addr
  P_flat : Addr
  c_law : Addr
  P_law : Addr
def Tx.cl (t : Tx) : String → Option Addr
  | "HollowError" => some t.C_HollowError
  | "BadField" => some t.C_BadField
  | "BadFraction" => some t.C_BadFraction
  | "BadTarget" => some t.C_BadTarget
  | "BadOrder" => some t.C_BadOrder
  | "BadTable" => some t.C_BadTable
  | "BadRows" => some t.C_BadRows
  | _ => none
def Tx.fx (t : Tx) : Fx := ⟨t.K, t.cl, [(t.P__flat_heights, "_flat_heights" ++ ".<locals>." ++ "<lambda>"), (t.P_flat, "flat" ++ ".<locals>." ++ "<lambda>"), (t.P_law, "law" ++ ".<locals>." ++ "<lambda>")]⟩
structure TxOk (P : Program) (t : Tx) : Prop where
  g__law_cell : t.mg "_law_cell" = some (.ref t.a__law_cell)
  F__law_cell : Fun t.K "_law_cell" "_law_cell" s__law_cell t.a__law_cell t.fd__law_cell
  b__law_cell : Binds t.K t.fd__law_cell ["cells", "spot"] []
  g__law_low : t.mg "_law_low" = some (.ref t.a__law_low)
  F__law_low : Fun t.K "_law_low" "_law_low" s__law_low t.a__law_low t.fd__law_low
  b__law_low : Binds t.K t.fd__law_low ["above", "below"] []
  g__law_entries : t.mg "_law_entries" = some (.ref t.a__law_entries)
  F__law_entries : Fun t.K "_law_entries" "_law_entries" s__law_entries t.a__law_entries t.fd__law_entries
  b__law_entries : Binds t.K t.fd__law_entries ["cells", "spot", "length", "sort"] []
  g__law_bent : t.mg "_law_bent" = some (.ref t.a__law_bent)
  F__law_bent : Fun t.K "_law_bent" "_law_bent" s__law_bent t.a__law_bent t.fd__law_bent
  b__law_bent : Binds t.K t.fd__law_bent ["grid", "n"] []
  g__law_flat : t.mg "_law_flat" = some (.ref t.a__law_flat)
  F__law_flat : Fun t.K "_law_flat" "_law_flat" s__law_flat t.a__law_flat t.fd__law_flat
  b__law_flat : Binds t.K t.fd__law_flat ["wide", "high"] []
  g__law_most : t.mg "_law_most" = some (.ref t.a__law_most)
  F__law_most : Fun t.K "_law_most" "_law_most" s__law_most t.a__law_most t.fd__law_most
  b__law_most : Binds t.K t.fd__law_most ["heights", "x", "y"] []
  g_is_whole : t.mg "is_whole" = some (.ref t.a_is_whole)
  F_is_whole : Fun t.K "is_whole" "is_whole" s_is_whole t.a_is_whole t.fd_is_whole
  b_is_whole : Binds t.K t.fd_is_whole ["thing"] []
  g_frame : t.mg "frame" = some (.ref t.a_frame)
  F_frame : Fun t.K "frame" "frame" s_frame t.a_frame t.fd_frame
  b_frame : Binds t.K t.fd_frame ["size"] []
  kb_frame_0 : KwB t.K t.fd_frame ["size"] 0 ["size"] [0]
  g__law_frame_right : t.mg "_law_frame_right" = some (.ref t.a__law_frame_right)
  F__law_frame_right : Fun t.K "_law_frame_right" "_law_frame_right" s__law_frame_right t.a__law_frame_right t.fd__law_frame_right
  b__law_frame_right : Binds t.K t.fd__law_frame_right ["length"] []
  g__law_is_refused : t.mg "_law_is_refused" = some (.ref t.a__law_is_refused)
  F__law_is_refused : Fun t.K "_law_is_refused" "_law_is_refused" s__law_is_refused t.a__law_is_refused t.fd__law_is_refused
  b__law_is_refused : Binds t.K t.fd__law_is_refused ["call"] []
  g__law_square : t.mg "_law_square" = some (.ref t.a__law_square)
  F__law_square : Fun t.K "_law_square" "_law_square" s__law_square t.a__law_square t.fd__law_square
  b__law_square : Binds t.K t.fd__law_square ["target", "off"] []
  g__law_framed : t.mg "_law_framed" = some (.ref t.a__law_framed)
  F__law_framed : Fun t.K "_law_framed" "_law_framed" s__law_framed t.a__law_framed t.fd__law_framed
  b__law_framed : Binds t.K t.fd__law_framed ["grid"] []
  g_is_rim_low : t.mg "is_rim_low" = some (.ref t.a_is_rim_low)
  F_is_rim_low : Fun t.K "is_rim_low" "is_rim_low" s_is_rim_low t.a_is_rim_low t.fd_is_rim_low
  b_is_rim_low : Binds t.K t.fd_is_rim_low ["rows"] []
  g_are_height_rows : t.mg "are_height_rows" = some (.ref t.a_are_height_rows)
  F_are_height_rows : Fun t.K "are_height_rows" "are_height_rows" s_are_height_rows t.a_are_height_rows t.fd_are_height_rows
  b_are_height_rows : Binds t.K t.fd_are_height_rows ["thing"] []
  g__wrong_or_steps : t.mg "_wrong_or_steps" = some (.ref t.a__wrong_or_steps)
  F__wrong_or_steps : Fun t.K "_wrong_or_steps" "_wrong_or_steps" s__wrong_or_steps t.a__wrong_or_steps t.fd__wrong_or_steps
  b__wrong_or_steps : Binds t.K t.fd__wrong_or_steps ["thing"] []
  g_is_side_long : t.mg "is_side_long" = some (.ref t.a_is_side_long)
  F_is_side_long : Fun t.K "is_side_long" "is_side_long" s_is_side_long t.a_is_side_long t.fd_is_side_long
  b_is_side_long : Binds t.K t.fd_is_side_long ["thing"] []
  g_are_steps_beside : t.mg "are_steps_beside" = some (.ref t.a_are_steps_beside)
  F_are_steps_beside : Fun t.K "are_steps_beside" "are_steps_beside" s_are_steps_beside t.a_are_steps_beside t.fd_are_steps_beside
  b_are_steps_beside : Binds t.K t.fd_are_steps_beside ["row"] []
  g_wrong_with_heights : t.mg "wrong_with_heights" = some (.ref t.a_wrong_with_heights)
  F_wrong_with_heights : Fun t.K "wrong_with_heights" "wrong_with_heights" s_wrong_with_heights t.a_wrong_with_heights t.fd_wrong_with_heights
  b_wrong_with_heights : Binds t.K t.fd_wrong_with_heights ["thing"] []
  g_is_tuple_of : t.mg "is_tuple_of" = some (.ref t.a_is_tuple_of)
  F_is_tuple_of : Fun t.K "is_tuple_of" "is_tuple_of" s_is_tuple_of t.a_is_tuple_of t.fd_is_tuple_of
  b_is_tuple_of : Binds t.K t.fd_is_tuple_of ["thing", "many"] []
  g_are_worth_rows : t.mg "are_worth_rows" = some (.ref t.a_are_worth_rows)
  F_are_worth_rows : Fun t.K "are_worth_rows" "are_worth_rows" s_are_worth_rows t.a_are_worth_rows t.fd_are_worth_rows
  b_are_worth_rows : Binds t.K t.fd_are_worth_rows ["thing", "size"] []
  g_sides : t.mg "sides" = some (.ref t.a_sides)
  F_sides : Fun t.K "sides" "sides" s_sides t.a_sides t.fd_sides
  b_sides : Binds t.K t.fd_sides ["rows"] []
  g_need_field : t.mg "need_field" = some (.ref t.a_need_field)
  F_need_field : Fun t.K "need_field" "need_field" s_need_field t.a_need_field t.fd_need_field
  b_need_field : Binds t.K t.fd_need_field ["thing"] []
  g_is_field : t.mg "is_field" = some (.ref t.a_is_field)
  F_is_field : Fun t.K "is_field" "is_field" s_is_field t.a_is_field t.fd_is_field
  b_is_field : Binds t.K t.fd_is_field ["thing"] []
  g_is_flat_rows : t.mg "is_flat_rows" = some (.ref t.a_is_flat_rows)
  F_is_flat_rows : Fun t.K "is_flat_rows" "is_flat_rows" s_is_flat_rows t.a_is_flat_rows t.fd_is_flat_rows
  b_is_flat_rows : Binds t.K t.fd_is_flat_rows ["heights"] []
  g_need_flat : t.mg "need_flat" = some (.ref t.a_need_flat)
  F_need_flat : Fun t.K "need_flat" "need_flat" s_need_flat t.a_need_flat t.fd_need_flat
  b_need_flat : Binds t.K t.fd_need_flat ["field"] []
  g_need_target_on : t.mg "need_target_on" = some (.ref t.a_need_target_on)
  F_need_target_on : Fun t.K "need_target_on" "need_target_on" s_need_target_on t.a_need_target_on t.fd_need_target_on
  b_need_target_on : Binds t.K t.fd_need_target_on ["heights", "thing"] []
  g_need_square : t.mg "need_square" = some (.ref t.a_need_square)
  F_need_square : Fun t.K "need_square" "need_square" s_need_square t.a_need_square t.fd_need_square
  b_need_square : Binds t.K t.fd_need_square ["field", "target"] []
  g_at : t.mg "at" = some (.ref t.a_at)
  F_at : Fun t.K "at" "at" s_at t.a_at t.fd_at
  b_at : Binds t.K t.fd_at ["rows", "spot"] []
  g__worths_at : t.mg "_worths_at" = some (.ref t.a__worths_at)
  F__worths_at : Fun t.K "_worths_at" "_worths_at" s__worths_at t.a__worths_at t.fd__worths_at
  b__worths_at : Binds t.K t.fd__worths_at ["field", "spots"] []
  g_square_of : t.mg "square_of" = some (.ref t.a_square_of)
  F_square_of : Fun t.K "square_of" "square_of" s_square_of t.a_square_of t.fd_square_of
  b_square_of : Binds t.K t.fd_square_of ["target"] []
  g_square_worths : t.mg "square_worths" = some (.ref t.a_square_worths)
  F_square_worths : Fun t.K "square_worths" "square_worths" s_square_worths t.a_square_worths t.fd_square_worths
  b_square_worths : Binds t.K t.fd_square_worths ["field", "target"] []
  g__is_row : t.mg "_is_row" = some (.ref t.a__is_row)
  F__is_row : Fun t.K "_is_row" "_is_row" s__is_row t.a__is_row t.fd__is_row
  b__is_row : Binds t.K t.fd__is_row ["thing", "many"] []
  g_need_rows : t.mg "need_rows" = some (.ref t.a_need_rows)
  F_need_rows : Fun t.K "need_rows" "need_rows" s_need_rows t.a_need_rows t.fd_need_rows
  b_need_rows : Binds t.K t.fd_need_rows ["thing", "least", "most"] []
  g_need_no_nought : t.mg "need_no_nought" = some (.ref t.a_need_no_nought)
  F_need_no_nought : Fun t.K "need_no_nought" "need_no_nought" s_need_no_nought t.a_need_no_nought t.fd_need_no_nought
  b_need_no_nought : Binds t.K t.fd_need_no_nought ["rows"] []
  g_need_number : t.mg "need_number" = some (.ref t.a_need_number)
  F_need_number : Fun t.K "need_number" "need_number" s_need_number t.a_need_number t.fd_need_number
  b_need_number : Binds t.K t.fd_need_number ["thing", "least", "most"] []
  g_rows_by : t.mg "rows_by" = some (.ref t.a_rows_by)
  F_rows_by : Fun t.K "rows_by" "rows_by" s_rows_by t.a_rows_by t.fd_rows_by
  b_rows_by : Binds t.K t.fd_rows_by ["size", "told"] []
  g__flat_heights : t.mg "_flat_heights" = some (.ref t.a__flat_heights)
  F__flat_heights : Fun t.K "_flat_heights" "_flat_heights" s__flat_heights t.a__flat_heights t.fd__flat_heights
  b__flat_heights : Binds t.K t.fd__flat_heights ["size"] []
  g_flat : t.mg "flat" = some (.ref t.a_flat)
  F_flat : Fun t.K "flat" "flat" s_flat t.a_flat t.fd_flat
  b_flat : Binds t.K t.fd_flat ["wide", "high"] []
  g_field_by : t.mg "field_by" = some (.ref t.a_field_by)
  F_field_by : Fun t.K "field_by" "field_by" s_field_by t.a_field_by t.fd_field_by
  b_field_by : Binds t.K t.fd_field_by ["rows"] []
  kb_field_by_0 : KwB t.K t.fd_field_by ["rows"] 0 ["rows"] [0]
  g_law : t.mg "law" = some (.ref t.a_law)
  F_law : Fun t.K "law" "law" s_law t.a_law t.fd_law
  b_law : Binds t.K t.fd_law ["script"] []
  m_abs : t.mg "abs" = none
  m_enumerate : t.mg "enumerate" = none
  m_gcd : t.mg "gcd" = some (.builtin "math.gcd")
  m_int : t.mg "int" = none
  m_isinstance : t.mg "isinstance" = none
  m_len : t.mg "len" = none
  m_list : t.mg "list" = none
  m_max : t.mg "max" = none
  m_min : t.mg "min" = none
  m_range : t.mg "range" = none
  m_repr : t.mg "repr" = none
  m_tuple : t.mg "tuple" = none
  m_type : t.mg "type" = none
  m_zip : t.mg "zip" = none
  g_HollowError : t.mg "HollowError" = some (.ref t.C_HollowError)
  g_BadField : t.mg "BadField" = some (.ref t.C_BadField)
  g_BadFraction : t.mg "BadFraction" = some (.ref t.C_BadFraction)
  g_BadTarget : t.mg "BadTarget" = some (.ref t.C_BadTarget)
  g_BadOrder : t.mg "BadOrder" = some (.ref t.C_BadOrder)
  g_BadTable : t.mg "BadTable" = some (.ref t.C_BadTable)
  g_BadRows : t.mg "BadRows" = some (.ref t.C_BadRows)
  code__flat_heights : t.fd__flat_heights.code = .ref t.c__flat_heights
  code_flat : t.fd_flat.code = .ref t.c_flat
  code_law : t.fd_law.code = .ref t.c_law
  n_MOST_FRAME : ∃ tk, t.mg "MOST_FRAME" = some (.int (6) tk)
  n_MOST_RIM : ∃ tk, t.mg "MOST_RIM" = some (.int (35) tk)
  n_MOST_SIDE : ∃ tk, t.mg "MOST_SIDE" = some (.int (11) tk)
  sup : t.mg "super" = none
  xc_BadRows : PySem.W.excIn t.K t.C_BadRows [.type "ValueError", .type "Exception", .type "BaseException", .type "object"] "ValueError.__new__" = true
  kc_BadRows : PySem.W.keepIn t.K (.ref t.C_BadRows) = true
  bc_BadRows : PySem.W.subIn t.K (.ref t.C_BadRows) (.type "BaseException") = some true
  tc_BadRows : PySem.W.typeIn t.K (.ref t.C_BadRows) = some (.type "type")
  ec_BadRows : L2.ExcC t.K t.C_BadRows
  ki_BadRows_BadRows : PySem.W.kitOne t.K (.ref t.C_BadRows) (.ref t.C_BadRows) = some true
  ki_BadRows_BadField : PySem.W.kitOne t.K (.ref t.C_BadRows) (.ref t.C_BadField) = some false
  ki_BadRows_BadFraction : PySem.W.kitOne t.K (.ref t.C_BadRows) (.ref t.C_BadFraction) = some false
  ki_BadRows_BadTable : PySem.W.kitOne t.K (.ref t.C_BadRows) (.ref t.C_BadTable) = some false
  ki_BadRows_BadTarget : PySem.W.kitOne t.K (.ref t.C_BadRows) (.ref t.C_BadTarget) = some false
  it_BadField : IniTxt P t.K t.C_BadField t.I_BadField "place" "place"
  bd_BadField : ∀ (s : Shared) (e : Addr) (v : Value) (fd : FuncData), t.K.In s.heap → (∃ oc od osl, t.K.lookup t.I_BadField = some ⟨oc, od, .func fd, osl⟩) → BindsTo s fd ⟨[.ref e, v], []⟩ [("self", .ref e), ("place", v)]
  kc_BadField : PySem.W.keepIn t.K (.ref t.C_BadField) = true
  bc_BadField : PySem.W.subIn t.K (.ref t.C_BadField) (.type "BaseException") = some true
  tc_BadField : PySem.W.typeIn t.K (.ref t.C_BadField) = some (.type "type")
  ec_BadField : L2.ExcC t.K t.C_BadField
  ki_BadField_BadRows : PySem.W.kitOne t.K (.ref t.C_BadField) (.ref t.C_BadRows) = some false
  ki_BadField_BadField : PySem.W.kitOne t.K (.ref t.C_BadField) (.ref t.C_BadField) = some true
  ki_BadField_BadFraction : PySem.W.kitOne t.K (.ref t.C_BadField) (.ref t.C_BadFraction) = some false
  ki_BadField_BadTable : PySem.W.kitOne t.K (.ref t.C_BadField) (.ref t.C_BadTable) = some false
  ki_BadField_BadTarget : PySem.W.kitOne t.K (.ref t.C_BadField) (.ref t.C_BadTarget) = some false
  xc_BadTarget : PySem.W.excIn t.K t.C_BadTarget [.type "ValueError", .type "Exception", .type "BaseException", .type "object"] "ValueError.__new__" = true
  kc_BadTarget : PySem.W.keepIn t.K (.ref t.C_BadTarget) = true
  bc_BadTarget : PySem.W.subIn t.K (.ref t.C_BadTarget) (.type "BaseException") = some true
  tc_BadTarget : PySem.W.typeIn t.K (.ref t.C_BadTarget) = some (.type "type")
  ec_BadTarget : L2.ExcC t.K t.C_BadTarget
  ki_BadTarget_BadRows : PySem.W.kitOne t.K (.ref t.C_BadTarget) (.ref t.C_BadRows) = some false
  ki_BadTarget_BadField : PySem.W.kitOne t.K (.ref t.C_BadTarget) (.ref t.C_BadField) = some false
  ki_BadTarget_BadFraction : PySem.W.kitOne t.K (.ref t.C_BadTarget) (.ref t.C_BadFraction) = some false
  ki_BadTarget_BadTable : PySem.W.kitOne t.K (.ref t.C_BadTarget) (.ref t.C_BadTable) = some false
  ki_BadTarget_BadTarget : PySem.W.kitOne t.K (.ref t.C_BadTarget) (.ref t.C_BadTarget) = some true
  xc_BadOrder : PySem.W.excIn t.K t.C_BadOrder [.type "ValueError", .type "Exception", .type "BaseException", .type "object"] "ValueError.__new__" = true
  kc_BadOrder : PySem.W.keepIn t.K (.ref t.C_BadOrder) = true
  bc_BadOrder : PySem.W.subIn t.K (.ref t.C_BadOrder) (.type "BaseException") = some true
  tc_BadOrder : PySem.W.typeIn t.K (.ref t.C_BadOrder) = some (.type "type")
  ec_BadOrder : L2.ExcC t.K t.C_BadOrder
  ki_BadOrder_BadRows : PySem.W.kitOne t.K (.ref t.C_BadOrder) (.ref t.C_BadRows) = some false
  ki_BadOrder_BadField : PySem.W.kitOne t.K (.ref t.C_BadOrder) (.ref t.C_BadField) = some false
  ki_BadOrder_BadFraction : PySem.W.kitOne t.K (.ref t.C_BadOrder) (.ref t.C_BadFraction) = some false
  ki_BadOrder_BadTable : PySem.W.kitOne t.K (.ref t.C_BadOrder) (.ref t.C_BadTable) = some false
  ki_BadOrder_BadTarget : PySem.W.kitOne t.K (.ref t.C_BadOrder) (.ref t.C_BadTarget) = some false
  neT__flat_heights_flat : t.P__flat_heights ≠ t.P_flat
  neT__flat_heights_law : t.P__flat_heights ≠ t.P_law
  neT_flat_law : t.P_flat ≠ t.P_law
  ex1_HollowError_BadRows : PySem.W.exmOne t.K (.ref t.C_BadRows) (.ref t.C_HollowError) = some true
  ex1_HollowError_BadField : PySem.W.exmOne t.K (.ref t.C_BadField) (.ref t.C_HollowError) = some true
  ex1_HollowError_BadTarget : PySem.W.exmOne t.K (.ref t.C_BadTarget) (.ref t.C_HollowError) = some true
  ex1_HollowError_BadOrder : PySem.W.exmOne t.K (.ref t.C_BadOrder) (.ref t.C_HollowError) = some true
  ex1_BadField_BadField : PySem.W.exmOne t.K (.ref t.C_BadField) (.ref t.C_BadField) = some true
theorem TxOk.h_cl_BadField {P : Program} {x : Tx} (_ : TxOk P x) : x.fx.cl "BadField" = some x.C_BadField := rfl
theorem TxOk.h_cl_BadFraction {P : Program} {x : Tx} (_ : TxOk P x) : x.fx.cl "BadFraction" = some x.C_BadFraction := rfl
theorem TxOk.h_cl_BadTarget {P : Program} {x : Tx} (_ : TxOk P x) : x.fx.cl "BadTarget" = some x.C_BadTarget := rfl
theorem TxOk.h_cl_BadOrder {P : Program} {x : Tx} (_ : TxOk P x) : x.fx.cl "BadOrder" = some x.C_BadOrder := rfl
theorem TxOk.h_cl_BadTable {P : Program} {x : Tx} (_ : TxOk P x) : x.fx.cl "BadTable" = some x.C_BadTable := rfl
theorem TxOk.h_cl_BadRows {P : Program} {x : Tx} (_ : TxOk P x) : x.fx.cl "BadRows" = some x.C_BadRows := rfl
theorem TxOk.cf_BadRows {P : Program} {x : Tx} (t : TxOk P x) (X : Cx) (hK : X.K = x.K := by rfl) (hm : X.mg = x.mg := by rfl) : ClsF X x.C_BadRows "BadRows" := ⟨⟨_, _, _, _, PySem.F.excBase_ValueError, by rw [hK]; exact t.xc_BadRows⟩, by rw [hm]; exact t.g_BadRows, by rw [hK]; exact t.kc_BadRows, raises_own (by rw [hK]; exact t.bc_BadRows) (by rw [hK]; exact t.tc_BadRows)⟩
theorem TxOk.cg_BadField {P : Program} {x : Tx} (t : TxOk P x) (X : Cx) (hP : X.prog = P := by rfl) (hK : X.K = x.K := by rfl) (hm : X.mg = x.mg := by rfl) : ClsG X x.C_BadField x.I_BadField "BadField" "place" "place" := ⟨by rw [hP, hK]; exact t.it_BadField, by rw [hm]; exact t.g_BadField, by rw [hK]; exact t.kc_BadField, raises_own (by rw [hK]; exact t.bc_BadField) (by rw [hK]; exact t.tc_BadField), by rw [hm]; exact t.sup, by rw [hK]; exact t.bd_BadField, by decide, by decide⟩
theorem TxOk.cf_BadTarget {P : Program} {x : Tx} (t : TxOk P x) (X : Cx) (hK : X.K = x.K := by rfl) (hm : X.mg = x.mg := by rfl) : ClsF X x.C_BadTarget "BadTarget" := ⟨⟨_, _, _, _, PySem.F.excBase_ValueError, by rw [hK]; exact t.xc_BadTarget⟩, by rw [hm]; exact t.g_BadTarget, by rw [hK]; exact t.kc_BadTarget, raises_own (by rw [hK]; exact t.bc_BadTarget) (by rw [hK]; exact t.tc_BadTarget)⟩
theorem TxOk.cf_BadOrder {P : Program} {x : Tx} (t : TxOk P x) (X : Cx) (hK : X.K = x.K := by rfl) (hm : X.mg = x.mg := by rfl) : ClsF X x.C_BadOrder "BadOrder" := ⟨⟨_, _, _, _, PySem.F.excBase_ValueError, by rw [hK]; exact t.xc_BadOrder⟩, by rw [hm]; exact t.g_BadOrder, by rw [hK]; exact t.kc_BadOrder, raises_own (by rw [hK]; exact t.bc_BadOrder) (by rw [hK]; exact t.tc_BadOrder)⟩
def subT : String → D → Option Bool
  | "BadRows", .cls "BadRows" => some true
  | "BadRows", .cls "BadField" => some false
  | "BadRows", .cls "BadFraction" => some false
  | "BadRows", .cls "BadTable" => some false
  | "BadRows", .cls "BadTarget" => some false
  | "BadField", .cls "BadRows" => some false
  | "BadField", .cls "BadField" => some true
  | "BadField", .cls "BadFraction" => some false
  | "BadField", .cls "BadTable" => some false
  | "BadField", .cls "BadTarget" => some false
  | "BadTarget", .cls "BadRows" => some false
  | "BadTarget", .cls "BadField" => some false
  | "BadTarget", .cls "BadFraction" => some false
  | "BadTarget", .cls "BadTable" => some false
  | "BadTarget", .cls "BadTarget" => some true
  | "BadOrder", .cls "BadRows" => some false
  | "BadOrder", .cls "BadField" => some false
  | "BadOrder", .cls "BadFraction" => some false
  | "BadOrder", .cls "BadTable" => some false
  | "BadOrder", .cls "BadTarget" => some false
  | _, _ => none
structure Tb (x : Tx) (base : Heap) : Prop where
  b__flat_heights : LamX.TabB base x.mg x.c__flat_heights x.P__flat_heights
  b_flat : LamX.TabB base x.mg x.c_flat x.P_flat
  b_law : LamX.TabB base x.mg x.c_law x.P_law
theorem Tb.up {x : Tx} {b b1 : Heap} (t : Tb x b) (h : Ext b b1) : Tb x b1 := ⟨tabB_up t.b__flat_heights h, tabB_up t.b_flat h, tabB_up t.b_law h⟩
theorem TxOk.inT__flat_heights {P : Program} {x : Tx} (t : TxOk P x) : (x.P__flat_heights, ("_flat_heights" ++ ".<locals>." ++ "<lambda>" : Str)) ∈ x.fx.T := by simp [Tx.fx]
theorem TxOk.uniq__flat_heights {P : Program} {x : Tx} (t : TxOk P x) : ∀ y ∈ x.fx.T, y.1 = x.P__flat_heights → y.2 = ("_flat_heights" ++ ".<locals>." ++ "<lambda>" : Str) := by
  intro y hy e
  simp only [Tx.fx, List.mem_cons, or_false, List.not_mem_nil] at hy
  rcases hy with rfl | rfl | rfl
  · rfl
  · exact absurd e.symm t.neT__flat_heights_flat
  · exact absurd e.symm t.neT__flat_heights_law
theorem TxOk.inT_flat {P : Program} {x : Tx} (t : TxOk P x) : (x.P_flat, ("flat" ++ ".<locals>." ++ "<lambda>" : Str)) ∈ x.fx.T := by simp [Tx.fx]
theorem TxOk.uniq_flat {P : Program} {x : Tx} (t : TxOk P x) : ∀ y ∈ x.fx.T, y.1 = x.P_flat → y.2 = ("flat" ++ ".<locals>." ++ "<lambda>" : Str) := by
  intro y hy e
  simp only [Tx.fx, List.mem_cons, or_false, List.not_mem_nil] at hy
  rcases hy with rfl | rfl | rfl
  · exact absurd e t.neT__flat_heights_flat
  · rfl
  · exact absurd e.symm t.neT_flat_law
theorem TxOk.inT_law {P : Program} {x : Tx} (t : TxOk P x) : (x.P_law, ("law" ++ ".<locals>." ++ "<lambda>" : Str)) ∈ x.fx.T := by simp [Tx.fx]
theorem TxOk.uniq_law {P : Program} {x : Tx} (t : TxOk P x) : ∀ y ∈ x.fx.T, y.1 = x.P_law → y.2 = ("law" ++ ".<locals>." ++ "<lambda>" : Str) := by
  intro y hy e
  simp only [Tx.fx, List.mem_cons, or_false, List.not_mem_nil] at hy
  rcases hy with rfl | rfl | rfl
  · exact absurd e t.neT__flat_heights_law
  · exact absurd e t.neT_flat_law
  · rfl
def catT_HollowError : String → Bool
  | "BadRows" => true
  | "BadField" => true
  | "BadTarget" => true
  | "BadOrder" => true
  | _ => false
def Tx.cv_HollowError (x : Tx) (u : Value) : Bool := decide (PySem.W.exmOne x.K u (.ref x.C_HollowError) = some true)
theorem TxOk.hcat_HollowError {P : Program} {x : Tx} (t : TxOk P x) : ∀ c C, x.fx.cl c = some C → catT_HollowError c = true → x.cv_HollowError (.ref C) = true := by
  intro c C h1 h2
  unfold catT_HollowError at h2
  split at h2
  · obtain rfl := Option.some.inj h1
    exact decide_eq_true t.ex1_HollowError_BadRows
  · obtain rfl := Option.some.inj h1
    exact decide_eq_true t.ex1_HollowError_BadField
  · obtain rfl := Option.some.inj h1
    exact decide_eq_true t.ex1_HollowError_BadTarget
  · obtain rfl := Option.some.inj h1
    exact decide_eq_true t.ex1_HollowError_BadOrder
  · cases h2
def catT_BadField : String → Bool
  | "BadField" => true
  | _ => false
def Tx.cv_BadField (x : Tx) (u : Value) : Bool := decide (PySem.W.exmOne x.K u (.ref x.C_BadField) = some true)
theorem TxOk.hcat_BadField {P : Program} {x : Tx} (t : TxOk P x) : ∀ c C, x.fx.cl c = some C → catT_BadField c = true → x.cv_BadField (.ref C) = true := by
  intro c C h1 h2
  unfold catT_BadField at h2
  split at h2
  · obtain rfl := Option.some.inj h1
    exact decide_eq_true t.ex1_BadField_BadField
  · cases h2
theorem TxOk.h_sub {P : Program} {x : Tx} (t : TxOk P x) : ∀ (c : String) (d : D) (b : Bool) (C : Addr) (u : Value), x.fx.cl c = some C → clsU x.fx d = some u → subT c d = some b → L2.ExcC x.fx.K C ∧ PySem.W.kitOne x.fx.K (.ref C) u = some b := by
  intro c d b C u h1 h2 h3
  unfold subT at h3
  split at h3
  · obtain rfl := Option.some.inj h1
    obtain rfl := Option.some.inj h2
    obtain rfl := Option.some.inj h3
    exact ⟨t.ec_BadRows, t.ki_BadRows_BadRows⟩
  · obtain rfl := Option.some.inj h1
    obtain rfl := Option.some.inj h2
    obtain rfl := Option.some.inj h3
    exact ⟨t.ec_BadRows, t.ki_BadRows_BadField⟩
  · obtain rfl := Option.some.inj h1
    obtain rfl := Option.some.inj h2
    obtain rfl := Option.some.inj h3
    exact ⟨t.ec_BadRows, t.ki_BadRows_BadFraction⟩
  · obtain rfl := Option.some.inj h1
    obtain rfl := Option.some.inj h2
    obtain rfl := Option.some.inj h3
    exact ⟨t.ec_BadRows, t.ki_BadRows_BadTable⟩
  · obtain rfl := Option.some.inj h1
    obtain rfl := Option.some.inj h2
    obtain rfl := Option.some.inj h3
    exact ⟨t.ec_BadRows, t.ki_BadRows_BadTarget⟩
  · obtain rfl := Option.some.inj h1
    obtain rfl := Option.some.inj h2
    obtain rfl := Option.some.inj h3
    exact ⟨t.ec_BadField, t.ki_BadField_BadRows⟩
  · obtain rfl := Option.some.inj h1
    obtain rfl := Option.some.inj h2
    obtain rfl := Option.some.inj h3
    exact ⟨t.ec_BadField, t.ki_BadField_BadField⟩
  · obtain rfl := Option.some.inj h1
    obtain rfl := Option.some.inj h2
    obtain rfl := Option.some.inj h3
    exact ⟨t.ec_BadField, t.ki_BadField_BadFraction⟩
  · obtain rfl := Option.some.inj h1
    obtain rfl := Option.some.inj h2
    obtain rfl := Option.some.inj h3
    exact ⟨t.ec_BadField, t.ki_BadField_BadTable⟩
  · obtain rfl := Option.some.inj h1
    obtain rfl := Option.some.inj h2
    obtain rfl := Option.some.inj h3
    exact ⟨t.ec_BadField, t.ki_BadField_BadTarget⟩
  · obtain rfl := Option.some.inj h1
    obtain rfl := Option.some.inj h2
    obtain rfl := Option.some.inj h3
    exact ⟨t.ec_BadTarget, t.ki_BadTarget_BadRows⟩
  · obtain rfl := Option.some.inj h1
    obtain rfl := Option.some.inj h2
    obtain rfl := Option.some.inj h3
    exact ⟨t.ec_BadTarget, t.ki_BadTarget_BadField⟩
  · obtain rfl := Option.some.inj h1
    obtain rfl := Option.some.inj h2
    obtain rfl := Option.some.inj h3
    exact ⟨t.ec_BadTarget, t.ki_BadTarget_BadFraction⟩
  · obtain rfl := Option.some.inj h1
    obtain rfl := Option.some.inj h2
    obtain rfl := Option.some.inj h3
    exact ⟨t.ec_BadTarget, t.ki_BadTarget_BadTable⟩
  · obtain rfl := Option.some.inj h1
    obtain rfl := Option.some.inj h2
    obtain rfl := Option.some.inj h3
    exact ⟨t.ec_BadTarget, t.ki_BadTarget_BadTarget⟩
  · obtain rfl := Option.some.inj h1
    obtain rfl := Option.some.inj h2
    obtain rfl := Option.some.inj h3
    exact ⟨t.ec_BadOrder, t.ki_BadOrder_BadRows⟩
  · obtain rfl := Option.some.inj h1
    obtain rfl := Option.some.inj h2
    obtain rfl := Option.some.inj h3
    exact ⟨t.ec_BadOrder, t.ki_BadOrder_BadField⟩
  · obtain rfl := Option.some.inj h1
    obtain rfl := Option.some.inj h2
    obtain rfl := Option.some.inj h3
    exact ⟨t.ec_BadOrder, t.ki_BadOrder_BadFraction⟩
  · obtain rfl := Option.some.inj h1
    obtain rfl := Option.some.inj h2
    obtain rfl := Option.some.inj h3
    exact ⟨t.ec_BadOrder, t.ki_BadOrder_BadTable⟩
  · obtain rfl := Option.some.inj h1
    obtain rfl := Option.some.inj h2
    obtain rfl := Option.some.inj h3
    exact ⟨t.ec_BadOrder, t.ki_BadOrder_BadTarget⟩
  · cases h3
theorem TxOk.sub_cls {P : Program} {x : Tx} (t : TxOk P x) : ∀ (c : String) (d : D) (b : Bool), subT c d = some b → ∃ u, clsU x.fx d = some u := by
  intro c d b h3
  unfold subT at h3
  split at h3
  · exact ⟨_, rfl⟩
  · exact ⟨_, rfl⟩
  · exact ⟨_, rfl⟩
  · exact ⟨_, rfl⟩
  · exact ⟨_, rfl⟩
  · exact ⟨_, rfl⟩
  · exact ⟨_, rfl⟩
  · exact ⟨_, rfl⟩
  · exact ⟨_, rfl⟩
  · exact ⟨_, rfl⟩
  · exact ⟨_, rfl⟩
  · exact ⟨_, rfl⟩
  · exact ⟨_, rfl⟩
  · exact ⟨_, rfl⟩
  · exact ⟨_, rfl⟩
  · exact ⟨_, rfl⟩
  · exact ⟨_, rfl⟩
  · exact ⟨_, rfl⟩
  · exact ⟨_, rfl⟩
  · exact ⟨_, rfl⟩
  · cases h3
end K63
namespace K63
open PySem L2 DL PyProof.Rows
def clsBody : Stmt → (List Stmt)
  | .ClassDef _ _ _ b _ _ _ _ _ _ _ => b
  | _ => []
def methS (i j : Nat) : Stmt := (clsBody (topS i)).getD j (.Pass ⟨0, 0, 0, 0⟩)
def fz0 : List (PySem.W.Frag → Bool) := [gloZ "_law_cell", defZ "_law_cell", gloZ "_law_low", defZ "_law_low", gloZ "_law_entries", defZ "_law_entries", gloZ "_law_bent", defZ "_law_bent", gloZ "_law_flat", defZ "_law_flat", gloZ "_law_most", defZ "_law_most", gloZ "is_whole", defZ "is_whole", gloZ "frame", defZ "frame", gloZ "_law_frame_right", defZ "_law_frame_right", gloZ "_law_is_refused", defZ "_law_is_refused", gloZ "_law_square", defZ "_law_square", gloZ "_law_framed", defZ "_law_framed"]
def fz1 : List (PySem.W.Frag → Bool) := [gloZ "is_rim_low", defZ "is_rim_low", gloZ "are_height_rows", defZ "are_height_rows", gloZ "_wrong_or_steps", defZ "_wrong_or_steps", gloZ "is_side_long", defZ "is_side_long", gloZ "are_steps_beside", defZ "are_steps_beside", gloZ "wrong_with_heights", defZ "wrong_with_heights", gloZ "is_tuple_of", defZ "is_tuple_of", gloZ "are_worth_rows", defZ "are_worth_rows", gloZ "sides", defZ "sides", gloZ "need_field", defZ "need_field", gloZ "is_field", defZ "is_field", gloZ "is_flat_rows", defZ "is_flat_rows"]
def fz2 : List (PySem.W.Frag → Bool) := [gloZ "need_flat", defZ "need_flat", gloZ "need_target_on", defZ "need_target_on", gloZ "need_square", defZ "need_square", gloZ "at", defZ "at", gloZ "_worths_at", defZ "_worths_at", gloZ "square_of", defZ "square_of", gloZ "square_worths", defZ "square_worths", gloZ "_is_row", defZ "_is_row", gloZ "need_rows", defZ "need_rows", gloZ "need_no_nought", defZ "need_no_nought", gloZ "need_number", defZ "need_number", gloZ "rows_by", defZ "rows_by"]
def fz3 : List (PySem.W.Frag → Bool) := [gloZ "_flat_heights", defZ "_flat_heights", gloZ "flat", defZ "flat", gloZ "field_by", defZ "field_by", gloZ "law", defZ "law", freeZ "abs", freeZ "enumerate", bltZ "gcd" "math.gcd", freeZ "int", freeZ "isinstance", freeZ "len", freeZ "list", freeZ "max", freeZ "min", freeZ "range", freeZ "repr", freeZ "tuple", freeZ "type", freeZ "zip", gloZ "HollowError", gloZ "BadField"]
def fz4 : List (PySem.W.Frag → Bool) := [gloZ "BadFraction", gloZ "BadTarget", gloZ "BadOrder", gloZ "BadTable", gloZ "BadRows", intZ "MOST_FRAME" (6), intZ "MOST_RIM" (35), intZ "MOST_SIDE" (11), freeZ "super", codZ "_flat_heights", codZ "flat", codZ "law", neZ "_flat_heights" "flat", neZ "_flat_heights" "law", neZ "flat" "law", exc0Z "BadRows" [.type "ValueError", .type "Exception", .type "BaseException", .type "object"] "ValueError.__new__", excZ "BadRows", kitZ "BadRows" (fun K => .ref (He.ga K "BadRows")) true, kitZ "BadRows" (fun K => .ref (He.ga K "BadField")) false, kitZ "BadRows" (fun K => .ref (He.ga K "BadFraction")) false, kitZ "BadRows" (fun K => .ref (He.ga K "BadTable")) false, kitZ "BadRows" (fun K => .ref (He.ga K "BadTarget")) false, exmOZ "BadRows" "HollowError", iniZ "BadField" "place" "ValueError" "ValueError.__new__" "ValueError.__init__" [.type "ValueError", .type "Exception", .type "BaseException", .type "object"] "/claim/cut.py" "BadField.__init__" true]
def fz5 : List (PySem.W.Frag → Bool) := [excZ "BadField", kitZ "BadField" (fun K => .ref (He.ga K "BadRows")) false, kitZ "BadField" (fun K => .ref (He.ga K "BadField")) true, kitZ "BadField" (fun K => .ref (He.ga K "BadFraction")) false, kitZ "BadField" (fun K => .ref (He.ga K "BadTable")) false, kitZ "BadField" (fun K => .ref (He.ga K "BadTarget")) false, exmOZ "BadField" "HollowError", exmOZ "BadField" "BadField", exc0Z "BadTarget" [.type "ValueError", .type "Exception", .type "BaseException", .type "object"] "ValueError.__new__", excZ "BadTarget", kitZ "BadTarget" (fun K => .ref (He.ga K "BadRows")) false, kitZ "BadTarget" (fun K => .ref (He.ga K "BadField")) false, kitZ "BadTarget" (fun K => .ref (He.ga K "BadFraction")) false, kitZ "BadTarget" (fun K => .ref (He.ga K "BadTable")) false, kitZ "BadTarget" (fun K => .ref (He.ga K "BadTarget")) true, exmOZ "BadTarget" "HollowError", exc0Z "BadOrder" [.type "ValueError", .type "Exception", .type "BaseException", .type "object"] "ValueError.__new__", excZ "BadOrder", kitZ "BadOrder" (fun K => .ref (He.ga K "BadRows")) false, kitZ "BadOrder" (fun K => .ref (He.ga K "BadField")) false, kitZ "BadOrder" (fun K => .ref (He.ga K "BadFraction")) false, kitZ "BadOrder" (fun K => .ref (He.ga K "BadTable")) false, kitZ "BadOrder" (fun K => .ref (He.ga K "BadTarget")) false, exmOZ "BadOrder" "HollowError"]
def fz : FzL := [fz0, fz1, fz2, fz3, fz4, fz5]
def mz0 : MzL := [fun K => fnM K (He.ga K "_law_cell"), fun K => fnM K (He.ga K "_law_low"), fun K => fnM K (He.ga K "_law_entries"), fun K => fnM K (He.ga K "_law_bent"), fun K => fnM K (He.ga K "_law_flat"), fun K => fnM K (He.ga K "_law_most"), fun K => fnM K (He.ga K "is_whole"), fun K => fnM K (He.ga K "frame"), fun K => fnM K (He.ga K "_law_frame_right"), fun K => fnM K (He.ga K "_law_is_refused"), fun K => fnM K (He.ga K "_law_square"), fun K => fnM K (He.ga K "_law_framed"), fun K => fnM K (He.ga K "is_rim_low"), fun K => fnM K (He.ga K "are_height_rows"), fun K => fnM K (He.ga K "_wrong_or_steps"), fun K => fnM K (He.ga K "is_side_long"), fun K => fnM K (He.ga K "are_steps_beside"), fun K => fnM K (He.ga K "wrong_with_heights"), fun K => fnM K (He.ga K "is_tuple_of"), fun K => fnM K (He.ga K "are_worth_rows"), fun K => fnM K (He.ga K "sides"), fun K => fnM K (He.ga K "need_field"), fun K => fnM K (He.ga K "is_field"), fun K => fnM K (He.ga K "is_flat_rows")]
def vz0 : List FnM := [some ("_law_cell", "_law_cell", defArgs s__law_cell, .stmts (defBody s__law_cell), defScope s__law_cell, mainGlobals, [], builtinsNs), some ("_law_low", "_law_low", defArgs s__law_low, .stmts (defBody s__law_low), defScope s__law_low, mainGlobals, [], builtinsNs), some ("_law_entries", "_law_entries", defArgs s__law_entries, .stmts (defBody s__law_entries), defScope s__law_entries, mainGlobals, [], builtinsNs), some ("_law_bent", "_law_bent", defArgs s__law_bent, .stmts (defBody s__law_bent), defScope s__law_bent, mainGlobals, [], builtinsNs), some ("_law_flat", "_law_flat", defArgs s__law_flat, .stmts (defBody s__law_flat), defScope s__law_flat, mainGlobals, [], builtinsNs), some ("_law_most", "_law_most", defArgs s__law_most, .stmts (defBody s__law_most), defScope s__law_most, mainGlobals, [], builtinsNs), some ("is_whole", "is_whole", defArgs s_is_whole, .stmts (defBody s_is_whole), defScope s_is_whole, mainGlobals, [], builtinsNs), some ("frame", "frame", defArgs s_frame, .stmts (defBody s_frame), defScope s_frame, mainGlobals, [], builtinsNs), some ("_law_frame_right", "_law_frame_right", defArgs s__law_frame_right, .stmts (defBody s__law_frame_right), defScope s__law_frame_right, mainGlobals, [], builtinsNs), some ("_law_is_refused", "_law_is_refused", defArgs s__law_is_refused, .stmts (defBody s__law_is_refused), defScope s__law_is_refused, mainGlobals, [], builtinsNs), some ("_law_square", "_law_square", defArgs s__law_square, .stmts (defBody s__law_square), defScope s__law_square, mainGlobals, [], builtinsNs), some ("_law_framed", "_law_framed", defArgs s__law_framed, .stmts (defBody s__law_framed), defScope s__law_framed, mainGlobals, [], builtinsNs), some ("is_rim_low", "is_rim_low", defArgs s_is_rim_low, .stmts (defBody s_is_rim_low), defScope s_is_rim_low, mainGlobals, [], builtinsNs), some ("are_height_rows", "are_height_rows", defArgs s_are_height_rows, .stmts (defBody s_are_height_rows), defScope s_are_height_rows, mainGlobals, [], builtinsNs), some ("_wrong_or_steps", "_wrong_or_steps", defArgs s__wrong_or_steps, .stmts (defBody s__wrong_or_steps), defScope s__wrong_or_steps, mainGlobals, [], builtinsNs), some ("is_side_long", "is_side_long", defArgs s_is_side_long, .stmts (defBody s_is_side_long), defScope s_is_side_long, mainGlobals, [], builtinsNs), some ("are_steps_beside", "are_steps_beside", defArgs s_are_steps_beside, .stmts (defBody s_are_steps_beside), defScope s_are_steps_beside, mainGlobals, [], builtinsNs), some ("wrong_with_heights", "wrong_with_heights", defArgs s_wrong_with_heights, .stmts (defBody s_wrong_with_heights), defScope s_wrong_with_heights, mainGlobals, [], builtinsNs), some ("is_tuple_of", "is_tuple_of", defArgs s_is_tuple_of, .stmts (defBody s_is_tuple_of), defScope s_is_tuple_of, mainGlobals, [], builtinsNs), some ("are_worth_rows", "are_worth_rows", defArgs s_are_worth_rows, .stmts (defBody s_are_worth_rows), defScope s_are_worth_rows, mainGlobals, [], builtinsNs), some ("sides", "sides", defArgs s_sides, .stmts (defBody s_sides), defScope s_sides, mainGlobals, [], builtinsNs), some ("need_field", "need_field", defArgs s_need_field, .stmts (defBody s_need_field), defScope s_need_field, mainGlobals, [], builtinsNs), some ("is_field", "is_field", defArgs s_is_field, .stmts (defBody s_is_field), defScope s_is_field, mainGlobals, [], builtinsNs), some ("is_flat_rows", "is_flat_rows", defArgs s_is_flat_rows, .stmts (defBody s_is_flat_rows), defScope s_is_flat_rows, mainGlobals, [], builtinsNs)]
def mz1 : MzL := [fun K => fnM K (He.ga K "need_flat"), fun K => fnM K (He.ga K "need_target_on"), fun K => fnM K (He.ga K "need_square"), fun K => fnM K (He.ga K "at"), fun K => fnM K (He.ga K "_worths_at"), fun K => fnM K (He.ga K "square_of"), fun K => fnM K (He.ga K "square_worths"), fun K => fnM K (He.ga K "_is_row"), fun K => fnM K (He.ga K "need_rows"), fun K => fnM K (He.ga K "need_no_nought"), fun K => fnM K (He.ga K "need_number"), fun K => fnM K (He.ga K "rows_by"), fun K => fnM K (He.ga K "_flat_heights"), fun K => fnM K (He.ga K "flat"), fun K => fnM K (He.ga K "field_by"), fun K => fnM K (He.ga K "law"), fun K => fnM K (iA K "BadField")]
def vz1 : List FnM := [some ("need_flat", "need_flat", defArgs s_need_flat, .stmts (defBody s_need_flat), defScope s_need_flat, mainGlobals, [], builtinsNs), some ("need_target_on", "need_target_on", defArgs s_need_target_on, .stmts (defBody s_need_target_on), defScope s_need_target_on, mainGlobals, [], builtinsNs), some ("need_square", "need_square", defArgs s_need_square, .stmts (defBody s_need_square), defScope s_need_square, mainGlobals, [], builtinsNs), some ("at", "at", defArgs s_at, .stmts (defBody s_at), defScope s_at, mainGlobals, [], builtinsNs), some ("_worths_at", "_worths_at", defArgs s__worths_at, .stmts (defBody s__worths_at), defScope s__worths_at, mainGlobals, [], builtinsNs), some ("square_of", "square_of", defArgs s_square_of, .stmts (defBody s_square_of), defScope s_square_of, mainGlobals, [], builtinsNs), some ("square_worths", "square_worths", defArgs s_square_worths, .stmts (defBody s_square_worths), defScope s_square_worths, mainGlobals, [], builtinsNs), some ("_is_row", "_is_row", defArgs s__is_row, .stmts (defBody s__is_row), defScope s__is_row, mainGlobals, [], builtinsNs), some ("need_rows", "need_rows", defArgs s_need_rows, .stmts (defBody s_need_rows), defScope s_need_rows, mainGlobals, [], builtinsNs), some ("need_no_nought", "need_no_nought", defArgs s_need_no_nought, .stmts (defBody s_need_no_nought), defScope s_need_no_nought, mainGlobals, [], builtinsNs), some ("need_number", "need_number", defArgs s_need_number, .stmts (defBody s_need_number), defScope s_need_number, mainGlobals, [], builtinsNs), some ("rows_by", "rows_by", defArgs s_rows_by, .stmts (defBody s_rows_by), defScope s_rows_by, mainGlobals, [], builtinsNs), some ("_flat_heights", "_flat_heights", defArgs s__flat_heights, .stmts (defBody s__flat_heights), defScope s__flat_heights, mainGlobals, [], builtinsNs), some ("flat", "flat", defArgs s_flat, .stmts (defBody s_flat), defScope s_flat, mainGlobals, [], builtinsNs), some ("field_by", "field_by", defArgs s_field_by, .stmts (defBody s_field_by), defScope s_field_by, mainGlobals, [], builtinsNs), some ("law", "law", defArgs s_law, .stmts (defBody s_law), defScope s_law, mainGlobals, [], builtinsNs), some ("__init__", "BadField.__init__", defArgs (methS 3 0), .stmts (defBody (methS 3 0)), iniS "place", mainGlobals, ["__class__"], builtinsNs)]
def mz : MzL := mz0 ++ (mz1)
def vz : List FnM := vz0 ++ (vz1)
noncomputable def txOf (K : PySem.W.Frag) (mg : Str → Option Value) : Tx := { K := K, mg := mg, a__law_cell := He.ga K "_law_cell", fd__law_cell := fdOf K (He.ga K "_law_cell"), a__law_low := He.ga K "_law_low", fd__law_low := fdOf K (He.ga K "_law_low"), a__law_entries := He.ga K "_law_entries", fd__law_entries := fdOf K (He.ga K "_law_entries"), a__law_bent := He.ga K "_law_bent", fd__law_bent := fdOf K (He.ga K "_law_bent"), a__law_flat := He.ga K "_law_flat", fd__law_flat := fdOf K (He.ga K "_law_flat"), a__law_most := He.ga K "_law_most", fd__law_most := fdOf K (He.ga K "_law_most"), a_is_whole := He.ga K "is_whole", fd_is_whole := fdOf K (He.ga K "is_whole"), a_frame := He.ga K "frame", fd_frame := fdOf K (He.ga K "frame"), a__law_frame_right := He.ga K "_law_frame_right", fd__law_frame_right := fdOf K (He.ga K "_law_frame_right"), a__law_is_refused := He.ga K "_law_is_refused", fd__law_is_refused := fdOf K (He.ga K "_law_is_refused"), a__law_square := He.ga K "_law_square", fd__law_square := fdOf K (He.ga K "_law_square"), a__law_framed := He.ga K "_law_framed", fd__law_framed := fdOf K (He.ga K "_law_framed"), a_is_rim_low := He.ga K "is_rim_low", fd_is_rim_low := fdOf K (He.ga K "is_rim_low"), a_are_height_rows := He.ga K "are_height_rows", fd_are_height_rows := fdOf K (He.ga K "are_height_rows"), a__wrong_or_steps := He.ga K "_wrong_or_steps", fd__wrong_or_steps := fdOf K (He.ga K "_wrong_or_steps"), a_is_side_long := He.ga K "is_side_long", fd_is_side_long := fdOf K (He.ga K "is_side_long"), a_are_steps_beside := He.ga K "are_steps_beside", fd_are_steps_beside := fdOf K (He.ga K "are_steps_beside"), a_wrong_with_heights := He.ga K "wrong_with_heights", fd_wrong_with_heights := fdOf K (He.ga K "wrong_with_heights"), a_is_tuple_of := He.ga K "is_tuple_of", fd_is_tuple_of := fdOf K (He.ga K "is_tuple_of"), a_are_worth_rows := He.ga K "are_worth_rows", fd_are_worth_rows := fdOf K (He.ga K "are_worth_rows"), a_sides := He.ga K "sides", fd_sides := fdOf K (He.ga K "sides"), a_need_field := He.ga K "need_field", fd_need_field := fdOf K (He.ga K "need_field"), a_is_field := He.ga K "is_field", fd_is_field := fdOf K (He.ga K "is_field"), a_is_flat_rows := He.ga K "is_flat_rows", fd_is_flat_rows := fdOf K (He.ga K "is_flat_rows"), a_need_flat := He.ga K "need_flat", fd_need_flat := fdOf K (He.ga K "need_flat"), a_need_target_on := He.ga K "need_target_on", fd_need_target_on := fdOf K (He.ga K "need_target_on"), a_need_square := He.ga K "need_square", fd_need_square := fdOf K (He.ga K "need_square"), a_at := He.ga K "at", fd_at := fdOf K (He.ga K "at"), a__worths_at := He.ga K "_worths_at", fd__worths_at := fdOf K (He.ga K "_worths_at"), a_square_of := He.ga K "square_of", fd_square_of := fdOf K (He.ga K "square_of"), a_square_worths := He.ga K "square_worths", fd_square_worths := fdOf K (He.ga K "square_worths"), a__is_row := He.ga K "_is_row", fd__is_row := fdOf K (He.ga K "_is_row"), a_need_rows := He.ga K "need_rows", fd_need_rows := fdOf K (He.ga K "need_rows"), a_need_no_nought := He.ga K "need_no_nought", fd_need_no_nought := fdOf K (He.ga K "need_no_nought"), a_need_number := He.ga K "need_number", fd_need_number := fdOf K (He.ga K "need_number"), a_rows_by := He.ga K "rows_by", fd_rows_by := fdOf K (He.ga K "rows_by"), a__flat_heights := He.ga K "_flat_heights", fd__flat_heights := fdOf K (He.ga K "_flat_heights"), a_flat := He.ga K "flat", fd_flat := fdOf K (He.ga K "flat"), a_field_by := He.ga K "field_by", fd_field_by := fdOf K (He.ga K "field_by"), a_law := He.ga K "law", fd_law := fdOf K (He.ga K "law"), C_HollowError := He.ga K "HollowError", C_BadField := He.ga K "BadField", C_BadFraction := He.ga K "BadFraction", C_BadTarget := He.ga K "BadTarget", C_BadOrder := He.ga K "BadOrder", C_BadTable := He.ga K "BadTable", C_BadRows := He.ga K "BadRows", I_BadField := iA K "BadField", I_BadTable := default, c__flat_heights := cOf K "_flat_heights", P__flat_heights := tOf K "_flat_heights", c_flat := cOf K "flat", P_flat := tOf K "flat", c_law := cOf K "law", P_law := tOf K "law" }
section
variable {P : Program} {K : PySem.W.Frag} {h : Heap} {mg : Str → Option Value} (hP : ((P.main.file : Str) == ("/claim/cut.py" : Str)) = true) (hS : (P.main.scope.names.lookup ("super" : Str)).isSome = false) (X : K.In h) (G : h.Ns mainGlobals mg) (c : SaysZ fz mz vz K)
include c
theorem F__law_cell : Fun K "_law_cell" "_law_cell" s__law_cell (He.ga K "_law_cell") (fdOf K (He.ga K "_law_cell")) := fun_z (c.fn 0) (c.fact 0 1)
theorem b__law_cell : Binds K (fdOf K (He.ga K "_law_cell")) ["cells", "spot"] [] := (F__law_cell c).binds fun _ _ _ _ _ _ us hl => match us, hl with | [_, _], _ => rfl
theorem F__law_low : Fun K "_law_low" "_law_low" s__law_low (He.ga K "_law_low") (fdOf K (He.ga K "_law_low")) := fun_z (c.fn 1) (c.fact 0 3)
theorem b__law_low : Binds K (fdOf K (He.ga K "_law_low")) ["above", "below"] [] := (F__law_low c).binds fun _ _ _ _ _ _ us hl => match us, hl with | [_, _], _ => rfl
theorem F__law_entries : Fun K "_law_entries" "_law_entries" s__law_entries (He.ga K "_law_entries") (fdOf K (He.ga K "_law_entries")) := fun_z (c.fn 2) (c.fact 0 5)
theorem b__law_entries : Binds K (fdOf K (He.ga K "_law_entries")) ["cells", "spot", "length", "sort"] [] := (F__law_entries c).binds fun _ _ _ _ _ _ us hl => match us, hl with | [_, _, _, _], _ => rfl
theorem F__law_bent : Fun K "_law_bent" "_law_bent" s__law_bent (He.ga K "_law_bent") (fdOf K (He.ga K "_law_bent")) := fun_z (c.fn 3) (c.fact 0 7)
theorem b__law_bent : Binds K (fdOf K (He.ga K "_law_bent")) ["grid", "n"] [] := (F__law_bent c).binds fun _ _ _ _ _ _ us hl => match us, hl with | [_, _], _ => rfl
theorem F__law_flat : Fun K "_law_flat" "_law_flat" s__law_flat (He.ga K "_law_flat") (fdOf K (He.ga K "_law_flat")) := fun_z (c.fn 4) (c.fact 0 9)
theorem b__law_flat : Binds K (fdOf K (He.ga K "_law_flat")) ["wide", "high"] [] := (F__law_flat c).binds fun _ _ _ _ _ _ us hl => match us, hl with | [_, _], _ => rfl
theorem F__law_most : Fun K "_law_most" "_law_most" s__law_most (He.ga K "_law_most") (fdOf K (He.ga K "_law_most")) := fun_z (c.fn 5) (c.fact 0 11)
theorem b__law_most : Binds K (fdOf K (He.ga K "_law_most")) ["heights", "x", "y"] [] := (F__law_most c).binds fun _ _ _ _ _ _ us hl => match us, hl with | [_, _, _], _ => rfl
theorem F_is_whole : Fun K "is_whole" "is_whole" s_is_whole (He.ga K "is_whole") (fdOf K (He.ga K "is_whole")) := fun_z (c.fn 6) (c.fact 0 13)
theorem b_is_whole : Binds K (fdOf K (He.ga K "is_whole")) ["thing"] [] := (F_is_whole c).binds fun _ _ _ _ _ _ us hl => match us, hl with | [_], _ => rfl
theorem F_frame : Fun K "frame" "frame" s_frame (He.ga K "frame") (fdOf K (He.ga K "frame")) := fun_z (c.fn 7) (c.fact 0 15)
theorem b_frame : Binds K (fdOf K (He.ga K "frame")) ["size"] [] := (F_frame c).binds fun _ _ _ _ _ _ us hl => match us, hl with | [_], _ => rfl
theorem kwb_frame_0 : KwB K (fdOf K (He.ga K "frame")) ["size"] 0 ["size"] [0] := kwB_z (F_frame c) fun _ _ _ _ _ _ us ws h1 h2 => match us, ws, h1, h2 with | [], [_], _, _ => rfl
theorem F__law_frame_right : Fun K "_law_frame_right" "_law_frame_right" s__law_frame_right (He.ga K "_law_frame_right") (fdOf K (He.ga K "_law_frame_right")) := fun_z (c.fn 8) (c.fact 0 17)
theorem b__law_frame_right : Binds K (fdOf K (He.ga K "_law_frame_right")) ["length"] [] := (F__law_frame_right c).binds fun _ _ _ _ _ _ us hl => match us, hl with | [_], _ => rfl
theorem F__law_is_refused : Fun K "_law_is_refused" "_law_is_refused" s__law_is_refused (He.ga K "_law_is_refused") (fdOf K (He.ga K "_law_is_refused")) := fun_z (c.fn 9) (c.fact 0 19)
theorem b__law_is_refused : Binds K (fdOf K (He.ga K "_law_is_refused")) ["call"] [] := (F__law_is_refused c).binds fun _ _ _ _ _ _ us hl => match us, hl with | [_], _ => rfl
theorem F__law_square : Fun K "_law_square" "_law_square" s__law_square (He.ga K "_law_square") (fdOf K (He.ga K "_law_square")) := fun_z (c.fn 10) (c.fact 0 21)
theorem b__law_square : Binds K (fdOf K (He.ga K "_law_square")) ["target", "off"] [] := (F__law_square c).binds fun _ _ _ _ _ _ us hl => match us, hl with | [_, _], _ => rfl
theorem F__law_framed : Fun K "_law_framed" "_law_framed" s__law_framed (He.ga K "_law_framed") (fdOf K (He.ga K "_law_framed")) := fun_z (c.fn 11) (c.fact 0 23)
theorem b__law_framed : Binds K (fdOf K (He.ga K "_law_framed")) ["grid"] [] := (F__law_framed c).binds fun _ _ _ _ _ _ us hl => match us, hl with | [_], _ => rfl
theorem F_is_rim_low : Fun K "is_rim_low" "is_rim_low" s_is_rim_low (He.ga K "is_rim_low") (fdOf K (He.ga K "is_rim_low")) := fun_z (c.fn 12) (c.fact 1 1)
theorem b_is_rim_low : Binds K (fdOf K (He.ga K "is_rim_low")) ["rows"] [] := (F_is_rim_low c).binds fun _ _ _ _ _ _ us hl => match us, hl with | [_], _ => rfl
theorem F_are_height_rows : Fun K "are_height_rows" "are_height_rows" s_are_height_rows (He.ga K "are_height_rows") (fdOf K (He.ga K "are_height_rows")) := fun_z (c.fn 13) (c.fact 1 3)
theorem b_are_height_rows : Binds K (fdOf K (He.ga K "are_height_rows")) ["thing"] [] := (F_are_height_rows c).binds fun _ _ _ _ _ _ us hl => match us, hl with | [_], _ => rfl
theorem F__wrong_or_steps : Fun K "_wrong_or_steps" "_wrong_or_steps" s__wrong_or_steps (He.ga K "_wrong_or_steps") (fdOf K (He.ga K "_wrong_or_steps")) := fun_z (c.fn 14) (c.fact 1 5)
theorem b__wrong_or_steps : Binds K (fdOf K (He.ga K "_wrong_or_steps")) ["thing"] [] := (F__wrong_or_steps c).binds fun _ _ _ _ _ _ us hl => match us, hl with | [_], _ => rfl
theorem F_is_side_long : Fun K "is_side_long" "is_side_long" s_is_side_long (He.ga K "is_side_long") (fdOf K (He.ga K "is_side_long")) := fun_z (c.fn 15) (c.fact 1 7)
theorem b_is_side_long : Binds K (fdOf K (He.ga K "is_side_long")) ["thing"] [] := (F_is_side_long c).binds fun _ _ _ _ _ _ us hl => match us, hl with | [_], _ => rfl
theorem F_are_steps_beside : Fun K "are_steps_beside" "are_steps_beside" s_are_steps_beside (He.ga K "are_steps_beside") (fdOf K (He.ga K "are_steps_beside")) := fun_z (c.fn 16) (c.fact 1 9)
theorem b_are_steps_beside : Binds K (fdOf K (He.ga K "are_steps_beside")) ["row"] [] := (F_are_steps_beside c).binds fun _ _ _ _ _ _ us hl => match us, hl with | [_], _ => rfl
theorem F_wrong_with_heights : Fun K "wrong_with_heights" "wrong_with_heights" s_wrong_with_heights (He.ga K "wrong_with_heights") (fdOf K (He.ga K "wrong_with_heights")) := fun_z (c.fn 17) (c.fact 1 11)
theorem b_wrong_with_heights : Binds K (fdOf K (He.ga K "wrong_with_heights")) ["thing"] [] := (F_wrong_with_heights c).binds fun _ _ _ _ _ _ us hl => match us, hl with | [_], _ => rfl
theorem F_is_tuple_of : Fun K "is_tuple_of" "is_tuple_of" s_is_tuple_of (He.ga K "is_tuple_of") (fdOf K (He.ga K "is_tuple_of")) := fun_z (c.fn 18) (c.fact 1 13)
theorem b_is_tuple_of : Binds K (fdOf K (He.ga K "is_tuple_of")) ["thing", "many"] [] := (F_is_tuple_of c).binds fun _ _ _ _ _ _ us hl => match us, hl with | [_, _], _ => rfl
theorem F_are_worth_rows : Fun K "are_worth_rows" "are_worth_rows" s_are_worth_rows (He.ga K "are_worth_rows") (fdOf K (He.ga K "are_worth_rows")) := fun_z (c.fn 19) (c.fact 1 15)
theorem b_are_worth_rows : Binds K (fdOf K (He.ga K "are_worth_rows")) ["thing", "size"] [] := (F_are_worth_rows c).binds fun _ _ _ _ _ _ us hl => match us, hl with | [_, _], _ => rfl
theorem F_sides : Fun K "sides" "sides" s_sides (He.ga K "sides") (fdOf K (He.ga K "sides")) := fun_z (c.fn 20) (c.fact 1 17)
theorem b_sides : Binds K (fdOf K (He.ga K "sides")) ["rows"] [] := (F_sides c).binds fun _ _ _ _ _ _ us hl => match us, hl with | [_], _ => rfl
theorem F_need_field : Fun K "need_field" "need_field" s_need_field (He.ga K "need_field") (fdOf K (He.ga K "need_field")) := fun_z (c.fn 21) (c.fact 1 19)
theorem b_need_field : Binds K (fdOf K (He.ga K "need_field")) ["thing"] [] := (F_need_field c).binds fun _ _ _ _ _ _ us hl => match us, hl with | [_], _ => rfl
theorem F_is_field : Fun K "is_field" "is_field" s_is_field (He.ga K "is_field") (fdOf K (He.ga K "is_field")) := fun_z (c.fn 22) (c.fact 1 21)
theorem b_is_field : Binds K (fdOf K (He.ga K "is_field")) ["thing"] [] := (F_is_field c).binds fun _ _ _ _ _ _ us hl => match us, hl with | [_], _ => rfl
theorem F_is_flat_rows : Fun K "is_flat_rows" "is_flat_rows" s_is_flat_rows (He.ga K "is_flat_rows") (fdOf K (He.ga K "is_flat_rows")) := fun_z (c.fn 23) (c.fact 1 23)
theorem b_is_flat_rows : Binds K (fdOf K (He.ga K "is_flat_rows")) ["heights"] [] := (F_is_flat_rows c).binds fun _ _ _ _ _ _ us hl => match us, hl with | [_], _ => rfl
theorem F_need_flat : Fun K "need_flat" "need_flat" s_need_flat (He.ga K "need_flat") (fdOf K (He.ga K "need_flat")) := fun_z (c.fn 24) (c.fact 2 1)
theorem b_need_flat : Binds K (fdOf K (He.ga K "need_flat")) ["field"] [] := (F_need_flat c).binds fun _ _ _ _ _ _ us hl => match us, hl with | [_], _ => rfl
theorem F_need_target_on : Fun K "need_target_on" "need_target_on" s_need_target_on (He.ga K "need_target_on") (fdOf K (He.ga K "need_target_on")) := fun_z (c.fn 25) (c.fact 2 3)
theorem b_need_target_on : Binds K (fdOf K (He.ga K "need_target_on")) ["heights", "thing"] [] := (F_need_target_on c).binds fun _ _ _ _ _ _ us hl => match us, hl with | [_, _], _ => rfl
theorem F_need_square : Fun K "need_square" "need_square" s_need_square (He.ga K "need_square") (fdOf K (He.ga K "need_square")) := fun_z (c.fn 26) (c.fact 2 5)
theorem b_need_square : Binds K (fdOf K (He.ga K "need_square")) ["field", "target"] [] := (F_need_square c).binds fun _ _ _ _ _ _ us hl => match us, hl with | [_, _], _ => rfl
theorem F_at : Fun K "at" "at" s_at (He.ga K "at") (fdOf K (He.ga K "at")) := fun_z (c.fn 27) (c.fact 2 7)
theorem b_at : Binds K (fdOf K (He.ga K "at")) ["rows", "spot"] [] := (F_at c).binds fun _ _ _ _ _ _ us hl => match us, hl with | [_, _], _ => rfl
theorem F__worths_at : Fun K "_worths_at" "_worths_at" s__worths_at (He.ga K "_worths_at") (fdOf K (He.ga K "_worths_at")) := fun_z (c.fn 28) (c.fact 2 9)
theorem b__worths_at : Binds K (fdOf K (He.ga K "_worths_at")) ["field", "spots"] [] := (F__worths_at c).binds fun _ _ _ _ _ _ us hl => match us, hl with | [_, _], _ => rfl
theorem F_square_of : Fun K "square_of" "square_of" s_square_of (He.ga K "square_of") (fdOf K (He.ga K "square_of")) := fun_z (c.fn 29) (c.fact 2 11)
theorem b_square_of : Binds K (fdOf K (He.ga K "square_of")) ["target"] [] := (F_square_of c).binds fun _ _ _ _ _ _ us hl => match us, hl with | [_], _ => rfl
theorem F_square_worths : Fun K "square_worths" "square_worths" s_square_worths (He.ga K "square_worths") (fdOf K (He.ga K "square_worths")) := fun_z (c.fn 30) (c.fact 2 13)
theorem b_square_worths : Binds K (fdOf K (He.ga K "square_worths")) ["field", "target"] [] := (F_square_worths c).binds fun _ _ _ _ _ _ us hl => match us, hl with | [_, _], _ => rfl
theorem F__is_row : Fun K "_is_row" "_is_row" s__is_row (He.ga K "_is_row") (fdOf K (He.ga K "_is_row")) := fun_z (c.fn 31) (c.fact 2 15)
theorem b__is_row : Binds K (fdOf K (He.ga K "_is_row")) ["thing", "many"] [] := (F__is_row c).binds fun _ _ _ _ _ _ us hl => match us, hl with | [_, _], _ => rfl
theorem F_need_rows : Fun K "need_rows" "need_rows" s_need_rows (He.ga K "need_rows") (fdOf K (He.ga K "need_rows")) := fun_z (c.fn 32) (c.fact 2 17)
theorem b_need_rows : Binds K (fdOf K (He.ga K "need_rows")) ["thing", "least", "most"] [] := (F_need_rows c).binds fun _ _ _ _ _ _ us hl => match us, hl with | [_, _, _], _ => rfl
theorem F_need_no_nought : Fun K "need_no_nought" "need_no_nought" s_need_no_nought (He.ga K "need_no_nought") (fdOf K (He.ga K "need_no_nought")) := fun_z (c.fn 33) (c.fact 2 19)
theorem b_need_no_nought : Binds K (fdOf K (He.ga K "need_no_nought")) ["rows"] [] := (F_need_no_nought c).binds fun _ _ _ _ _ _ us hl => match us, hl with | [_], _ => rfl
theorem F_need_number : Fun K "need_number" "need_number" s_need_number (He.ga K "need_number") (fdOf K (He.ga K "need_number")) := fun_z (c.fn 34) (c.fact 2 21)
theorem b_need_number : Binds K (fdOf K (He.ga K "need_number")) ["thing", "least", "most"] [] := (F_need_number c).binds fun _ _ _ _ _ _ us hl => match us, hl with | [_, _, _], _ => rfl
theorem F_rows_by : Fun K "rows_by" "rows_by" s_rows_by (He.ga K "rows_by") (fdOf K (He.ga K "rows_by")) := fun_z (c.fn 35) (c.fact 2 23)
theorem b_rows_by : Binds K (fdOf K (He.ga K "rows_by")) ["size", "told"] [] := (F_rows_by c).binds fun _ _ _ _ _ _ us hl => match us, hl with | [_, _], _ => rfl
theorem F__flat_heights : Fun K "_flat_heights" "_flat_heights" s__flat_heights (He.ga K "_flat_heights") (fdOf K (He.ga K "_flat_heights")) := fun_z (c.fn 36) (c.fact 3 1)
theorem b__flat_heights : Binds K (fdOf K (He.ga K "_flat_heights")) ["size"] [] := (F__flat_heights c).binds fun _ _ _ _ _ _ us hl => match us, hl with | [_], _ => rfl
theorem F_flat : Fun K "flat" "flat" s_flat (He.ga K "flat") (fdOf K (He.ga K "flat")) := fun_z (c.fn 37) (c.fact 3 3)
theorem b_flat : Binds K (fdOf K (He.ga K "flat")) ["wide", "high"] [] := (F_flat c).binds fun _ _ _ _ _ _ us hl => match us, hl with | [_, _], _ => rfl
theorem F_field_by : Fun K "field_by" "field_by" s_field_by (He.ga K "field_by") (fdOf K (He.ga K "field_by")) := fun_z (c.fn 38) (c.fact 3 5)
theorem b_field_by : Binds K (fdOf K (He.ga K "field_by")) ["rows"] [] := (F_field_by c).binds fun _ _ _ _ _ _ us hl => match us, hl with | [_], _ => rfl
theorem kwb_field_by_0 : KwB K (fdOf K (He.ga K "field_by")) ["rows"] 0 ["rows"] [0] := kwB_z (F_field_by c) fun _ _ _ _ _ _ us ws h1 h2 => match us, ws, h1, h2 with | [], [_], _, _ => rfl
theorem F_law : Fun K "law" "law" s_law (He.ga K "law") (fdOf K (He.ga K "law")) := fun_z (c.fn 39) (c.fact 3 7)
theorem b_law : Binds K (fdOf K (He.ga K "law")) ["script"] [] := (F_law c).binds fun _ _ _ _ _ _ us hl => match us, hl with | [_], _ => rfl
theorem ex_BadRows : ExcF K (He.ga K "BadRows") := excZ_ok (c.fact 4 16)
theorem ex_BadField : ExcF K (He.ga K "BadField") := excZ_ok (c.fact 5 0)
theorem ih_BadField : iniZ "BadField" "place" "ValueError" "ValueError.__new__" "ValueError.__init__" [.type "ValueError", .type "Exception", .type "BaseException", .type "object"] "/claim/cut.py" "BadField.__init__" true K = true := (c.fact 4 23)
include hP hS in
theorem it_BadField : IniTxt P K (He.ga K "BadField") (iA K "BadField") "place" "place" := ini_z eb_VE (c.fn 40) rfl rfl rfl rfl hP hS rfl rfl rfl rfl (ih_BadField c)
theorem bd_BadField : ∀ (s : Shared) (a : Addr) (v : Value) (fd : FuncData), K.In s.heap → (∃ oc od osl, K.lookup (iA K "BadField") = some ⟨oc, od, .func fd, osl⟩) → BindsTo s fd ⟨[.ref a, v], []⟩ [("self", .ref a), ("place", v)] := ini_bD (c.fn 40) (ih_BadField c) fun _ _ _ _ _ _ _ _ _ _ => ⟨_, rfl, rfl⟩
theorem ex_BadTarget : ExcF K (He.ga K "BadTarget") := excZ_ok (c.fact 5 9)
theorem ex_BadOrder : ExcF K (He.ga K "BadOrder") := excZ_ok (c.fact 5 17)
include X G hP hS in
theorem txok : TxOk P (txOf K mg) := { g__law_cell := gloZ_ok X G (c.fact 0 0), F__law_cell := F__law_cell c, b__law_cell := b__law_cell c, g__law_low := gloZ_ok X G (c.fact 0 2), F__law_low := F__law_low c, b__law_low := b__law_low c, g__law_entries := gloZ_ok X G (c.fact 0 4), F__law_entries := F__law_entries c, b__law_entries := b__law_entries c, g__law_bent := gloZ_ok X G (c.fact 0 6), F__law_bent := F__law_bent c, b__law_bent := b__law_bent c, g__law_flat := gloZ_ok X G (c.fact 0 8), F__law_flat := F__law_flat c, b__law_flat := b__law_flat c, g__law_most := gloZ_ok X G (c.fact 0 10), F__law_most := F__law_most c, b__law_most := b__law_most c, g_is_whole := gloZ_ok X G (c.fact 0 12), F_is_whole := F_is_whole c, b_is_whole := b_is_whole c, g_frame := gloZ_ok X G (c.fact 0 14), F_frame := F_frame c, b_frame := b_frame c, kb_frame_0 := kwb_frame_0 c, g__law_frame_right := gloZ_ok X G (c.fact 0 16), F__law_frame_right := F__law_frame_right c, b__law_frame_right := b__law_frame_right c, g__law_is_refused := gloZ_ok X G (c.fact 0 18), F__law_is_refused := F__law_is_refused c, b__law_is_refused := b__law_is_refused c, g__law_square := gloZ_ok X G (c.fact 0 20), F__law_square := F__law_square c, b__law_square := b__law_square c, g__law_framed := gloZ_ok X G (c.fact 0 22), F__law_framed := F__law_framed c, b__law_framed := b__law_framed c, g_is_rim_low := gloZ_ok X G (c.fact 1 0), F_is_rim_low := F_is_rim_low c, b_is_rim_low := b_is_rim_low c, g_are_height_rows := gloZ_ok X G (c.fact 1 2), F_are_height_rows := F_are_height_rows c, b_are_height_rows := b_are_height_rows c, g__wrong_or_steps := gloZ_ok X G (c.fact 1 4), F__wrong_or_steps := F__wrong_or_steps c, b__wrong_or_steps := b__wrong_or_steps c, g_is_side_long := gloZ_ok X G (c.fact 1 6), F_is_side_long := F_is_side_long c, b_is_side_long := b_is_side_long c, g_are_steps_beside := gloZ_ok X G (c.fact 1 8), F_are_steps_beside := F_are_steps_beside c, b_are_steps_beside := b_are_steps_beside c, g_wrong_with_heights := gloZ_ok X G (c.fact 1 10), F_wrong_with_heights := F_wrong_with_heights c, b_wrong_with_heights := b_wrong_with_heights c, g_is_tuple_of := gloZ_ok X G (c.fact 1 12), F_is_tuple_of := F_is_tuple_of c, b_is_tuple_of := b_is_tuple_of c, g_are_worth_rows := gloZ_ok X G (c.fact 1 14), F_are_worth_rows := F_are_worth_rows c, b_are_worth_rows := b_are_worth_rows c, g_sides := gloZ_ok X G (c.fact 1 16), F_sides := F_sides c, b_sides := b_sides c, g_need_field := gloZ_ok X G (c.fact 1 18), F_need_field := F_need_field c, b_need_field := b_need_field c, g_is_field := gloZ_ok X G (c.fact 1 20), F_is_field := F_is_field c, b_is_field := b_is_field c, g_is_flat_rows := gloZ_ok X G (c.fact 1 22), F_is_flat_rows := F_is_flat_rows c, b_is_flat_rows := b_is_flat_rows c, g_need_flat := gloZ_ok X G (c.fact 2 0), F_need_flat := F_need_flat c, b_need_flat := b_need_flat c, g_need_target_on := gloZ_ok X G (c.fact 2 2), F_need_target_on := F_need_target_on c, b_need_target_on := b_need_target_on c, g_need_square := gloZ_ok X G (c.fact 2 4), F_need_square := F_need_square c, b_need_square := b_need_square c, g_at := gloZ_ok X G (c.fact 2 6), F_at := F_at c, b_at := b_at c, g__worths_at := gloZ_ok X G (c.fact 2 8), F__worths_at := F__worths_at c, b__worths_at := b__worths_at c, g_square_of := gloZ_ok X G (c.fact 2 10), F_square_of := F_square_of c, b_square_of := b_square_of c, g_square_worths := gloZ_ok X G (c.fact 2 12), F_square_worths := F_square_worths c, b_square_worths := b_square_worths c, g__is_row := gloZ_ok X G (c.fact 2 14), F__is_row := F__is_row c, b__is_row := b__is_row c, g_need_rows := gloZ_ok X G (c.fact 2 16), F_need_rows := F_need_rows c, b_need_rows := b_need_rows c, g_need_no_nought := gloZ_ok X G (c.fact 2 18), F_need_no_nought := F_need_no_nought c, b_need_no_nought := b_need_no_nought c, g_need_number := gloZ_ok X G (c.fact 2 20), F_need_number := F_need_number c, b_need_number := b_need_number c, g_rows_by := gloZ_ok X G (c.fact 2 22), F_rows_by := F_rows_by c, b_rows_by := b_rows_by c, g__flat_heights := gloZ_ok X G (c.fact 3 0), F__flat_heights := F__flat_heights c, b__flat_heights := b__flat_heights c, g_flat := gloZ_ok X G (c.fact 3 2), F_flat := F_flat c, b_flat := b_flat c, g_field_by := gloZ_ok X G (c.fact 3 4), F_field_by := F_field_by c, b_field_by := b_field_by c, kb_field_by_0 := kwb_field_by_0 c, g_law := gloZ_ok X G (c.fact 3 6), F_law := F_law c, b_law := b_law c, m_abs := freeZ_ok X G (c.fact 3 8), m_enumerate := freeZ_ok X G (c.fact 3 9), m_gcd := bltZ_ok X G (c.fact 3 10), m_int := freeZ_ok X G (c.fact 3 11), m_isinstance := freeZ_ok X G (c.fact 3 12), m_len := freeZ_ok X G (c.fact 3 13), m_list := freeZ_ok X G (c.fact 3 14), m_max := freeZ_ok X G (c.fact 3 15), m_min := freeZ_ok X G (c.fact 3 16), m_range := freeZ_ok X G (c.fact 3 17), m_repr := freeZ_ok X G (c.fact 3 18), m_tuple := freeZ_ok X G (c.fact 3 19), m_type := freeZ_ok X G (c.fact 3 20), m_zip := freeZ_ok X G (c.fact 3 21), g_HollowError := gloZ_ok X G (c.fact 3 22), g_BadField := gloZ_ok X G (c.fact 3 23), g_BadFraction := gloZ_ok X G (c.fact 4 0), g_BadTarget := gloZ_ok X G (c.fact 4 1), g_BadOrder := gloZ_ok X G (c.fact 4 2), g_BadTable := gloZ_ok X G (c.fact 4 3), g_BadRows := gloZ_ok X G (c.fact 4 4), code__flat_heights := (codZ_ok (c.fact 4 9)).1, code_flat := (codZ_ok (c.fact 4 10)).1, code_law := (codZ_ok (c.fact 4 11)).1, n_MOST_FRAME := intZ_ok X G (c.fact 4 5), n_MOST_RIM := intZ_ok X G (c.fact 4 6), n_MOST_SIDE := intZ_ok X G (c.fact 4 7), sup := freeZ_ok X G (c.fact 4 8), neT__flat_heights_flat := of_decide_eq_true (c.fact 4 12), neT__flat_heights_law := of_decide_eq_true (c.fact 4 13), neT_flat_law := of_decide_eq_true (c.fact 4 14), xc_BadRows := (c.fact 4 15), kc_BadRows := (ex_BadRows c).kp, bc_BadRows := (ex_BadRows c).bc, tc_BadRows := (ex_BadRows c).tc, ec_BadRows := (ex_BadRows c).ec, ki_BadRows_BadRows := of_decide_eq_true (c.fact 4 17), ki_BadRows_BadField := of_decide_eq_true (c.fact 4 18), ki_BadRows_BadFraction := of_decide_eq_true (c.fact 4 19), ki_BadRows_BadTable := of_decide_eq_true (c.fact 4 20), ki_BadRows_BadTarget := of_decide_eq_true (c.fact 4 21), ex1_HollowError_BadRows := of_decide_eq_true (c.fact 4 22), it_BadField := it_BadField hP hS c, bd_BadField := bd_BadField c, kc_BadField := (ex_BadField c).kp, bc_BadField := (ex_BadField c).bc, tc_BadField := (ex_BadField c).tc, ec_BadField := (ex_BadField c).ec, ki_BadField_BadRows := of_decide_eq_true (c.fact 5 1), ki_BadField_BadField := of_decide_eq_true (c.fact 5 2), ki_BadField_BadFraction := of_decide_eq_true (c.fact 5 3), ki_BadField_BadTable := of_decide_eq_true (c.fact 5 4), ki_BadField_BadTarget := of_decide_eq_true (c.fact 5 5), ex1_HollowError_BadField := of_decide_eq_true (c.fact 5 6), ex1_BadField_BadField := of_decide_eq_true (c.fact 5 7), xc_BadTarget := (c.fact 5 8), kc_BadTarget := (ex_BadTarget c).kp, bc_BadTarget := (ex_BadTarget c).bc, tc_BadTarget := (ex_BadTarget c).tc, ec_BadTarget := (ex_BadTarget c).ec, ki_BadTarget_BadRows := of_decide_eq_true (c.fact 5 10), ki_BadTarget_BadField := of_decide_eq_true (c.fact 5 11), ki_BadTarget_BadFraction := of_decide_eq_true (c.fact 5 12), ki_BadTarget_BadTable := of_decide_eq_true (c.fact 5 13), ki_BadTarget_BadTarget := of_decide_eq_true (c.fact 5 14), ex1_HollowError_BadTarget := of_decide_eq_true (c.fact 5 15), xc_BadOrder := (c.fact 5 16), kc_BadOrder := (ex_BadOrder c).kp, bc_BadOrder := (ex_BadOrder c).bc, tc_BadOrder := (ex_BadOrder c).tc, ec_BadOrder := (ex_BadOrder c).ec, ki_BadOrder_BadRows := of_decide_eq_true (c.fact 5 18), ki_BadOrder_BadField := of_decide_eq_true (c.fact 5 19), ki_BadOrder_BadFraction := of_decide_eq_true (c.fact 5 20), ki_BadOrder_BadTable := of_decide_eq_true (c.fact 5 21), ki_BadOrder_BadTarget := of_decide_eq_true (c.fact 5 22), ex1_HollowError_BadOrder := of_decide_eq_true (c.fact 5 23) }
end
def nz0 : List Str := ["__name__", "HollowError", "BadField", "BadFraction", "BadTarget", "BadOrder", "BadTable", "BadRows", "is_whole", "is_tuple_of", "MOST_SIDE", "MOST_RIM", "is_field", "need_field", "sides", "at", "is_side_long", "wrong_with_heights", "_wrong_or_steps", "are_steps_beside", "is_rim_low", "are_height_rows", "are_worth_rows", "rows_by", "need_target_on", "need_flat", "is_flat_rows", "need_number", "MOST_FRAME", "square_worths"]
def nz1 : List Str := ["frame", "field_by", "need_square", "square_of", "need_rows", "need_no_nought", "_is_row", "_worths_at", "_law_cell", "_law_low", "_law_flat", "_law_most", "_law_square", "_law_entries", "_law_is_refused", "_law_frame_right", "_law_framed", "_law_bent"]
def nz : List Str := nz0 ++ (nz1)
abbrev Rz : PySem.W.OpenRow := PySem.W.OpenLaw.row PySem.Challenge.rw_hollowrise_k63_frames
abbrev qz : Program := PySem.W.view Rz.prog [0, 31, 35, 58]
abbrev hkz : PySem.W.Hook := hookZ 5 fz mz vz
theorem runz (w : PySem.World) : HandSHeadRun.RunEqI Rz qz hkz (obZ 5 fz mz) 30000 nz w := by
  unfold HandSHeadRun.RunEqI
  kernel_rfl
end K63
namespace K63
open PySem L2 DL
/-- fuel: one more than the number at slot i -/
def fuelN (i : Nat) : DL.Env → Store → Nat := fun e _ => match e[i]? with
  | some (some (.int n)) => n.natAbs + 1
  | _ => 0
noncomputable def den__law_cell : DenS := seqS (asgG (binD addF (binD ixF (nameD 1) (cD (.int 0))) (cD (.int 1))) (subG (nameD 1) (cD (.int 0)))) (seqS (asgS 2 (binD ixF (nameD 1) (cD (.int 0)))) (seqS (asgS 3 (binD addF (binD mulF (binD mulF (cD (.int 31)) (nameD 2)) (nameD 2)) (binD mulF (cD (.int 7919)) (nameD 2)))) (seqS (ifS (andD (binD (gtF) (callD (lenF) (consA (nameD 0) (nilA))) (cD (.int 0))) (andD (binD (geF) (binD ixF (nameD 0) (binD fmodF (nameD 2) (callD (lenF) (consA (nameD 0) (nilA))))) (binD powF (cD (.int 10)) (cD (.int 18)))) (binD (ltF) (binD fdivF (nameD 2) (callD (lenF) (consA (nameD 0) (nilA)))) (cD (.int 60))))) (seqS (asgS 4 (binD ixF (nameD 0) (binD fmodF (nameD 2) (callD (lenF) (consA (nameD 0) (nilA)))))) (seqS (forI (nameG 5) (rng1 (consA (binD fdivF (nameD 2) (callD (lenF) (consA (nameD 0) (nilA)))) (nilA))) (asgS 4 (binD fdivF (nameD 4) (cD (.int 306783379))))) (ifS (binD (gtF) (nameD 4) (cD (.int 0))) (retS (binD fmodF (nameD 4) (cD (.int 306783379)))) (nilS)))) (nilS)) (seqS (ifS (binD (gtF) (callD (lenF) (consA (nameD 0) (nilA))) (cD (.int 0))) (asgS 3 (binD addF (nameD 3) (binD mulF (binD fmodF (binD ixF (nameD 0) (binD fmodF (nameD 2) (callD (lenF) (consA (nameD 0) (nilA))))) (cD (.int 2147483629))) (binD addF (cD (.int 1)) (binD fdivF (nameD 2) (callD (lenF) (consA (nameD 0) (nilA)))))))) (nilS)) (retS (binD fdivF (binD fmodF (binD powF (binD fmodF (nameD 3) (cD (.int 2147483647))) (cD (.int 5))) (cD (.int 2147483647))) (cD (.int 7))))))))
noncomputable def m__law_cell : DenF := cutF (ofBody 6 den__law_cell)
theorem ok__law_cell {x : Tx} {P : Program} (t : TxOk P x) {w : World} {base : Heap} (tb : Tb x base) : FnD P w x.fx x.mg base 1 x.a__law_cell x.fd__law_cell ["cells", "spot"] m__law_cell := by
  have sc := sc__law_cell
  exact FnD.cut (fn_mk (k := 0) t.F__law_cell sc rfl fun cdv A outer s H E dc => (dss_cons (ds_asg (de_bin add_ok opr_add (de_ix (de_name 1) de_int) de_int) (dg_sub (de_name 1) de_int)) (dss_cons (ds_set 2 sc.nd (de_ix (de_name 1) de_int)) (dss_cons (ds_set 3 sc.nd (de_bin add_ok opr_add (de_bin mul_ok opr_mul (de_bin mul_ok opr_mul de_int (de_name 2)) (de_name 2)) (de_bin mul_ok opr_mul de_int (de_name 2)))) (dss_cons (ds_if (DW.dt (dw_and (dt_cmp gt_ok op_gt (de_callB len_ok call_len t.m_len (da_cons (de_name 0) da_nil)) de_int (nomark _)) (dw_and (dt_cmp ge_ok op_ge (de_ix (de_name 0) (de_bin fmod_ok op_modN (de_name 2) (de_callB len_ok call_len t.m_len (da_cons (de_name 0) da_nil)))) (de_bin pow_ok opr_pow de_int de_int) (nomark _)) (dw_and1 (dt_cmp lt_ok op_lt (de_bin fdiv_ok opr_fdiv (de_name 2) (de_callB len_ok call_len t.m_len (da_cons (de_name 0) da_nil))) de_int (nomark _)))))) (dss_cons (ds_set 4 sc.nd (de_ix (de_name 0) (de_bin fmod_ok op_modN (de_name 2) (de_callB len_ok call_len t.m_len (da_cons (de_name 0) da_nil))))) (dss_cons (ds_forI dc (di_rng1 t.m_range (de_bin fdiv_ok opr_fdiv (de_name 2) (de_callB len_ok call_len t.m_len (da_cons (de_name 0) da_nil)))) (dg_name 5 sc.nd) (dss_one (ds_set 4 sc.nd (de_bin fdiv_ok opr_fdiv (de_name 4) de_int)))) (dss_one (ds_if (dt_cmp gt_ok op_gt (de_name 4) de_int (nomark _)) (dss_one (ds_ret (de_bin fmod_ok op_modN (de_name 4) de_int))) dss_nil)))) dss_nil) (dss_cons (ds_if (dt_cmp gt_ok op_gt (de_callB len_ok call_len t.m_len (da_cons (de_name 0) da_nil)) de_int (nomark _)) (dss_one (ds_set 3 sc.nd (de_bin add_ok opr_add (de_name 3) (de_bin mul_ok opr_mul (de_bin fmod_ok op_modN (de_ix (de_name 0) (de_bin fmod_ok op_modN (de_name 2) (de_callB len_ok call_len t.m_len (da_cons (de_name 0) da_nil)))) de_int) (de_bin add_ok opr_add de_int (de_bin fdiv_ok opr_fdiv (de_name 2) (de_callB len_ok call_len t.m_len (da_cons (de_name 0) da_nil)))))))) dss_nil) (dss_one (ds_ret (de_bin fdiv_ok opr_fdiv (de_bin fmod_ok op_modN (de_bin pow_ok opr_pow (de_bin fmod_ok op_modN (de_name 3) de_int) de_int) de_int) de_int)))))))))
noncomputable def den__law_low : DenS := seqS (parS 2 3 (callD (absF) (consA (nameD 0) (nilA))) (callD (absF) (consA (nameD 1) (nilA)))) (seqS (wlS (fuelN 3) (binD (neF) (nameD 3) (cD (.int 0))) (parS 2 3 (nameD 3) (binD fmodF (nameD 2) (nameD 3)))) (seqS (asgS 4 (brD (binD (gtF) (nameD 1) (cD (.int 0))) (nameD 2) (binD subF (cD (.int 0)) (nameD 2)))) (retS (tupD (consA (binD fdivF (nameD 0) (nameD 4)) (consA (binD fdivF (nameD 1) (nameD 4)) (nilA)))))))
noncomputable def m__law_low : DenF := cutF (ofBody 5 den__law_low)
theorem ok__law_low {x : Tx} {P : Program} (t : TxOk P x) {w : World} {base : Heap} (tb : Tb x base) : FnD P w x.fx x.mg base 1 x.a__law_low x.fd__law_low ["above", "below"] m__law_low := by
  have sc := sc__law_low
  exact FnD.cut (fn_mk (k := 0) t.F__law_low sc rfl fun cdv A outer s H E dc => (dss_cons (ds_par 2 3 dc.calm sc.nd (de_callB abs_ok call_abs t.m_abs (da_cons (de_name 0) da_nil)) (de_callB abs_ok call_abs t.m_abs (da_cons (de_name 1) da_nil))) (dss_cons (ds_wl (fuelN 3) dc (dt_cmp ne_ok (opr_ne dc.u64) (de_name 3) de_int (nomark _)) (dss_one (ds_par 2 3 dc.calm sc.nd (de_name 3) (de_bin fmod_ok op_modN (de_name 2) (de_name 3))))) (dss_cons (ds_set 4 sc.nd (de_ifExp (dt_cmp gt_ok op_gt (de_name 1) de_int (nomark _)) (de_name 2) (de_bin sub_ok op_sub de_int (de_name 2)))) (dss_one (ds_ret (de_tup (da_cons (de_bin fdiv_ok opr_fdiv (de_name 0) (de_name 4)) (da_cons (de_bin fdiv_ok opr_fdiv (de_name 1) (de_name 4)) da_nil)))))))))
noncomputable def den__law_entries : DenS := seqS (ownS 4 (nilA)) (seqS (forI (nameG 5) (rng1 (consA (nameD 2) (nilA))) (seqS (ownS 6 (nilA)) (seqS (forI (nameG 7) (rng1 (consA (nameD 2) (nilA))) (seqS (asgS 8 (fnD m__law_cell 2 [] (consA (nameD 0) (consA (nameD 1) (nilA))))) (seqS (asgS 9 (lstD (consA (tupD (consA (binD addF (cD (.int 1)) (binD fmodF (nameD 8) (cD (.int 2)))) (consA (cD (.int 1)) (nilA)))) (consA (fnD m__law_low 2 [] (consA (binD addF (cD (.int 1)) (binD fmodF (nameD 8) (cD (.int 7)))) (consA (binD addF (cD (.int 1)) (binD fmodF (binD fdivF (nameD 8) (cD (.int 7))) (cD (.int 5)))) (nilA)))) (consA (tupD (consA (binD subF (binD fmodF (nameD 8) (cD (.int 4))) (cD (.int 1))) (consA (cD (.int 1)) (nilA)))) (consA (tupD (consA (binD addF (nameD 8) (binD powF (cD (.int 10)) (cD (.int 30)))) (consA (cD (.int 1)) (nilA)))) (consA (tupD (consA (cD (.int 1)) (consA (cD (.int 1)) (nilA)))) (nilA)))))))) (seqS (asgS 10 (brD (binD (eqF) (binD fmodF (binD fdivF (nameD 8) (cD (.int 35))) (cD (.int 2))) (cD (.int 0))) (binD ixF (nameD 9) (nameD 3)) (tupD (consA (binD subF (cD (.int 0)) (binD ixF (binD ixF (nameD 9) (nameD 3)) (cD (.int 0)))) (consA (binD ixF (binD ixF (nameD 9) (nameD 3)) (cD (.int 1))) (nilA)))))) (appS (nameD 6) (brD (binD (gtF) (nameD 3) (cD (.int 2))) (binD ixF (nameD 9) (nameD 3)) (nameD 10))))))) (appS (nameD 4) (callD (tupcF) (consA (nameD 6) (nilA))))))) (retS (callD (tupcF) (consA (nameD 4) (nilA)))))
noncomputable def m__law_entries : DenF := cutF (ofBody 11 den__law_entries)
theorem ok__law_entries {x : Tx} {P : Program} (t : TxOk P x) {w : World} {base : Heap} (tb : Tb x base) : FnD P w x.fx x.mg base 2 x.a__law_entries x.fd__law_entries ["cells", "spot", "length", "sort"] m__law_entries := by
  have sc := sc__law_entries
  exact FnD.cut (fn_mk (k := 1) t.F__law_entries sc rfl fun cdv A outer s H E dc => (dss_cons (ds_own 4 sc.nd da_nil) (dss_cons (ds_forI dc (di_rng1 t.m_range (de_name 2)) (dg_name 5 sc.nd) (dss_cons (ds_own 6 sc.nd da_nil) (dss_cons (ds_forI dc (di_rng1 t.m_range (de_name 2)) (dg_name 7 sc.nd) (dss_cons (ds_set 8 sc.nd (de_call (k := 1) (ps := ["cells", "spot"]) (ok__law_cell t tb) (dc.mono (by decide)) t.g__law_cell t.F__law_cell.kp t.b__law_cell .nil (fun _ _ => rfl) (da_cons (de_name 0) (da_cons (de_name 1) da_nil)))) (dss_cons (ds_set 9 sc.nd (de_lst (da_cons (de_tup (da_cons (de_bin add_ok opr_add de_int (de_bin fmod_ok op_modN (de_name 8) de_int)) (da_cons de_int da_nil))) (da_cons (de_call (k := 1) (ps := ["above", "below"]) (ok__law_low t tb) (dc.mono (by decide)) t.g__law_low t.F__law_low.kp t.b__law_low .nil (fun _ _ => rfl) (da_cons (de_bin add_ok opr_add de_int (de_bin fmod_ok op_modN (de_name 8) de_int)) (da_cons (de_bin add_ok opr_add de_int (de_bin fmod_ok op_modN (de_bin fdiv_ok opr_fdiv (de_name 8) de_int) de_int)) da_nil))) (da_cons (de_tup (da_cons (de_bin sub_ok op_sub (de_bin fmod_ok op_modN (de_name 8) de_int) de_int) (da_cons de_int da_nil))) (da_cons (de_tup (da_cons (de_bin add_ok opr_add (de_name 8) (de_bin pow_ok opr_pow de_int de_int)) (da_cons de_int da_nil))) (da_cons (de_tup (da_cons de_int (da_cons de_int da_nil))) da_nil))))))) (dss_cons (ds_set 10 sc.nd (de_ifExp (dt_cmp eq_ok (opr_eq dc.u64) (de_bin fmod_ok op_modN (de_bin fdiv_ok opr_fdiv (de_name 8) de_int) de_int) de_int (nomark _)) (de_ix (de_name 9) (de_name 3)) (de_tup (da_cons (de_bin sub_ok op_sub de_int (de_ix (de_ix (de_name 9) (de_name 3)) de_int)) (da_cons (de_ix (de_ix (de_name 9) (de_name 3)) de_int) da_nil))))) (dss_one (ds_app (de_name 6) (de_ifExp (dt_cmp gt_ok op_gt (de_name 3) de_int (nomark _)) (de_ix (de_name 9) (de_name 3)) (de_name 10)))))))) (dss_one (ds_app (de_name 4) (de_callTy tupc_ok callr_tuple t.m_tuple (da_cons (de_name 6) da_nil))))))) (dss_one (ds_ret (de_callTy tupc_ok callr_tuple t.m_tuple (da_cons (de_name 4) da_nil)))))))
noncomputable def den__law_bent : DenS := seqS (parS 2 3 (callD (lenF) (consA (nameD 0) (nilA))) (lstD (consA (tupD (consA (cD (.int 0)) (consA (cD (.int 1)) (nilA)))) (consA (cD .non) (consA (cD (.int 1)) (consA (tupD (consA (cD (.int 1)) (consA (cD (.int 0)) (nilA)))) (consA (tupD (consA (cD (.int 2)) (consA (cD (.int 4)) (nilA)))) (consA (tupD (consA (cD (.bl true)) (consA (cD (.int 1)) (nilA)))) (consA (lstD (consA (cD (.int 1)) (consA (cD (.int 1)) (nilA)))) (consA (cD (.str "1")) (consA (tupD (consA (cD (.int 1)) (nilA))) (consA (tupD (consA (cD (.int 1)) (consA (cD (.int 1)) (consA (cD (.int 1)) (nilA))))) (nilA))))))))))))) (seqS (parS3 4 5 6 (binD fmodF (nameD 1) (nameD 2)) (binD fmodF (binD fdivF (nameD 1) (cD (.int 7))) (nameD 2)) (binD ixF (nameD 3) (binD fmodF (binD fdivF (nameD 1) (cD (.int 49))) (cD (.int 10))))) (seqS (asgS 7 (binD ixF (nameD 0) (nameD 4))) (seqS (ownS 8 (consA (binD addGF (binD addGF (slpD (nameD 0) (noneO) (someO (nameD 4)) (noneO)) (tupD (consA (binD addGF (binD addGF (slpD (nameD 7) (noneO) (someO (nameD 5)) (noneO)) (tupD (consA (nameD 6) (nilA)))) (slpD (nameD 7) (someO (binD addGF (nameD 5) (cD (.int 1)))) (noneO) (noneO))) (nilA)))) (slpD (nameD 0) (someO (binD addGF (nameD 4) (cD (.int 1)))) (noneO) (noneO))) (nilA))) (seqS (appS (nameD 8) (binD addGF (binD addGF (slpD (nameD 0) (noneO) (someO (nameD 4)) (noneO)) (tupD (consA (callD (lstcF) (consA (nameD 7) (nilA))) (nilA)))) (slpD (nameD 0) (someO (binD addGF (nameD 4) (cD (.int 1)))) (noneO) (noneO)))) (seqS (ownAddS 8 (nameD 8) (lstD (consA (binD addGF (binD addGF (slpD (nameD 0) (noneO) (someO (nameD 4)) (noneO)) (tupD (consA (binD addGF (nameD 7) (slpD (nameD 7) (noneO) (someO (cD (.int 1))) (noneO))) (nilA)))) (slpD (nameD 0) (someO (binD addGF (nameD 4) (cD (.int 1)))) (noneO) (noneO))) (consA (binD addGF (binD addGF (slpD (nameD 0) (noneO) (someO (nameD 4)) (noneO)) (tupD (consA (slpD (nameD 7) (someO (cD (.int 1))) (noneO) (noneO)) (nilA)))) (slpD (nameD 0) (someO (binD addGF (nameD 4) (cD (.int 1)))) (noneO) (noneO))) (consA (callD (lstcF) (consA (nameD 0) (nilA))) (nilA)))))) (seqS (ownAddS 8 (nameD 8) (lstD (consA (binD addGF (nameD 0) (slpD (nameD 0) (noneO) (someO (cD (.int 1))) (noneO))) (consA (tupD (nilA)) (consA (cD .non) (consA (cD (.int 5)) (consA (cD (.str "")) (consA (lstD (nilA)) (consA (empD) (consA (tupD (consA (tupD (nilA)) (nilA))) (consA (binD mulTF (tupD (consA (binD mulTF (tupD (consA (tupD (consA (cD (.int 1)) (consA (cD (.int 1)) (nilA)))) (nilA))) (cD (.int 7))) (nilA))) (cD (.int 7))) (consA (tupD (consA (nameD 0) (nilA))) (nilA))))))))))))) (retS (binD ixF (nameD 8) (binD fmodF (binD fdivF (nameD 1) (cD (.int 490))) (cD (.int 15)))))))))))
noncomputable def m__law_bent : DenF := cutF (ofBody 9 den__law_bent)
theorem ok__law_bent {x : Tx} {P : Program} (t : TxOk P x) {w : World} {base : Heap} (tb : Tb x base) : FnD P w x.fx x.mg base 1 x.a__law_bent x.fd__law_bent ["grid", "n"] m__law_bent := by
  have sc := sc__law_bent
  exact FnD.cut (fn_mk (k := 0) t.F__law_bent sc rfl fun cdv A outer s H E dc => (dss_cons (ds_par 2 3 dc.calm sc.nd (de_callB len_ok call_len t.m_len (da_cons (de_name 0) da_nil)) (de_lst (da_cons (de_tup (da_cons de_int (da_cons de_int da_nil))) (da_cons de_non (da_cons de_int (da_cons (de_tup (da_cons de_int (da_cons de_int da_nil))) (da_cons (de_tup (da_cons de_int (da_cons de_int da_nil))) (da_cons (de_tup (da_cons de_bl (da_cons de_int da_nil))) (da_cons (de_lst (da_cons de_int (da_cons de_int da_nil))) (da_cons de_str (da_cons (de_tup (da_cons de_int da_nil)) (da_cons (de_tup (da_cons de_int (da_cons de_int (da_cons de_int da_nil)))) da_nil)))))))))))) (dss_cons (ds_par3 4 5 6 dc.calm sc.nd (de_bin fmod_ok op_modN (de_name 1) (de_name 2)) (de_bin fmod_ok op_modN (de_bin fdiv_ok opr_fdiv (de_name 1) de_int) (de_name 2)) (de_ix (de_name 3) (de_bin fmod_ok op_modN (de_bin fdiv_ok opr_fdiv (de_name 1) de_int) de_int))) (dss_cons (ds_set 7 sc.nd (de_ix (de_name 0) (de_name 4))) (dss_cons (ds_own 8 sc.nd (da_cons (de_bin addG_ok opr_addG (de_bin addG_ok opr_addG (de_slp (de_name 0) do_no (do_so (de_name 4)) do_no) (de_tup (da_cons (de_bin addG_ok opr_addG (de_bin addG_ok opr_addG (de_slp (de_name 7) do_no (do_so (de_name 5)) do_no) (de_tup (da_cons (de_name 6) da_nil))) (de_slp (de_name 7) (do_so (de_bin addG_ok opr_addG (de_name 5) de_int)) do_no do_no)) da_nil))) (de_slp (de_name 0) (do_so (de_bin addG_ok opr_addG (de_name 4) de_int)) do_no do_no)) da_nil)) (dss_cons (ds_app (de_name 8) (de_bin addG_ok opr_addG (de_bin addG_ok opr_addG (de_slp (de_name 0) do_no (do_so (de_name 4)) do_no) (de_tup (da_cons (de_callTy lstc_ok callr_list t.m_list (da_cons (de_name 7) da_nil)) da_nil))) (de_slp (de_name 0) (do_so (de_bin addG_ok opr_addG (de_name 4) de_int)) do_no do_no))) (dss_cons (ds_ownAdd 8 sc.nd (de_name 8) (de_lst (da_cons (de_bin addG_ok opr_addG (de_bin addG_ok opr_addG (de_slp (de_name 0) do_no (do_so (de_name 4)) do_no) (de_tup (da_cons (de_bin addG_ok opr_addG (de_name 7) (de_slp (de_name 7) do_no (do_so de_int) do_no)) da_nil))) (de_slp (de_name 0) (do_so (de_bin addG_ok opr_addG (de_name 4) de_int)) do_no do_no)) (da_cons (de_bin addG_ok opr_addG (de_bin addG_ok opr_addG (de_slp (de_name 0) do_no (do_so (de_name 4)) do_no) (de_tup (da_cons (de_slp (de_name 7) (do_so de_int) do_no do_no) da_nil))) (de_slp (de_name 0) (do_so (de_bin addG_ok opr_addG (de_name 4) de_int)) do_no do_no)) (da_cons (de_callTy lstc_ok callr_list t.m_list (da_cons (de_name 0) da_nil)) da_nil))))) (dss_cons (ds_ownAdd 8 sc.nd (de_name 8) (de_lst (da_cons (de_bin addG_ok opr_addG (de_name 0) (de_slp (de_name 0) do_no (do_so de_int) do_no)) (da_cons (de_tup da_nil) (da_cons de_non (da_cons de_int (da_cons de_str (da_cons (de_lst da_nil) (da_cons de_emp (da_cons (de_tup (da_cons (de_tup da_nil) da_nil)) (da_cons (de_bin mulT_ok opr_mulT (de_tup (da_cons (de_bin mulT_ok opr_mulT (de_tup (da_cons (de_tup (da_cons de_int (da_cons de_int da_nil))) da_nil)) de_int) da_nil)) de_int) (da_cons (de_tup (da_cons (de_name 0) da_nil)) da_nil)))))))))))) (dss_one (ds_ret (de_ix (de_name 8) (de_bin fmod_ok op_modN (de_bin fdiv_ok opr_fdiv (de_name 1) de_int) de_int))))))))))))
noncomputable def den__law_flat : DenS := seqS (ownS 2 (nilA)) (seqS (forI (nameG 3) (rng1 (consA (nameD 1) (nilA))) (appS (nameD 2) (callD (tupcF) (consA (cutE (compD (set1 4) (cD (.bl true)) (binD fmodF (binD addF (nameD 4) (nameD 3)) (cD (.int 2))) [4] (rng1 (consA (nameD 0) (nilA))))) (nilA))))) (retS (callD (tupcF) (consA (nameD 2) (nilA)))))
noncomputable def m__law_flat : DenF := cutF (ofBody 5 den__law_flat)
theorem ok__law_flat {x : Tx} {P : Program} (t : TxOk P x) {w : World} {base : Heap} (tb : Tb x base) : FnD P w x.fx x.mg base 1 x.a__law_flat x.fd__law_flat ["wide", "high"] m__law_flat := by
  have sc := sc__law_flat
  exact FnD.cut (fn_mk (k := 0) t.F__law_flat sc rfl fun cdv A outer s H E dc => (dss_cons (ds_own 2 sc.nd da_nil) (dss_cons (ds_forI dc (di_rng1 t.m_range (de_name 1)) (dg_name 3 sc.nd) (dss_one (ds_app (de_name 2) (de_callTy tupc_ok callr_tuple t.m_tuple (da_cons (de_cut (de_comp (own := [("x", 4)]) dc sc.nd (di_rng1 t.m_range (de_name 0)) (blkOk_by (own := [("x", 4)]) (by rfl)) (fun _ _ _ _ _ => pg_name sc.nd (i := 4) rfl (by first | exact Or.inl rfl | exact Or.inr rfl) (by first | exact .inl rfl | exact .inr rfl)) (tg1 (vs := [4]) (by decide)) (fun _ _ _ _ _ _ => pts_yes) (fun _ _ _ _ _ dc => (de_bin fmod_ok op_modN (de_bin add_ok opr_add (de_name 4) (de_name 3)) de_int)))) da_nil))))) (dss_one (ds_ret (de_callTy tupc_ok callr_tuple t.m_tuple (da_cons (de_name 2) da_nil)))))))
noncomputable def den__law_most : DenS := seqS (parS3 3 4 5 (cD (.int 99)) (binD subF (callD (lenF) (consA (binD ixF (nameD 0) (cD (.int 0))) (nilA))) (cD (.int 1))) (binD subF (callD (lenF) (consA (nameD 0) (nilA))) (cD (.int 1)))) (seqS (forI (tupG 2 (consG (nameG 6) (consG (nameG 7) (nilG)))) (enumD (consA (nameD 0) nilA)) (forI (tupG 2 (consG (nameG 8) (consG (nameG 9) (nilG)))) (enumD (consA (nameD 7) nilA)) (ifS (orD (binD (inF false) (nameD 8) (tupD (consA (cD (.int 0)) (consA (nameD 4) (nilA))))) (binD (inF false) (nameD 6) (tupD (consA (cD (.int 0)) (consA (nameD 5) (nilA)))))) (asgS 3 (callD (minF) (consA (nameD 3) (consA (binD addF (binD addF (nameD 9) (callD (absF) (consA (binD subF (nameD 8) (nameD 1)) (nilA)))) (callD (absF) (consA (binD subF (nameD 6) (nameD 2)) (nilA)))) (nilA))))) (nilS)))) (retS (nameD 3)))
noncomputable def m__law_most : DenF := cutF (ofBody 10 den__law_most)
theorem ok__law_most {x : Tx} {P : Program} (t : TxOk P x) {w : World} {base : Heap} (tb : Tb x base) : FnD P w x.fx x.mg base 1 x.a__law_most x.fd__law_most ["heights", "x", "y"] m__law_most := by
  have sc := sc__law_most
  exact FnD.cut (fn_mk (k := 0) t.F__law_most sc rfl fun cdv A outer s H E dc => (dss_cons (ds_par3 3 4 5 dc.calm sc.nd de_int (de_bin sub_ok op_sub (de_callB len_ok call_len t.m_len (da_cons (de_ix (de_name 0) de_int) da_nil)) de_int) (de_bin sub_ok op_sub (de_callB len_ok call_len t.m_len (da_cons (de_name 0) da_nil)) de_int)) (dss_cons (ds_forI dc (di_enum t.m_enumerate (de_name 0)) (dg_tup dc.calm (dgs_cons (dg_name 6 sc.nd) (dgs_cons (dg_name 7 sc.nd) dgs_nil))) (dss_one (ds_forI dc (di_enum t.m_enumerate (de_name 7)) (dg_tup dc.calm (dgs_cons (dg_name 8 sc.nd) (dgs_cons (dg_name 9 sc.nd) dgs_nil))) (dss_one (ds_if (DW.dt (dw_or (dt_cmp in_ok op_in_seq (de_name 8) (de_tup (da_cons de_int (da_cons (de_name 4) da_nil))) rfl) (dw_or1 (dt_cmp in_ok op_in_seq (de_name 6) (de_tup (da_cons de_int (da_cons (de_name 5) da_nil))) rfl)))) (dss_one (ds_set 3 sc.nd (de_callB int2_ok (call_min2 dc.calm) t.m_min (da_cons (de_name 3) (da_cons (de_bin add_ok opr_add (de_bin add_ok opr_add (de_name 9) (de_callB abs_ok call_abs t.m_abs (da_cons (de_bin sub_ok op_sub (de_name 8) (de_name 1)) da_nil))) (de_callB abs_ok call_abs t.m_abs (da_cons (de_bin sub_ok op_sub (de_name 6) (de_name 2)) da_nil))) da_nil))))) dss_nil))))) (dss_one (ds_ret (de_name 3))))))
noncomputable def den_is_whole : DenS := retS (binD (isF false) (callD (typF) (consA (nameD 0) (nilA))) (cD (.ty "int")))
noncomputable def m_is_whole : DenF := cutF (ofBody 1 den_is_whole)
theorem ok_is_whole {x : Tx} {P : Program} (t : TxOk P x) {w : World} {base : Heap} (tb : Tb x base) : FnD P w x.fx x.mg base 1 x.a_is_whole x.fd_is_whole ["thing"] m_is_whole := by
  have sc := sc_is_whole
  exact FnD.cut (fn_mk (k := 0) t.F_is_whole sc rfl fun cdv A outer s H E dc => (dss_one (ds_ret (de_cmp is_ok opr_is (de_callTy typ_ok callr_type t.m_type (da_cons (de_name 0) da_nil)) (de_cls t.m_int) (nomark _)))))
noncomputable def den_frame : DenS := seqS (ifS (orD (unD notF (tstD (fnD m_is_whole 1 [] (consA (nameD 0) (nilA))))) (unD notF (chainD leF leF (cD (.int 1)) (nameD 0) (cD (.int (6)))))) (raiseS "BadRows") (nilS)) (seqS (ifS (binD (eqF) (binD fmodF (nameD 0) (cD (.int 2))) (cD (.int 0))) (retS (tupD (consA (binD subF (binD mulF (cD (.int 2)) (nameD 0)) (cD (.int 1))) (consA (binD subF (binD mulF (cD (.int 2)) (nameD 0)) (cD (.int 1))) (consA (binD subF (nameD 0) (cD (.int 1))) (consA (binD subF (nameD 0) (cD (.int 1))) (nilA))))))) (nilS)) (retS (tupD (consA (binD mulF (cD (.int 2)) (nameD 0)) (consA (binD subF (binD mulF (cD (.int 2)) (nameD 0)) (cD (.int 1))) (consA (nameD 0) (consA (binD subF (nameD 0) (cD (.int 1))) (nilA))))))))
noncomputable def m_frame : DenF := cutF (ofBody 1 den_frame)
theorem ok_frame {x : Tx} {P : Program} (t : TxOk P x) {w : World} {base : Heap} (tb : Tb x base) : FnD P w x.fx x.mg base 2 x.a_frame x.fd_frame ["size"] m_frame := by
  have sc := sc_frame
  exact FnD.cut (fn_mk (k := 1) t.F_frame sc rfl fun cdv A outer s H E dc => (dss_cons (ds_if (DW.dt (dw_or (dt_not (dt_v (de_call (k := 1) (ps := ["thing"]) (ok_is_whole t tb) (dc.mono (by decide)) t.g_is_whole t.F_is_whole.kp t.b_is_whole .nil (fun _ _ => rfl) (da_cons (de_name 0) da_nil)))) (dw_or1 (dt_not (dt_chain le_ok op_le le_ok op_le truths_int de_int (de_name 0) (de_numE t.n_MOST_FRAME)))))) (dss_one (ds_raise "BadRows" dc t.h_cl_BadRows (t.cf_BadRows _))) dss_nil) (dss_cons (ds_if (dt_cmp eq_ok (opr_eq dc.u64) (de_bin fmod_ok op_modN (de_name 0) de_int) de_int (nomark _)) (dss_one (ds_ret (de_tup (da_cons (de_bin sub_ok op_sub (de_bin mul_ok opr_mul de_int (de_name 0)) de_int) (da_cons (de_bin sub_ok op_sub (de_bin mul_ok opr_mul de_int (de_name 0)) de_int) (da_cons (de_bin sub_ok op_sub (de_name 0) de_int) (da_cons (de_bin sub_ok op_sub (de_name 0) de_int) da_nil))))))) dss_nil) (dss_one (ds_ret (de_tup (da_cons (de_bin mul_ok opr_mul de_int (de_name 0)) (da_cons (de_bin sub_ok op_sub (de_bin mul_ok opr_mul de_int (de_name 0)) de_int) (da_cons (de_name 0) (da_cons (de_bin sub_ok op_sub (de_name 0) de_int) da_nil))))))))))
noncomputable def den__law_frame_right : DenS := seqS (parS 1 2 (binD addF (binD subF (binD mulF (cD (.int 2)) (nameD 0)) (cD (.int 1))) (binD fmodF (nameD 0) (cD (.int 2)))) (binD subF (binD mulF (cD (.int 2)) (nameD 0)) (cD (.int 1)))) (seqS (asgS 3 (tupD (consA (nameD 1) (consA (nameD 2) (consA (binD addF (binD subF (nameD 0) (cD (.int 1))) (binD fmodF (nameD 0) (cD (.int 2)))) (consA (binD subF (nameD 0) (cD (.int 1))) (nilA))))))) (seqS (ifS (binD (neF) (callD (reprGF) (consA (lstD (consA (fnD m_frame 1 [] (consA (nameD 0) (nilA))) (consA (fnKD m_frame 0 1 1 [0] nilA (consA (nameD 0) (nilA))) (nilA)))) (nilA))) (callD (reprGF) (consA (lstD (consA (nameD 3) (consA (nameD 3) (nilA)))) (nilA)))) (retS (cD (.bl false))) (nilS)) (seqS (ifS (orD (binD (ltF) (fnD m__law_most 3 [] (consA (fnD m__law_flat 2 [] (consA (nameD 1) (consA (nameD 2) (nilA)))) (consA (binD ixF (nameD 3) (cD (.int 2))) (consA (binD ixF (nameD 3) (cD (.int 3))) (nilA))))) (nameD 0)) (binD (neF) (binD fmodF (binD subF (binD addF (binD ixF (nameD 3) (cD (.int 2))) (binD ixF (nameD 3) (cD (.int 3)))) (nameD 0)) (cD (.int 2))) (cD (.int 0)))) (retS (cD (.bl false))) (nilS)) (seqS (forI (tupG 2 (consG (nameG 4) (consG (nameG 5) (nilG)))) (itD (tupD (consA (tupD (consA (binD subF (nameD 1) (cD (.int 1))) (consA (nameD 2) (nilA)))) (consA (tupD (consA (nameD 1) (consA (binD subF (nameD 2) (cD (.int 1))) (nilA)))) (nilA))))) (seqS (asgS 6 (fnD m__law_flat 2 [] (consA (nameD 4) (consA (nameD 5) (nilA))))) (forI (nameG 7) (rng1 (consA (nameD 5) (nilA))) (forI (nameG 8) (rng1 (consA (nameD 4) (nilA))) (ifS (andD (binD (eqF) (binD fmodF (binD subF (binD addF (nameD 8) (nameD 7)) (nameD 0)) (cD (.int 2))) (cD (.int 0))) (binD (geF) (fnD m__law_most 3 [] (consA (nameD 6) (consA (nameD 8) (consA (nameD 7) (nilA))))) (nameD 0))) (retS (cD (.bl false))) (nilS)))))) (retS (cD (.bl true)))))))
noncomputable def m__law_frame_right : DenF := cutF (ofBody 9 den__law_frame_right)
theorem ok__law_frame_right {x : Tx} {P : Program} (t : TxOk P x) {w : World} {base : Heap} (tb : Tb x base) : FnD P w x.fx x.mg base 3 x.a__law_frame_right x.fd__law_frame_right ["length"] m__law_frame_right := by
  have sc := sc__law_frame_right
  exact FnD.cut (fn_mk (k := 2) t.F__law_frame_right sc rfl fun cdv A outer s H E dc => (dss_cons (ds_par 1 2 dc.calm sc.nd (de_bin add_ok opr_add (de_bin sub_ok op_sub (de_bin mul_ok opr_mul de_int (de_name 0)) de_int) (de_bin fmod_ok op_modN (de_name 0) de_int)) (de_bin sub_ok op_sub (de_bin mul_ok opr_mul de_int (de_name 0)) de_int)) (dss_cons (ds_set 3 sc.nd (de_tup (da_cons (de_name 1) (da_cons (de_name 2) (da_cons (de_bin add_ok opr_add (de_bin sub_ok op_sub (de_name 0) de_int) (de_bin fmod_ok op_modN (de_name 0) de_int)) (da_cons (de_bin sub_ok op_sub (de_name 0) de_int) da_nil)))))) (dss_cons (ds_if (dt_cmp ne_ok (opr_ne dc.u64) (de_callB reprG_ok (callr_reprE dc.gd dc.u64) t.m_repr (da_cons (de_lst (da_cons (de_call (k := 2) (ps := ["size"]) (ok_frame t tb) (dc.mono (by decide)) t.g_frame t.F_frame.kp t.b_frame .nil (fun _ _ => rfl) (da_cons (de_name 0) da_nil)) (da_cons (de_callKw0 (is := [0]) (ks := ["size"]) (k := 2) (ps := ["size"]) (ok_frame t tb) (dc.mono (by decide)) t.g_frame t.F_frame.kp t.kb_frame_0 (dk_cons (de_name 0) dk_nil)) da_nil))) da_nil)) (de_callB reprG_ok (callr_reprE dc.gd dc.u64) t.m_repr (da_cons (de_lst (da_cons (de_name 3) (da_cons (de_name 3) da_nil))) da_nil)) (nomark _)) (dss_one (ds_ret de_bl)) dss_nil) (dss_cons (ds_if (DW.dt (dw_or (dt_cmp lt_ok op_lt (de_call (k := 1) (ps := ["heights", "x", "y"]) (ok__law_most t tb) (dc.mono (by decide)) t.g__law_most t.F__law_most.kp t.b__law_most .nil (fun _ _ => rfl) (da_cons (de_call (k := 1) (ps := ["wide", "high"]) (ok__law_flat t tb) (dc.mono (by decide)) t.g__law_flat t.F__law_flat.kp t.b__law_flat .nil (fun _ _ => rfl) (da_cons (de_name 1) (da_cons (de_name 2) da_nil))) (da_cons (de_ix (de_name 3) de_int) (da_cons (de_ix (de_name 3) de_int) da_nil)))) (de_name 0) (nomark _)) (dw_or1 (dt_cmp ne_ok (opr_ne dc.u64) (de_bin fmod_ok op_modN (de_bin sub_ok op_sub (de_bin add_ok opr_add (de_ix (de_name 3) de_int) (de_ix (de_name 3) de_int)) (de_name 0)) de_int) de_int (nomark _))))) (dss_one (ds_ret de_bl)) dss_nil) (dss_cons (ds_forI dc (di_sq (de_tup (da_cons (de_tup (da_cons (de_bin sub_ok op_sub (de_name 1) de_int) (da_cons (de_name 2) da_nil))) (da_cons (de_tup (da_cons (de_name 1) (da_cons (de_bin sub_ok op_sub (de_name 2) de_int) da_nil))) da_nil)))) (dg_tup dc.calm (dgs_cons (dg_name 4 sc.nd) (dgs_cons (dg_name 5 sc.nd) dgs_nil))) (dss_cons (ds_set 6 sc.nd (de_call (k := 1) (ps := ["wide", "high"]) (ok__law_flat t tb) (dc.mono (by decide)) t.g__law_flat t.F__law_flat.kp t.b__law_flat .nil (fun _ _ => rfl) (da_cons (de_name 4) (da_cons (de_name 5) da_nil)))) (dss_one (ds_forI dc (di_rng1 t.m_range (de_name 5)) (dg_name 7 sc.nd) (dss_one (ds_forI dc (di_rng1 t.m_range (de_name 4)) (dg_name 8 sc.nd) (dss_one (ds_if (DW.dt (dw_and (dt_cmp eq_ok (opr_eq dc.u64) (de_bin fmod_ok op_modN (de_bin sub_ok op_sub (de_bin add_ok opr_add (de_name 8) (de_name 7)) (de_name 0)) de_int) de_int (nomark _)) (dw_and1 (dt_cmp ge_ok op_ge (de_call (k := 1) (ps := ["heights", "x", "y"]) (ok__law_most t tb) (dc.mono (by decide)) t.g__law_most t.F__law_most.kp t.b__law_most .nil (fun _ _ => rfl) (da_cons (de_name 6) (da_cons (de_name 8) (da_cons (de_name 7) da_nil)))) (de_name 0) (nomark _))))) (dss_one (ds_ret de_bl)) dss_nil)))))))) (dss_one (ds_ret de_bl))))))))
noncomputable def den__law_is_refused (cl : D) (cden : Store → RE) : DenS := seqS (asgS 1 (cD .non)) (seqS (tryS 2 catT_HollowError (dropS (callC 0 cl cden)) (asgS 1 (nameD 2))) (retS (andD (callD (isiB subT) (consA (nameD 1) (consA (cD (.cls "BadRows")) (nilA)))) (unD notF (callD (isiB subT) (consA (nameD 1) (consA (tupD (consA (cD (.cls "BadField")) (consA (cD (.cls "BadFraction")) (consA (cD (.cls "BadTable")) (consA (cD (.cls "BadTarget")) (nilA)))))) (nilA))))))))
theorem ok__law_is_refused {x : Tx} {P : Program} (t : TxOk P x) {w : World} {base : Heap} {A : Around} {stk : List PySem.Env} {s : Shared} {H : Hp} {cdg : Value} {k : Nat} (cl : D) (cden : Store → RE) (dc : Dc (cxOf (L2.CX P w) P w x.fx.K x.mg base ["call", "error", "caught"] "_law_is_refused" (defScope s__law_is_refused) x.a__law_is_refused cdg A stk s H E0) (fun cls d _ H => E0 cls d H) k)
    (act : ∀ (W1 : WX) (pn : List (Addr × Obj)) (xe : Value → Shared → Prop) (p1 p2 : Pos), Dc ((cxOf (L2.CX P w) P w x.fx.K x.mg base ["call", "error", "caught"] "_law_is_refused" (defScope s__law_is_refused) x.a__law_is_refused cdg A stk s H E0).tr pn xe) W1 k → DE x.fx ((cxOf (L2.CX P w) P w x.fx.K x.mg base ["call", "error", "caught"] "_law_is_refused" (defScope s__law_is_refused) x.a__law_is_refused cdg A stk s H E0).tr pn xe) W1 (.Call (.Name "call" p1) [] [] p2) (callC 0 cl cden)) :
    DSs x.fx (cxOf (L2.CX P w) P w x.fx.K x.mg base ["call", "error", "caught"] "_law_is_refused" (defScope s__law_is_refused) x.a__law_is_refused cdg A stk s H E0) (fun cls d _ H => E0 cls d H) (defBody s__law_is_refused) (den__law_is_refused cl cden) := by
  have sc := sc__law_is_refused
  exact (dss_cons (ds_set 1 sc.nd de_non) (dss_cons (ds_try 2 catT_HollowError dc rfl rfl rfl sc.nd rfl rfl (cla_name (c := .ref x.C_HollowError) (ct := x.cv_HollowError) ⟨rfl, rfl, .inl t.g_HollowError⟩ (fun _ => of_decide_eq_true)) t.hcat_HollowError (fun W1 pn1 xe1 d1 => (dss_one (ds_expr (act W1 pn1 xe1 _ _ d1)))) (fun a1 pn1 => (dss_one (ds_set 1 sc.nd (de_name 2))))) (dss_one (ds_ret (de_and (de_callB (isiB_ok t.h_sub t.sub_cls) callr_isiAll t.m_isinstance (da_cons (de_name 1) (da_cons (de_own "BadRows" (t.h_cl_BadRows) t.g_BadRows) da_nil))) (de_one (de_not (de_callB (isiB_ok t.h_sub t.sub_cls) callr_isiAll t.m_isinstance (da_cons (de_name 1) (da_cons (de_tup (da_cons (de_own "BadField" (t.h_cl_BadField) t.g_BadField) (da_cons (de_own "BadFraction" (t.h_cl_BadFraction) t.g_BadFraction) (da_cons (de_own "BadTable" (t.h_cl_BadTable) t.g_BadTable) (da_cons (de_own "BadTarget" (t.h_cl_BadTarget) t.g_BadTarget) da_nil))))) da_nil))))))))))
noncomputable def gd__law_is_refused (cden : Store → RE) (M : Store) : RE := match cden M with
  | some (.exc "BadRows" [], M1) => cutR M (some (.val (.bl true), M1))
  | _ => none
theorem ref_body {cl : D} {cden : Store → RE} {M M1 : Store} (h : cden M = some (.exc "BadRows" [], M1)) : ofBody 3 (den__law_is_refused cl cden) [cl] M = some (.val (.bl true), M1) := by
  have hc : callC 0 cl cden [some cl, some .non, none] M = some (.exc "BadRows" [], M1) := by
    simp [callC, h]
  have st : den__law_is_refused cl cden [some cl, none, none] M = some (.rt (.bl true), M1) := by
    unfold den__law_is_refused
    rw [seq_nx (e' := [some cl, some .non, none]) (M' := M) rfl]
    have t : tryS 2 catT_HollowError (dropS (callC 0 cl cden)) (asgS 1 (nameD 2)) [some cl, some .non, none] M = some (.nx [some cl, some (.exc "BadRows" []), none], M1) := by
      have : dropS (callC 0 cl cden) [some cl, some .non, none] M = some (.ex "BadRows" [] [some cl, some .non, none], M1) := by
        unfold dropS
        rw [hc]
        rfl
      unfold tryS
      rw [this]
      rfl
    rw [seq_nx t]
    rfl
  unfold ofBody
  have e : ([cl] : List D).map some ++ List.replicate (3 - ([cl] : List D).length) none = [some cl, none, none] := rfl
  rw [e, st]
  rfl
theorem gd__law_is_refused_eq (cl : D) (cden : Store → RE) (M : Store) : gd__law_is_refused cden M = none ∨ cutR M (ofBody 3 (den__law_is_refused cl cden) [cl] M) = gd__law_is_refused cden M := by
  unfold gd__law_is_refused
  split
  · rename_i M1 h
    rw [ref_body h]
    exact .inr rfl
  · exact .inl rfl
noncomputable def den__law_square : DenS := seqS (asgG (tupD (consA (nameD 0) (consA (lstOD (nilA)) (nilA)))) (tupG 2 (consG (tupG 3 (consG (nameG 2) (consG (nameG 3) (consG (nameG 4) (nilG))))) (consG (nameG 5) (nilG))))) (seqS (forI (nameG 6) (rng1 (consA (binD subF (nameD 4) (nameD 1)) (nilA))) (appS (nameD 5) (callD (tupcF) (consA (cutE (compD (set1 7) (cD (.bl true)) (tupD (consA (binD addF (binD addF (binD subF (binD addF (binD addF (nameD 2) (nameD 6)) (nameD 7)) (nameD 4)) (cD (.int 1))) (nameD 1)) (consA (binD subF (binD addF (nameD 3) (nameD 6)) (nameD 7)) (nilA)))) [7] (rng1 (consA (binD subF (nameD 4) (nameD 1)) (nilA))))) (nilA))))) (retS (callD (tupcF) (consA (nameD 5) (nilA)))))
noncomputable def m__law_square : DenF := cutF (ofBody 8 den__law_square)
theorem ok__law_square {x : Tx} {P : Program} (t : TxOk P x) {w : World} {base : Heap} (tb : Tb x base) : FnD P w x.fx x.mg base 1 x.a__law_square x.fd__law_square ["target", "off"] m__law_square := by
  have sc := sc__law_square
  exact FnD.cut (fn_mk (k := 0) t.F__law_square sc rfl fun cdv A outer s H E dc => (dss_cons (ds_asg (de_tup (da_cons (de_name 0) (da_cons (de_lstO da_nil) da_nil))) (dg_tup dc.calm (dgs_cons (dg_tup dc.calm (dgs_cons (dg_name 2 sc.nd) (dgs_cons (dg_name 3 sc.nd) (dgs_cons (dg_name 4 sc.nd) dgs_nil)))) (dgs_cons (dg_name 5 sc.nd) dgs_nil)))) (dss_cons (ds_forI dc (di_rng1 t.m_range (de_bin sub_ok op_sub (de_name 4) (de_name 1))) (dg_name 6 sc.nd) (dss_one (ds_app (de_name 5) (de_callTy tupc_ok callr_tuple t.m_tuple (da_cons (de_cut (de_comp (own := [("j", 7)]) dc sc.nd (di_rng1 t.m_range (de_bin sub_ok op_sub (de_name 4) (de_name 1))) (blkOk_by (own := [("j", 7)]) (by rfl)) (fun _ _ _ _ _ => pg_name sc.nd (i := 7) rfl (by first | exact Or.inl rfl | exact Or.inr rfl) (by first | exact .inl rfl | exact .inr rfl)) (tg1 (vs := [7]) (by decide)) (fun _ _ _ _ _ _ => pts_yes) (fun _ _ _ _ _ dc => (de_tup (da_cons (de_bin add_ok opr_add (de_bin add_ok opr_add (de_bin sub_ok op_sub (de_bin add_ok opr_add (de_bin add_ok opr_add (de_name 2) (de_name 6)) (de_name 7)) (de_name 4)) de_int) (de_name 1)) (da_cons (de_bin sub_ok op_sub (de_bin add_ok opr_add (de_name 3) (de_name 6)) (de_name 7)) da_nil)))))) da_nil))))) (dss_one (ds_ret (de_callTy tupc_ok callr_tuple t.m_tuple (da_cons (de_name 5) da_nil)))))))
noncomputable def den__law_framed : DenS := seqS (asgS 1 (callD (lenF) (consA (nameD 0) (nilA)))) (seqS (parS 2 3 (binD addF (binD subF (binD mulF (cD (.int 2)) (nameD 1)) (cD (.int 1))) (binD fmodF (nameD 1) (cD (.int 2)))) (binD subF (binD mulF (cD (.int 2)) (nameD 1)) (cD (.int 1)))) (seqS (ownS 4 (nilA)) (seqS (forI (nameG 5) (rng1 (consA (nameD 3) (nilA))) (appS (nameD 4) (binD mulOwnF (lstD (consA (tupD (consA (cD (.int 1)) (consA (cD (.int 1)) (nilA)))) (nilA))) (nameD 2)))) (seqS (asgS 6 (fnD m__law_square 2 [] (consA (tupD (consA (binD addF (binD subF (nameD 1) (cD (.int 1))) (binD fmodF (nameD 1) (cD (.int 2)))) (consA (binD subF (nameD 1) (cD (.int 1))) (consA (nameD 1) (nilA))))) (consA (cD (.int 0)) (nilA))))) (seqS (forI (tupG 2 (consG (nameG 7) (consG (nameG 8) (nilG)))) (zipD (consA (nameD 6) (consA (nameD 0) nilA))) (forI (tupG 2 (consG (tupG 2 (consG (nameG 9) (consG (nameG 5) (nilG)))) (consG (nameG 10) (nilG)))) (zipD (consA (nameD 7) (consA (nameD 8) nilA))) (asgG (nameD 10) (subG (binD ixF (nameD 4) (nameD 5)) (nameD 9))))) (retS (tupD (consA (fnD m__law_flat 2 [] (consA (nameD 2) (consA (nameD 3) (nilA)))) (consA (callD (tupcF) (consA (cutE (compD (set1 8) (cD (.bl true)) (callD (tupcF) (consA (nameD 8) (nilA))) [8] (itD (nameD 4)))) (nilA))) (nilA))))))))))
noncomputable def m__law_framed : DenF := cutF (ofBody 11 den__law_framed)
theorem ok__law_framed {x : Tx} {P : Program} (t : TxOk P x) {w : World} {base : Heap} (tb : Tb x base) : FnD P w x.fx x.mg base 2 x.a__law_framed x.fd__law_framed ["grid"] m__law_framed := by
  have sc := sc__law_framed
  exact FnD.cut (fn_mk (k := 1) t.F__law_framed sc rfl fun cdv A outer s H E dc => (dss_cons (ds_set 1 sc.nd (de_callB len_ok call_len t.m_len (da_cons (de_name 0) da_nil))) (dss_cons (ds_par 2 3 dc.calm sc.nd (de_bin add_ok opr_add (de_bin sub_ok op_sub (de_bin mul_ok opr_mul de_int (de_name 1)) de_int) (de_bin fmod_ok op_modN (de_name 1) de_int)) (de_bin sub_ok op_sub (de_bin mul_ok opr_mul de_int (de_name 1)) de_int)) (dss_cons (ds_own 4 sc.nd da_nil) (dss_cons (ds_forI dc (di_rng1 t.m_range (de_name 3)) (dg_name 5 sc.nd) (dss_one (ds_app (de_name 4) (de_bin mulOwn_ok opr_mul (de_lst (da_cons (de_tup (da_cons de_int (da_cons de_int da_nil))) da_nil)) (de_name 2))))) (dss_cons (ds_set 6 sc.nd (de_call (k := 1) (ps := ["target", "off"]) (ok__law_square t tb) (dc.mono (by decide)) t.g__law_square t.F__law_square.kp t.b__law_square .nil (fun _ _ => rfl) (da_cons (de_tup (da_cons (de_bin add_ok opr_add (de_bin sub_ok op_sub (de_name 1) de_int) (de_bin fmod_ok op_modN (de_name 1) de_int)) (da_cons (de_bin sub_ok op_sub (de_name 1) de_int) (da_cons (de_name 1) da_nil)))) (da_cons de_int da_nil)))) (dss_cons (ds_forI dc (di_zip t.m_zip (de_name 6) (de_name 0)) (dg_tup dc.calm (dgs_cons (dg_name 7 sc.nd) (dgs_cons (dg_name 8 sc.nd) dgs_nil))) (dss_one (ds_forI dc (di_zip t.m_zip (de_name 7) (de_name 8)) (dg_tup dc.calm (dgs_cons (dg_tup dc.calm (dgs_cons (dg_name 9 sc.nd) (dgs_cons (dg_name 5 sc.nd) dgs_nil))) (dgs_cons (dg_name 10 sc.nd) dgs_nil))) (dss_one (ds_asg (de_name 10) (dg_sub (de_ix (de_name 4) (de_name 5)) (de_name 9))))))) (dss_one (ds_ret (de_tup (da_cons (de_call (k := 1) (ps := ["wide", "high"]) (ok__law_flat t tb) (dc.mono (by decide)) t.g__law_flat t.F__law_flat.kp t.b__law_flat .nil (fun _ _ => rfl) (da_cons (de_name 2) (da_cons (de_name 3) da_nil))) (da_cons (de_callTy tupc_ok callr_tuple t.m_tuple (da_cons (de_cut (de_comp (own := [("row", 8)]) dc sc.nd (di_sq (de_name 4)) (blkOk_by (own := [("row", 8)]) (by rfl)) (fun _ _ _ _ _ => pg_name sc.nd (i := 8) rfl (by first | exact Or.inl rfl | exact Or.inr rfl) (by first | exact .inl rfl | exact .inr rfl)) (tg1 (vs := [8]) (by decide)) (fun _ _ _ _ _ _ => pts_yes) (fun _ _ _ _ _ dc => (de_callTy tupc_ok callr_tuple t.m_tuple (da_cons (de_name 8) da_nil))))) da_nil)) da_nil))))))))))))
noncomputable def den_is_rim_low : DenS := seqS (asgS 1 (binD addF (binD addF (callD (lstcF) (consA (binD addF (binD ixF (nameD 0) (cD (.int 0))) (binD ixF (nameD 0) (unD negF (cD (.int 1))))) (nilA))) (cutE (compD (set1 2) (cD (.bl true)) (binD ixF (nameD 2) (cD (.int 0))) [2] (itD (nameD 0))))) (cutE (compD (set1 2) (cD (.bl true)) (binD ixF (nameD 2) (unD negF (cD (.int 1)))) [2] (itD (nameD 0)))))) (retS (andD (binD (leF) (unD negF (cD (.int (35)))) (callD (minLF) (consA (nameD 1) (nilA)))) (binD (leF) (callD (maxLF) (consA (nameD 1) (nilA))) (cD (.int (35))))))
noncomputable def m_is_rim_low : DenF := cutF (ofBody 3 den_is_rim_low)
theorem ok_is_rim_low {x : Tx} {P : Program} (t : TxOk P x) {w : World} {base : Heap} (tb : Tb x base) : FnD P w x.fx x.mg base 1 x.a_is_rim_low x.fd_is_rim_low ["rows"] m_is_rim_low := by
  have sc := sc_is_rim_low
  exact FnD.cut (fn_mk (k := 0) t.F_is_rim_low sc rfl fun cdv A outer s H E dc => (dss_cons (ds_set 1 sc.nd (de_bin add_ok opr_add (de_bin add_ok opr_add (de_callTy lstc_ok callr_list t.m_list (da_cons (de_bin add_ok opr_add (de_ix (de_name 0) de_int) (de_ix (de_name 0) (de_un neg_ok un_neg de_int))) da_nil)) (de_cut (de_comp (own := [("row", 2)]) dc sc.nd (di_sq (de_name 0)) (blkOk_by (own := [("row", 2)]) (by rfl)) (fun _ _ _ _ _ => pg_name sc.nd (i := 2) rfl (by first | exact Or.inl rfl | exact Or.inr rfl) (by first | exact .inl rfl | exact .inr rfl)) (tg1 (vs := [2]) (by decide)) (fun _ _ _ _ _ _ => pts_yes) (fun _ _ _ _ _ dc => (de_ix (de_name 2) de_int))))) (de_cut (de_comp (own := [("row", 2)]) dc sc.nd (di_sq (de_name 0)) (blkOk_by (own := [("row", 2)]) (by rfl)) (fun _ _ _ _ _ => pg_name sc.nd (i := 2) rfl (by first | exact Or.inl rfl | exact Or.inr rfl) (by first | exact .inl rfl | exact .inr rfl)) (tg1 (vs := [2]) (by decide)) (fun _ _ _ _ _ _ => pts_yes) (fun _ _ _ _ _ dc => (de_ix (de_name 2) (de_un neg_ok un_neg de_int))))))) (dss_one (ds_ret (de_and (de_cmp le_ok op_le (de_un neg_ok un_neg (de_numE t.n_MOST_RIM)) (de_callB minL_ok (cr_min dc.calm) t.m_min (da_cons (de_name 1) da_nil)) (nomark _)) (de_one (de_cmp le_ok op_le (de_callB maxL_ok (cr_max dc.calm) t.m_max (da_cons (de_name 1) da_nil)) (de_numE t.n_MOST_RIM) (nomark _))))))))
noncomputable def den_are_height_rows : DenS := seqS (asgS 1 (callD (lenF) (consA (binD ixF (nameD 0) (cD (.int 0))) (nilA)))) (seqS (forI (nameG 2) (itD (nameD 0)) (seqS (ifS (orD (binD (isF true) (callD (typF) (consA (nameD 2) (nilA))) (cD (.ty "tuple"))) (binD (neF) (callD (lenF) (consA (nameD 2) (nilA))) (nameD 1))) (retS (cD (.bl false))) (nilS)) (forI (nameG 3) (itD (nameD 2)) (ifS (binD (isF true) (callD (typF) (consA (nameD 3) (nilA))) (cD (.ty "int"))) (retS (cD (.bl false))) (nilS))))) (retS (fnD m_is_rim_low 1 [] (consA (nameD 0) (nilA)))))
noncomputable def m_are_height_rows : DenF := cutF (ofBody 4 den_are_height_rows)
theorem ok_are_height_rows {x : Tx} {P : Program} (t : TxOk P x) {w : World} {base : Heap} (tb : Tb x base) : FnD P w x.fx x.mg base 2 x.a_are_height_rows x.fd_are_height_rows ["thing"] m_are_height_rows := by
  have sc := sc_are_height_rows
  exact FnD.cut (fn_mk (k := 1) t.F_are_height_rows sc rfl fun cdv A outer s H E dc => (dss_cons (ds_set 1 sc.nd (de_callB len_ok call_len t.m_len (da_cons (de_ix (de_name 0) de_int) da_nil))) (dss_cons (ds_forI dc (di_sq (de_name 0)) (dg_name 2 sc.nd) (dss_cons (ds_if (DW.dt (dw_or (dt_cmp is_ok opr_isnot (de_callTy typ_ok callr_type t.m_type (da_cons (de_name 2) da_nil)) (de_cls t.m_tuple) (nomark _)) (dw_or1 (dt_cmp ne_ok (opr_ne dc.u64) (de_callB len_ok call_len t.m_len (da_cons (de_name 2) da_nil)) (de_name 1) (nomark _))))) (dss_one (ds_ret de_bl)) dss_nil) (dss_one (ds_forI dc (di_sq (de_name 2)) (dg_name 3 sc.nd) (dss_one (ds_if (dt_cmp is_ok opr_isnot (de_callTy typ_ok callr_type t.m_type (da_cons (de_name 3) da_nil)) (de_cls t.m_int) (nomark _)) (dss_one (ds_ret de_bl)) dss_nil)))))) (dss_one (ds_ret (de_call (k := 1) (ps := ["rows"]) (ok_is_rim_low t tb) (dc.mono (by decide)) t.g_is_rim_low t.F_is_rim_low.kp t.b_is_rim_low .nil (fun _ _ => rfl) (da_cons (de_name 0) da_nil)))))))
noncomputable def den__wrong_or_steps : DenS := seqS (ifS (tstD (fnD m_are_height_rows 1 [] (consA (nameD 0) (nilA)))) (retS (cD (.str "steps"))) (nilS)) (retS (cD (.str "heights")))
noncomputable def m__wrong_or_steps : DenF := cutF (ofBody 1 den__wrong_or_steps)
theorem ok__wrong_or_steps {x : Tx} {P : Program} (t : TxOk P x) {w : World} {base : Heap} (tb : Tb x base) : FnD P w x.fx x.mg base 3 x.a__wrong_or_steps x.fd__wrong_or_steps ["thing"] m__wrong_or_steps := by
  have sc := sc__wrong_or_steps
  exact FnD.cut (fn_mk (k := 2) t.F__wrong_or_steps sc rfl fun cdv A outer s H E dc => (dss_cons (ds_if (dt_v (de_call (k := 2) (ps := ["thing"]) (ok_are_height_rows t tb) (dc.mono (by decide)) t.g_are_height_rows t.F_are_height_rows.kp t.b_are_height_rows .nil (fun _ _ => rfl) (da_cons (de_name 0) da_nil))) (dss_one (ds_ret de_str)) dss_nil) (dss_one (ds_ret de_str))))
noncomputable def den_is_side_long : DenS := retS (andD (binD (isF false) (callD (typF) (consA (nameD 0) (nilA))) (cD (.ty "tuple"))) (chainD leF leF (cD (.int 1)) (callD (lenF) (consA (nameD 0) (nilA))) (cD (.int (11)))))
noncomputable def m_is_side_long : DenF := cutF (ofBody 1 den_is_side_long)
theorem ok_is_side_long {x : Tx} {P : Program} (t : TxOk P x) {w : World} {base : Heap} (tb : Tb x base) : FnD P w x.fx x.mg base 1 x.a_is_side_long x.fd_is_side_long ["thing"] m_is_side_long := by
  have sc := sc_is_side_long
  exact FnD.cut (fn_mk (k := 0) t.F_is_side_long sc rfl fun cdv A outer s H E dc => (dss_one (ds_ret (de_and (de_cmp is_ok opr_is (de_callTy typ_ok callr_type t.m_type (da_cons (de_name 0) da_nil)) (de_cls t.m_tuple) (nomark _)) (de_one (de_chain le_ok op_le le_ok op_le truths_int de_int (de_callB len_ok call_len t.m_len (da_cons (de_name 0) da_nil)) (de_numE t.n_MOST_SIDE)))))))
noncomputable def den_are_steps_beside : DenS := seqS (asgS 1 (binD subF (binD ixF (nameD 0) (cD (.int 0))) (cD (.int 1)))) (seqS (forI (nameG 2) (itD (nameD 0)) (seqS (ifS (orD (binD (isF true) (callD (typF) (consA (nameD 2) (nilA))) (cD (.ty "int"))) (binD (inF true) (binD subF (nameD 2) (nameD 1)) (tupD (consA (cD (.int 1)) (consA (unD negF (cD (.int 1))) (nilA)))))) (retS (cD (.bl false))) (nilS)) (asgS 1 (nameD 2)))) (retS (cD (.bl true))))
noncomputable def m_are_steps_beside : DenF := cutF (ofBody 3 den_are_steps_beside)
theorem ok_are_steps_beside {x : Tx} {P : Program} (t : TxOk P x) {w : World} {base : Heap} (tb : Tb x base) : FnD P w x.fx x.mg base 1 x.a_are_steps_beside x.fd_are_steps_beside ["row"] m_are_steps_beside := by
  have sc := sc_are_steps_beside
  exact FnD.cut (fn_mk (k := 0) t.F_are_steps_beside sc rfl fun cdv A outer s H E dc => (dss_cons (ds_set 1 sc.nd (de_bin sub_ok op_sub (de_ix (de_name 0) de_int) de_int)) (dss_cons (ds_forI dc (di_sq (de_name 0)) (dg_name 2 sc.nd) (dss_cons (ds_if (DW.dt (dw_or (dt_cmp is_ok opr_isnot (de_callTy typ_ok callr_type t.m_type (da_cons (de_name 2) da_nil)) (de_cls t.m_int) (nomark _)) (dw_or1 (dt_cmp in_ok op_notIn_seq (de_bin sub_ok op_sub (de_name 2) (de_name 1)) (de_tup (da_cons de_int (da_cons (de_un neg_ok un_neg de_int) da_nil))) rfl)))) (dss_one (ds_ret de_bl)) dss_nil) (dss_one (ds_set 1 sc.nd (de_name 2))))) (dss_one (ds_ret de_bl)))))
noncomputable def den_wrong_with_heights : DenS := seqS (ifS (orD (unD notF (tstD (fnD m_is_side_long 1 [] (consA (nameD 0) (nilA))))) (unD notF (tstD (fnD m_is_side_long 1 [] (consA (binD ixF (nameD 0) (cD (.int 0))) (nilA)))))) (retS (cD (.str "heights"))) (nilS)) (seqS (asgS 1 (binD ixF (binD ixF (nameD 0) (cD (.int 0))) (cD (.int 0)))) (seqS (ifS (orD (binD (isF true) (callD (typF) (consA (nameD 1) (nilA))) (cD (.ty "int"))) (orD (binD (eqF) (binD fmodF (nameD 1) (cD (.int 2))) (cD (.int 1))) (unD notF (tstD (fnD m_are_steps_beside 1 [] (consA (binD ixF (nameD 0) (cD (.int 0))) (nilA))))))) (retS (fnD m__wrong_or_steps 1 [] (consA (nameD 0) (nilA)))) (nilS)) (seqS (asgS 2 (callD (lenF) (consA (binD ixF (nameD 0) (cD (.int 0))) (nilA)))) (seqS (asgS 3 (binD ixF (nameD 0) (cD (.int 0)))) (seqS (forI (nameG 4) (itD (slpD (nameD 0) (someO (cD (.int 1))) (noneO) (noneO))) (seqS (ifS (orD (binD (isF true) (callD (typF) (consA (nameD 4) (nilA))) (cD (.ty "tuple"))) (binD (neF) (callD (lenF) (consA (nameD 4) (nilA))) (nameD 2))) (retS (cD (.str "heights"))) (nilS)) (seqS (asgS 5 (binD ixF (nameD 3) (cD (.int 0)))) (seqS (forI (tupG 2 (consG (nameG 6) (consG (nameG 7) (nilG)))) (zipD (consA (nameD 4) (consA (nameD 3) nilA))) (seqS (ifS (binD (isF true) (callD (typF) (consA (nameD 6) (nilA))) (cD (.ty "int"))) (retS (cD (.str "heights"))) (nilS)) (seqS (ifS (binD (inF true) (binD mulF (binD subF (nameD 6) (nameD 5)) (binD subF (nameD 6) (nameD 7))) (tupD (consA (cD (.int 1)) (consA (unD negF (cD (.int 1))) (nilA))))) (retS (fnD m__wrong_or_steps 1 [] (consA (nameD 0) (nilA)))) (nilS)) (asgS 5 (nameD 6))))) (asgS 3 (nameD 4)))))) (seqS (ifS (orD (binD (leF) (binD subF (binD addF (binD addF (callD (absF) (consA (nameD 1) (nilA))) (nameD 2)) (callD (lenF) (consA (nameD 0) (nilA)))) (cD (.int 2))) (cD (.int (35)))) (tstD (fnD m_is_rim_low 1 [] (consA (nameD 0) (nilA))))) (retS (cD .non)) (nilS)) (retS (cD (.str "heights")))))))))
noncomputable def m_wrong_with_heights : DenF := cutF (ofBody 8 den_wrong_with_heights)
theorem ok_wrong_with_heights {x : Tx} {P : Program} (t : TxOk P x) {w : World} {base : Heap} (tb : Tb x base) : FnD P w x.fx x.mg base 4 x.a_wrong_with_heights x.fd_wrong_with_heights ["thing"] m_wrong_with_heights := by
  have sc := sc_wrong_with_heights
  exact FnD.cut (fn_mk (k := 3) t.F_wrong_with_heights sc rfl fun cdv A outer s H E dc => (dss_cons (ds_if (DW.dt (dw_or (dt_not (dt_v (de_call (k := 1) (ps := ["thing"]) (ok_is_side_long t tb) (dc.mono (by decide)) t.g_is_side_long t.F_is_side_long.kp t.b_is_side_long .nil (fun _ _ => rfl) (da_cons (de_name 0) da_nil)))) (dw_or1 (dt_not (dt_v (de_call (k := 1) (ps := ["thing"]) (ok_is_side_long t tb) (dc.mono (by decide)) t.g_is_side_long t.F_is_side_long.kp t.b_is_side_long .nil (fun _ _ => rfl) (da_cons (de_ix (de_name 0) de_int) da_nil))))))) (dss_one (ds_ret de_str)) dss_nil) (dss_cons (ds_set 1 sc.nd (de_ix (de_ix (de_name 0) de_int) de_int)) (dss_cons (ds_if (DW.dt (dw_or (dt_cmp is_ok opr_isnot (de_callTy typ_ok callr_type t.m_type (da_cons (de_name 1) da_nil)) (de_cls t.m_int) (nomark _)) (dw_or (dt_cmp eq_ok (opr_eq dc.u64) (de_bin fmod_ok op_modN (de_name 1) de_int) de_int (nomark _)) (dw_or1 (dt_not (dt_v (de_call (k := 1) (ps := ["row"]) (ok_are_steps_beside t tb) (dc.mono (by decide)) t.g_are_steps_beside t.F_are_steps_beside.kp t.b_are_steps_beside .nil (fun _ _ => rfl) (da_cons (de_ix (de_name 0) de_int) da_nil)))))))) (dss_one (ds_ret (de_call (k := 3) (ps := ["thing"]) (ok__wrong_or_steps t tb) (dc.mono (by decide)) t.g__wrong_or_steps t.F__wrong_or_steps.kp t.b__wrong_or_steps .nil (fun _ _ => rfl) (da_cons (de_name 0) da_nil)))) dss_nil) (dss_cons (ds_set 2 sc.nd (de_callB len_ok call_len t.m_len (da_cons (de_ix (de_name 0) de_int) da_nil))) (dss_cons (ds_set 3 sc.nd (de_ix (de_name 0) de_int)) (dss_cons (ds_forI dc (di_sq (de_slp (de_name 0) (do_so de_int) do_no do_no)) (dg_name 4 sc.nd) (dss_cons (ds_if (DW.dt (dw_or (dt_cmp is_ok opr_isnot (de_callTy typ_ok callr_type t.m_type (da_cons (de_name 4) da_nil)) (de_cls t.m_tuple) (nomark _)) (dw_or1 (dt_cmp ne_ok (opr_ne dc.u64) (de_callB len_ok call_len t.m_len (da_cons (de_name 4) da_nil)) (de_name 2) (nomark _))))) (dss_one (ds_ret de_str)) dss_nil) (dss_cons (ds_set 5 sc.nd (de_ix (de_name 3) de_int)) (dss_cons (ds_forI dc (di_zip t.m_zip (de_name 4) (de_name 3)) (dg_tup dc.calm (dgs_cons (dg_name 6 sc.nd) (dgs_cons (dg_name 7 sc.nd) dgs_nil))) (dss_cons (ds_if (dt_cmp is_ok opr_isnot (de_callTy typ_ok callr_type t.m_type (da_cons (de_name 6) da_nil)) (de_cls t.m_int) (nomark _)) (dss_one (ds_ret de_str)) dss_nil) (dss_cons (ds_if (dt_cmp in_ok op_notIn_seq (de_bin mul_ok opr_mul (de_bin sub_ok op_sub (de_name 6) (de_name 5)) (de_bin sub_ok op_sub (de_name 6) (de_name 7))) (de_tup (da_cons de_int (da_cons (de_un neg_ok un_neg de_int) da_nil))) rfl) (dss_one (ds_ret (de_call (k := 3) (ps := ["thing"]) (ok__wrong_or_steps t tb) (dc.mono (by decide)) t.g__wrong_or_steps t.F__wrong_or_steps.kp t.b__wrong_or_steps .nil (fun _ _ => rfl) (da_cons (de_name 0) da_nil)))) dss_nil) (dss_one (ds_set 5 sc.nd (de_name 6)))))) (dss_one (ds_set 3 sc.nd (de_name 4))))))) (dss_cons (ds_if (DW.dt (dw_or (dt_cmp le_ok op_le (de_bin sub_ok op_sub (de_bin add_ok opr_add (de_bin add_ok opr_add (de_callB abs_ok call_abs t.m_abs (da_cons (de_name 1) da_nil)) (de_name 2)) (de_callB len_ok call_len t.m_len (da_cons (de_name 0) da_nil))) de_int) (de_numE t.n_MOST_RIM) (nomark _)) (dw_or1 (dt_v (de_call (k := 1) (ps := ["rows"]) (ok_is_rim_low t tb) (dc.mono (by decide)) t.g_is_rim_low t.F_is_rim_low.kp t.b_is_rim_low .nil (fun _ _ => rfl) (da_cons (de_name 0) da_nil)))))) (dss_one (ds_ret de_non)) dss_nil) (dss_one (ds_ret de_str))))))))))
noncomputable def den_is_tuple_of : DenS := retS (andD (binD (isF false) (callD (typF) (consA (nameD 0) (nilA))) (cD (.ty "tuple"))) (binD (eqF) (callD (lenF) (consA (nameD 0) (nilA))) (nameD 1)))
noncomputable def m_is_tuple_of : DenF := cutF (ofBody 2 den_is_tuple_of)
theorem ok_is_tuple_of {x : Tx} {P : Program} (t : TxOk P x) {w : World} {base : Heap} (tb : Tb x base) : FnD P w x.fx x.mg base 1 x.a_is_tuple_of x.fd_is_tuple_of ["thing", "many"] m_is_tuple_of := by
  have sc := sc_is_tuple_of
  exact FnD.cut (fn_mk (k := 0) t.F_is_tuple_of sc rfl fun cdv A outer s H E dc => (dss_one (ds_ret (de_and (de_cmp is_ok opr_is (de_callTy typ_ok callr_type t.m_type (da_cons (de_name 0) da_nil)) (de_cls t.m_tuple) (nomark _)) (de_one (de_cmp eq_ok (opr_eq dc.u64) (de_callB len_ok call_len t.m_len (da_cons (de_name 0) da_nil)) (de_name 1) (nomark _)))))))
noncomputable def den_are_worth_rows : DenS := seqS (asgG (nameD 1) (tupG 2 (consG (nameG 2) (consG (nameG 3) (nilG))))) (seqS (ifS (unD notF (tstD (fnD m_is_tuple_of 2 [] (consA (nameD 0) (consA (nameD 3) (nilA)))))) (retS (cD (.bl false))) (nilS)) (seqS (forI (nameG 4) (itD (nameD 0)) (seqS (ifS (orD (binD (isF true) (callD (typF) (consA (nameD 4) (nilA))) (cD (.ty "tuple"))) (binD (neF) (callD (lenF) (consA (nameD 4) (nilA))) (nameD 2))) (retS (cD (.bl false))) (nilS)) (forI (nameG 5) (itD (nameD 4)) (seqS (ifS (orD (binD (isF true) (callD (typF) (consA (nameD 5) (nilA))) (cD (.ty "tuple"))) (binD (neF) (callD (lenF) (consA (nameD 5) (nilA))) (cD (.int 2)))) (retS (cD (.bl false))) (nilS)) (seqS (asgG (nameD 5) (tupG 2 (consG (nameG 6) (consG (nameG 7) (nilG))))) (seqS (ifS (orD (binD (isF true) (callD (typF) (consA (nameD 6) (nilA))) (cD (.ty "int"))) (binD (isF true) (callD (typF) (consA (nameD 7) (nilA))) (cD (.ty "int")))) (retS (cD (.bl false))) (nilS)) (ifS (binD (eqF) (nameD 7) (cD (.int 1))) (ifS (binD (eqF) (nameD 6) (cD (.int 0))) (retS (cD (.bl false))) (nilS)) (ifS (orD (binD (ltF) (nameD 7) (cD (.int 1))) (binD (neF) (callD gcdF (consA (nameD 6) (consA (nameD 7) (nilA)))) (cD (.int 1)))) (retS (cD (.bl false))) (nilS))))))))) (retS (cD (.bl true)))))
noncomputable def m_are_worth_rows : DenF := cutF (ofBody 8 den_are_worth_rows)
theorem ok_are_worth_rows {x : Tx} {P : Program} (t : TxOk P x) {w : World} {base : Heap} (tb : Tb x base) : FnD P w x.fx x.mg base 2 x.a_are_worth_rows x.fd_are_worth_rows ["thing", "size"] m_are_worth_rows := by
  have sc := sc_are_worth_rows
  exact FnD.cut (fn_mk (k := 1) t.F_are_worth_rows sc rfl fun cdv A outer s H E dc => (dss_cons (ds_asg (de_name 1) (dg_tup dc.calm (dgs_cons (dg_name 2 sc.nd) (dgs_cons (dg_name 3 sc.nd) dgs_nil)))) (dss_cons (ds_if (dt_not (dt_v (de_call (k := 1) (ps := ["thing", "many"]) (ok_is_tuple_of t tb) (dc.mono (by decide)) t.g_is_tuple_of t.F_is_tuple_of.kp t.b_is_tuple_of .nil (fun _ _ => rfl) (da_cons (de_name 0) (da_cons (de_name 3) da_nil))))) (dss_one (ds_ret de_bl)) dss_nil) (dss_cons (ds_forI dc (di_sq (de_name 0)) (dg_name 4 sc.nd) (dss_cons (ds_if (DW.dt (dw_or (dt_cmp is_ok opr_isnot (de_callTy typ_ok callr_type t.m_type (da_cons (de_name 4) da_nil)) (de_cls t.m_tuple) (nomark _)) (dw_or1 (dt_cmp ne_ok (opr_ne dc.u64) (de_callB len_ok call_len t.m_len (da_cons (de_name 4) da_nil)) (de_name 2) (nomark _))))) (dss_one (ds_ret de_bl)) dss_nil) (dss_one (ds_forI dc (di_sq (de_name 4)) (dg_name 5 sc.nd) (dss_cons (ds_if (DW.dt (dw_or (dt_cmp is_ok opr_isnot (de_callTy typ_ok callr_type t.m_type (da_cons (de_name 5) da_nil)) (de_cls t.m_tuple) (nomark _)) (dw_or1 (dt_cmp ne_ok (opr_ne dc.u64) (de_callB len_ok call_len t.m_len (da_cons (de_name 5) da_nil)) de_int (nomark _))))) (dss_one (ds_ret de_bl)) dss_nil) (dss_cons (ds_asg (de_name 5) (dg_tup dc.calm (dgs_cons (dg_name 6 sc.nd) (dgs_cons (dg_name 7 sc.nd) dgs_nil)))) (dss_cons (ds_if (DW.dt (dw_or (dt_cmp is_ok opr_isnot (de_callTy typ_ok callr_type t.m_type (da_cons (de_name 6) da_nil)) (de_cls t.m_int) (nomark _)) (dw_or1 (dt_cmp is_ok opr_isnot (de_callTy typ_ok callr_type t.m_type (da_cons (de_name 7) da_nil)) (de_cls t.m_int) (nomark _))))) (dss_one (ds_ret de_bl)) dss_nil) (dss_one (ds_if (dt_cmp eq_ok (opr_eq dc.u64) (de_name 7) de_int (nomark _)) (dss_one (ds_if (dt_cmp eq_ok (opr_eq dc.u64) (de_name 6) de_int (nomark _)) (dss_one (ds_ret de_bl)) dss_nil)) (dss_one (ds_if (DW.dt (dw_or (dt_cmp lt_ok op_lt (de_name 7) de_int (nomark _)) (dw_or1 (dt_cmp ne_ok (opr_ne dc.u64) (de_callG gcd_ok cr_gcd t.m_gcd (da_cons (de_name 6) (da_cons (de_name 7) da_nil))) de_int (nomark _))))) (dss_one (ds_ret de_bl)) dss_nil))))))))))) (dss_one (ds_ret de_bl))))))
noncomputable def den_sides : DenS := retS (tupD (consA (callD (lenF) (consA (binD ixF (nameD 0) (cD (.int 0))) (nilA))) (consA (callD (lenF) (consA (nameD 0) (nilA))) (nilA))))
noncomputable def m_sides : DenF := cutF (ofBody 1 den_sides)
theorem ok_sides {x : Tx} {P : Program} (t : TxOk P x) {w : World} {base : Heap} (tb : Tb x base) : FnD P w x.fx x.mg base 1 x.a_sides x.fd_sides ["rows"] m_sides := by
  have sc := sc_sides
  exact FnD.cut (fn_mk (k := 0) t.F_sides sc rfl fun cdv A outer s H E dc => (dss_one (ds_ret (de_tup (da_cons (de_callB len_ok call_len t.m_len (da_cons (de_ix (de_name 0) de_int) da_nil)) (da_cons (de_callB len_ok call_len t.m_len (da_cons (de_name 0) da_nil)) da_nil))))))
noncomputable def den_need_field : DenS := seqS (ifS (unD notF (tstD (fnD m_is_tuple_of 2 [] (consA (nameD 0) (consA (cD (.int 2)) (nilA)))))) (raiseF "BadField" "place" (cD .non)) (nilS)) (seqS (asgG (nameD 0) (tupG 2 (consG (nameG 1) (consG (nameG 2) (nilG))))) (seqS (asgS 3 (fnD m_wrong_with_heights 1 [] (consA (nameD 1) (nilA)))) (seqS (ifS (binD (isF true) (nameD 3) (cD .non)) (raiseF "BadField" "place" (nameD 3)) (nilS)) (ifS (unD notF (tstD (fnD m_are_worth_rows 2 [] (consA (nameD 2) (consA (fnD m_sides 1 [] (consA (nameD 1) (nilA))) (nilA)))))) (raiseF "BadField" "place" (cD (.str "worths"))) (nilS)))))
noncomputable def m_need_field : DenF := cutF (ofBody 4 den_need_field)
theorem ok_need_field {x : Tx} {P : Program} (t : TxOk P x) {w : World} {base : Heap} (tb : Tb x base) : FnD P w x.fx x.mg base 5 x.a_need_field x.fd_need_field ["thing"] m_need_field := by
  have sc := sc_need_field
  exact FnD.cut (fn_mk (k := 4) t.F_need_field sc rfl fun cdv A outer s H E dc => (dss_cons (ds_if (dt_not (dt_v (de_call (k := 1) (ps := ["thing", "many"]) (ok_is_tuple_of t tb) (dc.mono (by decide)) t.g_is_tuple_of t.F_is_tuple_of.kp t.b_is_tuple_of .nil (fun _ _ => rfl) (da_cons (de_name 0) (da_cons de_int da_nil))))) (dss_one (ds_raiseF "BadField" (dc.mono (j := 1) (by decide)) t.h_cl_BadField (t.cg_BadField _) de_non)) dss_nil) (dss_cons (ds_asg (de_name 0) (dg_tup dc.calm (dgs_cons (dg_name 1 sc.nd) (dgs_cons (dg_name 2 sc.nd) dgs_nil)))) (dss_cons (ds_set 3 sc.nd (de_call (k := 4) (ps := ["thing"]) (ok_wrong_with_heights t tb) (dc.mono (by decide)) t.g_wrong_with_heights t.F_wrong_with_heights.kp t.b_wrong_with_heights .nil (fun _ _ => rfl) (da_cons (de_name 1) da_nil))) (dss_cons (ds_if (dt_cmp is_ok opr_isnot (de_name 3) de_non (nomark _)) (dss_one (ds_raiseF "BadField" (dc.mono (j := 1) (by decide)) t.h_cl_BadField (t.cg_BadField _) (de_name 3))) dss_nil) (dss_one (ds_if (dt_not (dt_v (de_call (k := 2) (ps := ["thing", "size"]) (ok_are_worth_rows t tb) (dc.mono (by decide)) t.g_are_worth_rows t.F_are_worth_rows.kp t.b_are_worth_rows .nil (fun _ _ => rfl) (da_cons (de_name 2) (da_cons (de_call (k := 1) (ps := ["rows"]) (ok_sides t tb) (dc.mono (by decide)) t.g_sides t.F_sides.kp t.b_sides .nil (fun _ _ => rfl) (da_cons (de_name 1) da_nil)) da_nil))))) (dss_one (ds_raiseF "BadField" (dc.mono (j := 1) (by decide)) t.h_cl_BadField (t.cg_BadField _) de_str)) dss_nil)))))))
noncomputable def den_is_field : DenS := seqS (tryS0 catT_BadField (dropS (fnD m_need_field 1 [] (consA (nameD 0) (nilA)))) (retS (cD (.bl false)))) (retS (cD (.bl true)))
noncomputable def m_is_field : DenF := cutF (ofBody 1 den_is_field)
theorem ok_is_field {x : Tx} {P : Program} (t : TxOk P x) {w : World} {base : Heap} (tb : Tb x base) : FnD P w x.fx x.mg base 6 x.a_is_field x.fd_is_field ["thing"] m_is_field := by
  have sc := sc_is_field
  exact FnD.cut (fn_mk (k := 5) t.F_is_field sc rfl fun cdv A outer s H E dc => (dss_cons (ds_try0 catT_BadField dc rfl rfl rfl (cla_name (c := .ref x.C_BadField) (ct := x.cv_BadField) ⟨rfl, rfl, .inl t.g_BadField⟩ (fun _ => of_decide_eq_true)) t.hcat_BadField (fun W1 pn1 xe1 dc => (dss_one (ds_expr (de_call (k := 5) (ps := ["thing"]) (ok_need_field t tb) (dc.mono (by decide)) t.g_need_field t.F_need_field.kp t.b_need_field .nil (fun _ _ => rfl) (da_cons (de_name 0) da_nil))))) (fun a1 pn1 => (dss_one (ds_ret de_bl)))) (dss_one (ds_ret de_bl))))
noncomputable def den_is_flat_rows : DenS := seqS (forI (nameG 1) (itD (nameD 0)) (ifS (orD (binD (ltF) (callD (minLTF) (consA (nameD 1) (nilA))) (cD (.int 0))) (binD (gtF) (callD (maxLTF) (consA (nameD 1) (nilA))) (cD (.int 1)))) (retS (cD (.bl false))) (nilS))) (retS (cD (.bl true)))
noncomputable def m_is_flat_rows : DenF := cutF (ofBody 2 den_is_flat_rows)
theorem ok_is_flat_rows {x : Tx} {P : Program} (t : TxOk P x) {w : World} {base : Heap} (tb : Tb x base) : FnD P w x.fx x.mg base 1 x.a_is_flat_rows x.fd_is_flat_rows ["heights"] m_is_flat_rows := by
  have sc := sc_is_flat_rows
  exact FnD.cut (fn_mk (k := 0) t.F_is_flat_rows sc rfl fun cdv A outer s H E dc => (dss_cons (ds_forI dc (di_sq (de_name 0)) (dg_name 1 sc.nd) (dss_one (ds_if (DW.dt (dw_or (dt_cmp lt_ok op_lt (de_callB minLT_ok (callr_minLT dc.calm) t.m_min (da_cons (de_name 1) da_nil)) de_int (nomark _)) (dw_or1 (dt_cmp gt_ok op_gt (de_callB maxLT_ok (callr_maxLT dc.calm) t.m_max (da_cons (de_name 1) da_nil)) de_int (nomark _))))) (dss_one (ds_ret de_bl)) dss_nil))) (dss_one (ds_ret de_bl))))
noncomputable def den_need_flat : DenS := seqS (dropS (fnD m_need_field 1 [] (consA (nameD 0) (nilA)))) (ifS (unD notF (tstD (fnD m_is_flat_rows 1 [] (consA (binD ixF (nameD 0) (cD (.int 0))) (nilA))))) (raiseF "BadField" "place" (cD (.str "flat"))) (nilS))
noncomputable def m_need_flat : DenF := cutF (ofBody 1 den_need_flat)
theorem ok_need_flat {x : Tx} {P : Program} (t : TxOk P x) {w : World} {base : Heap} (tb : Tb x base) : FnD P w x.fx x.mg base 6 x.a_need_flat x.fd_need_flat ["field"] m_need_flat := by
  have sc := sc_need_flat
  exact FnD.cut (fn_mk (k := 5) t.F_need_flat sc rfl fun cdv A outer s H E dc => (dss_cons (ds_expr (de_call (k := 5) (ps := ["thing"]) (ok_need_field t tb) (dc.mono (by decide)) t.g_need_field t.F_need_field.kp t.b_need_field .nil (fun _ _ => rfl) (da_cons (de_name 0) da_nil))) (dss_one (ds_if (dt_not (dt_v (de_call (k := 1) (ps := ["heights"]) (ok_is_flat_rows t tb) (dc.mono (by decide)) t.g_is_flat_rows t.F_is_flat_rows.kp t.b_is_flat_rows .nil (fun _ _ => rfl) (da_cons (de_ix (de_name 0) de_int) da_nil)))) (dss_one (ds_raiseF "BadField" (dc.mono (j := 1) (by decide)) t.h_cl_BadField (t.cg_BadField _) de_str)) dss_nil))))
noncomputable def den_need_target_on : DenS := seqS (ifS (orD (binD (isF true) (callD (typF) (consA (nameD 1) (nilA))) (cD (.ty "tuple"))) (binD (neF) (callD (lenF) (consA (nameD 1) (nilA))) (cD (.int 3)))) (raiseS "BadTarget") (nilS)) (seqS (asgG (nameD 1) (tupG 3 (consG (nameG 2) (consG (nameG 3) (consG (nameG 4) (nilG)))))) (seqS (ifS (orD (binD (isF true) (callD (typF) (consA (nameD 2) (nilA))) (cD (.ty "int"))) (orD (binD (isF true) (callD (typF) (consA (nameD 3) (nilA))) (cD (.ty "int"))) (binD (isF true) (callD (typF) (consA (nameD 4) (nilA))) (cD (.ty "int"))))) (raiseS "BadTarget") (nilS)) (seqS (ifS (orD (unD notF (chainD leF ltF (cD (.int 0)) (nameD 3) (callD (lenF) (consA (nameD 0) (nilA))))) (unD notF (chainD leF ltF (cD (.int 0)) (nameD 2) (callD (lenF) (consA (binD ixF (nameD 0) (cD (.int 0))) (nilA)))))) (raiseS "BadTarget") (nilS)) (seqS (asgS 5 (binD ixF (nameD 0) (nameD 3))) (seqS (ifS (orD (binD (ltF) (nameD 4) (binD ixF (nameD 5) (nameD 2))) (binD (eqF) (binD fmodF (binD subF (nameD 4) (binD ixF (nameD 5) (nameD 2))) (cD (.int 2))) (cD (.int 1)))) (raiseS "BadTarget") (nilS)) (seqS (ifS (orD (binD (gtF) (nameD 4) (binD addF (binD ixF (nameD 5) (cD (.int 0))) (nameD 2))) (binD (gtF) (nameD 4) (binD subF (binD subF (binD addF (binD ixF (nameD 5) (unD negF (cD (.int 1)))) (callD (lenF) (consA (nameD 5) (nilA)))) (cD (.int 1))) (nameD 2)))) (raiseS "BadTarget") (nilS)) (ifS (orD (binD (gtF) (nameD 4) (binD addF (binD ixF (binD ixF (nameD 0) (cD (.int 0))) (nameD 2)) (nameD 3))) (binD (gtF) (nameD 4) (binD subF (binD subF (binD addF (binD ixF (binD ixF (nameD 0) (unD negF (cD (.int 1)))) (nameD 2)) (callD (lenF) (consA (nameD 0) (nilA)))) (cD (.int 1))) (nameD 3)))) (raiseS "BadTarget") (nilS))))))))
noncomputable def m_need_target_on : DenF := cutF (ofBody 6 den_need_target_on)
theorem ok_need_target_on {x : Tx} {P : Program} (t : TxOk P x) {w : World} {base : Heap} (tb : Tb x base) : FnD P w x.fx x.mg base 1 x.a_need_target_on x.fd_need_target_on ["heights", "thing"] m_need_target_on := by
  have sc := sc_need_target_on
  exact FnD.cut (fn_mk (k := 0) t.F_need_target_on sc rfl fun cdv A outer s H E dc => (dss_cons (ds_if (DW.dt (dw_or (dt_cmp is_ok opr_isnot (de_callTy typ_ok callr_type t.m_type (da_cons (de_name 1) da_nil)) (de_cls t.m_tuple) (nomark _)) (dw_or1 (dt_cmp ne_ok (opr_ne dc.u64) (de_callB len_ok call_len t.m_len (da_cons (de_name 1) da_nil)) de_int (nomark _))))) (dss_one (ds_raise "BadTarget" dc t.h_cl_BadTarget (t.cf_BadTarget _))) dss_nil) (dss_cons (ds_asg (de_name 1) (dg_tup dc.calm (dgs_cons (dg_name 2 sc.nd) (dgs_cons (dg_name 3 sc.nd) (dgs_cons (dg_name 4 sc.nd) dgs_nil))))) (dss_cons (ds_if (DW.dt (dw_or (dt_cmp is_ok opr_isnot (de_callTy typ_ok callr_type t.m_type (da_cons (de_name 2) da_nil)) (de_cls t.m_int) (nomark _)) (dw_or (dt_cmp is_ok opr_isnot (de_callTy typ_ok callr_type t.m_type (da_cons (de_name 3) da_nil)) (de_cls t.m_int) (nomark _)) (dw_or1 (dt_cmp is_ok opr_isnot (de_callTy typ_ok callr_type t.m_type (da_cons (de_name 4) da_nil)) (de_cls t.m_int) (nomark _)))))) (dss_one (ds_raise "BadTarget" dc t.h_cl_BadTarget (t.cf_BadTarget _))) dss_nil) (dss_cons (ds_if (DW.dt (dw_or (dt_not (dt_chain le_ok op_le lt_ok op_lt truths_int de_int (de_name 3) (de_callB len_ok call_len t.m_len (da_cons (de_name 0) da_nil)))) (dw_or1 (dt_not (dt_chain le_ok op_le lt_ok op_lt truths_int de_int (de_name 2) (de_callB len_ok call_len t.m_len (da_cons (de_ix (de_name 0) de_int) da_nil))))))) (dss_one (ds_raise "BadTarget" dc t.h_cl_BadTarget (t.cf_BadTarget _))) dss_nil) (dss_cons (ds_set 5 sc.nd (de_ix (de_name 0) (de_name 3))) (dss_cons (ds_if (DW.dt (dw_or (dt_cmp lt_ok op_lt (de_name 4) (de_ix (de_name 5) (de_name 2)) (nomark _)) (dw_or1 (dt_cmp eq_ok (opr_eq dc.u64) (de_bin fmod_ok op_modN (de_bin sub_ok op_sub (de_name 4) (de_ix (de_name 5) (de_name 2))) de_int) de_int (nomark _))))) (dss_one (ds_raise "BadTarget" dc t.h_cl_BadTarget (t.cf_BadTarget _))) dss_nil) (dss_cons (ds_if (DW.dt (dw_or (dt_cmp gt_ok op_gt (de_name 4) (de_bin add_ok opr_add (de_ix (de_name 5) de_int) (de_name 2)) (nomark _)) (dw_or1 (dt_cmp gt_ok op_gt (de_name 4) (de_bin sub_ok op_sub (de_bin sub_ok op_sub (de_bin add_ok opr_add (de_ix (de_name 5) (de_un neg_ok un_neg de_int)) (de_callB len_ok call_len t.m_len (da_cons (de_name 5) da_nil))) de_int) (de_name 2)) (nomark _))))) (dss_one (ds_raise "BadTarget" dc t.h_cl_BadTarget (t.cf_BadTarget _))) dss_nil) (dss_one (ds_if (DW.dt (dw_or (dt_cmp gt_ok op_gt (de_name 4) (de_bin add_ok opr_add (de_ix (de_ix (de_name 0) de_int) (de_name 2)) (de_name 3)) (nomark _)) (dw_or1 (dt_cmp gt_ok op_gt (de_name 4) (de_bin sub_ok op_sub (de_bin sub_ok op_sub (de_bin add_ok opr_add (de_ix (de_ix (de_name 0) (de_un neg_ok un_neg de_int)) (de_name 2)) (de_callB len_ok call_len t.m_len (da_cons (de_name 0) da_nil))) de_int) (de_name 3)) (nomark _))))) (dss_one (ds_raise "BadTarget" dc t.h_cl_BadTarget (t.cf_BadTarget _))) dss_nil))))))))))
noncomputable def den_need_square : DenS := seqS (dropS (fnD m_need_flat 1 [] (consA (nameD 0) (nilA)))) (seqS (dropS (fnD m_need_target_on 2 [] (consA (binD ixF (nameD 0) (cD (.int 0))) (consA (nameD 1) (nilA))))) (ifS (binD (ltF) (binD ixF (nameD 1) (cD (.int 2))) (cD (.int 1))) (raiseS "BadTarget") (nilS)))
noncomputable def m_need_square : DenF := cutF (ofBody 2 den_need_square)
theorem ok_need_square {x : Tx} {P : Program} (t : TxOk P x) {w : World} {base : Heap} (tb : Tb x base) : FnD P w x.fx x.mg base 7 x.a_need_square x.fd_need_square ["field", "target"] m_need_square := by
  have sc := sc_need_square
  exact FnD.cut (fn_mk (k := 6) t.F_need_square sc rfl fun cdv A outer s H E dc => (dss_cons (ds_expr (de_call (k := 6) (ps := ["field"]) (ok_need_flat t tb) (dc.mono (by decide)) t.g_need_flat t.F_need_flat.kp t.b_need_flat .nil (fun _ _ => rfl) (da_cons (de_name 0) da_nil))) (dss_cons (ds_expr (de_call (k := 1) (ps := ["heights", "thing"]) (ok_need_target_on t tb) (dc.mono (by decide)) t.g_need_target_on t.F_need_target_on.kp t.b_need_target_on .nil (fun _ _ => rfl) (da_cons (de_ix (de_name 0) de_int) (da_cons (de_name 1) da_nil)))) (dss_one (ds_if (dt_cmp lt_ok op_lt (de_ix (de_name 1) de_int) de_int (nomark _)) (dss_one (ds_raise "BadTarget" dc t.h_cl_BadTarget (t.cf_BadTarget _))) dss_nil)))))
noncomputable def den_at : DenS := seqS (asgG (nameD 1) (tupG 2 (consG (nameG 2) (consG (nameG 3) (nilG))))) (retS (binD ixF (binD ixF (nameD 0) (nameD 3)) (nameD 2)))
noncomputable def m_at : DenF := cutF (ofBody 4 den_at)
theorem ok_at {x : Tx} {P : Program} (t : TxOk P x) {w : World} {base : Heap} (tb : Tb x base) : FnD P w x.fx x.mg base 1 x.a_at x.fd_at ["rows", "spot"] m_at := by
  have sc := sc_at
  exact FnD.cut (fn_mk (k := 0) t.F_at sc rfl fun cdv A outer s H E dc => (dss_cons (ds_asg (de_name 1) (dg_tup dc.calm (dgs_cons (dg_name 2 sc.nd) (dgs_cons (dg_name 3 sc.nd) dgs_nil)))) (dss_one (ds_ret (de_ix (de_ix (de_name 0) (de_name 3)) (de_name 2))))))
noncomputable def den__worths_at : DenS := retS (callD (tupcF) (consA (cutE (compD (set1 2) (cD (.bl true)) (callD (tupcF) (consA (cutE (compD (set1 3) (cD (.bl true)) (fnD m_at 2 [] (consA (binD ixF (nameD 0) (cD (.int 1))) (consA (nameD 3) (nilA)))) [3] (itD (nameD 2)))) (nilA))) [2] (itD (nameD 1)))) (nilA)))
noncomputable def m__worths_at : DenF := cutF (ofBody 4 den__worths_at)
theorem ok__worths_at {x : Tx} {P : Program} (t : TxOk P x) {w : World} {base : Heap} (tb : Tb x base) : FnD P w x.fx x.mg base 2 x.a__worths_at x.fd__worths_at ["field", "spots"] m__worths_at := by
  have sc := sc__worths_at
  exact FnD.cut (fn_mk (k := 1) t.F__worths_at sc rfl fun cdv A outer s H E dc => (dss_one (ds_ret (de_callTy tupc_ok callr_tuple t.m_tuple (da_cons (de_cut (de_comp (own := [("row", 2)]) dc sc.nd (di_sq (de_name 1)) (blkOk_by (own := [("row", 2)]) (by rfl)) (fun _ _ _ _ _ => pg_name sc.nd (i := 2) rfl (by first | exact Or.inl rfl | exact Or.inr rfl) (by first | exact .inl rfl | exact .inr rfl)) (tg1 (vs := [2]) (by decide)) (fun _ _ _ _ _ _ => pts_yes) (fun _ _ _ _ _ dc => (de_callTy tupc_ok callr_tuple t.m_tuple (da_cons (de_cut (de_comp (own := [("spot", 3)]) dc sc.nd (di_sq (de_name 2)) (blkOk_by (own := [("spot", 3)]) (by rfl)) (fun _ _ _ _ _ => pg_name sc.nd (i := 3) rfl (by first | exact Or.inl rfl | exact Or.inr rfl) (by first | exact .inl rfl | exact .inr rfl)) (tg1 (vs := [3]) (by decide)) (fun _ _ _ _ _ _ => pts_yes) (fun _ _ _ _ _ dc => (de_call (k := 1) (ps := ["rows", "spot"]) (ok_at t tb) (dc.mono (by decide)) t.g_at t.F_at.kp t.b_at .nil (fun _ _ => rfl) (da_cons (de_ix (de_name 0) de_int) (da_cons (de_name 3) da_nil)))))) da_nil))))) da_nil)))))
noncomputable def den_square_of : DenS := seqS (asgG (nameD 0) (tupG 3 (consG (nameG 1) (consG (nameG 2) (consG (nameG 3) (nilG)))))) (retS (callD (tupcF) (consA (cutE (compD (set1 4) (cD (.bl true)) (callD (tupcF) (consA (cutE (compD (set1 5) (cD (.bl true)) (tupD (consA (binD addF (binD subF (binD addF (binD addF (nameD 1) (nameD 4)) (nameD 5)) (nameD 3)) (cD (.int 1))) (consA (binD subF (binD addF (nameD 2) (nameD 4)) (nameD 5)) (nilA)))) [5] (rng1 (consA (nameD 3) (nilA))))) (nilA))) [4] (rng1 (consA (nameD 3) (nilA))))) (nilA))))
noncomputable def m_square_of : DenF := cutF (ofBody 6 den_square_of)
theorem ok_square_of {x : Tx} {P : Program} (t : TxOk P x) {w : World} {base : Heap} (tb : Tb x base) : FnD P w x.fx x.mg base 1 x.a_square_of x.fd_square_of ["target"] m_square_of := by
  have sc := sc_square_of
  exact FnD.cut (fn_mk (k := 0) t.F_square_of sc rfl fun cdv A outer s H E dc => (dss_cons (ds_asg (de_name 0) (dg_tup dc.calm (dgs_cons (dg_name 1 sc.nd) (dgs_cons (dg_name 2 sc.nd) (dgs_cons (dg_name 3 sc.nd) dgs_nil))))) (dss_one (ds_ret (de_callTy tupc_ok callr_tuple t.m_tuple (da_cons (de_cut (de_comp (own := [("i", 4)]) dc sc.nd (di_rng1 t.m_range (de_name 3)) (blkOk_by (own := [("i", 4)]) (by rfl)) (fun _ _ _ _ _ => pg_name sc.nd (i := 4) rfl (by first | exact Or.inl rfl | exact Or.inr rfl) (by first | exact .inl rfl | exact .inr rfl)) (tg1 (vs := [4]) (by decide)) (fun _ _ _ _ _ _ => pts_yes) (fun _ _ _ _ _ dc => (de_callTy tupc_ok callr_tuple t.m_tuple (da_cons (de_cut (de_comp (own := [("j", 5)]) dc sc.nd (di_rng1 t.m_range (de_name 3)) (blkOk_by (own := [("j", 5)]) (by rfl)) (fun _ _ _ _ _ => pg_name sc.nd (i := 5) rfl (by first | exact Or.inl rfl | exact Or.inr rfl) (by first | exact .inl rfl | exact .inr rfl)) (tg1 (vs := [5]) (by decide)) (fun _ _ _ _ _ _ => pts_yes) (fun _ _ _ _ _ dc => (de_tup (da_cons (de_bin add_ok opr_add (de_bin sub_ok op_sub (de_bin add_ok opr_add (de_bin add_ok opr_add (de_name 1) (de_name 4)) (de_name 5)) (de_name 3)) de_int) (da_cons (de_bin sub_ok op_sub (de_bin add_ok opr_add (de_name 2) (de_name 4)) (de_name 5)) da_nil)))))) da_nil))))) da_nil))))))
noncomputable def den_square_worths : DenS := seqS (dropS (fnD m_need_square 2 [] (consA (nameD 0) (consA (nameD 1) (nilA))))) (retS (fnD m__worths_at 2 [] (consA (nameD 0) (consA (fnD m_square_of 1 [] (consA (nameD 1) (nilA))) (nilA)))))
noncomputable def m_square_worths : DenF := cutF (ofBody 2 den_square_worths)
theorem ok_square_worths {x : Tx} {P : Program} (t : TxOk P x) {w : World} {base : Heap} (tb : Tb x base) : FnD P w x.fx x.mg base 8 x.a_square_worths x.fd_square_worths ["field", "target"] m_square_worths := by
  have sc := sc_square_worths
  exact FnD.cut (fn_mk (k := 7) t.F_square_worths sc rfl fun cdv A outer s H E dc => (dss_cons (ds_expr (de_call (k := 7) (ps := ["field", "target"]) (ok_need_square t tb) (dc.mono (by decide)) t.g_need_square t.F_need_square.kp t.b_need_square .nil (fun _ _ => rfl) (da_cons (de_name 0) (da_cons (de_name 1) da_nil)))) (dss_one (ds_ret (de_call (k := 2) (ps := ["field", "spots"]) (ok__worths_at t tb) (dc.mono (by decide)) t.g__worths_at t.F__worths_at.kp t.b__worths_at .nil (fun _ _ => rfl) (da_cons (de_name 0) (da_cons (de_call (k := 1) (ps := ["target"]) (ok_square_of t tb) (dc.mono (by decide)) t.g_square_of t.F_square_of.kp t.b_square_of .nil (fun _ _ => rfl) (da_cons (de_name 1) da_nil)) da_nil)))))))
noncomputable def den__is_row : DenS := seqS (ifS (unD notF (tstD (fnD m_is_tuple_of 2 [] (consA (nameD 0) (consA (nameD 1) (nilA)))))) (retS (cD (.bl false))) (nilS)) (seqS (forI (nameG 2) (itD (nameD 0)) (seqS (ifS (orD (binD (isF true) (callD (typF) (consA (nameD 2) (nilA))) (cD (.ty "tuple"))) (binD (neF) (callD (lenF) (consA (nameD 2) (nilA))) (cD (.int 2)))) (retS (cD (.bl false))) (nilS)) (seqS (asgG (nameD 2) (tupG 2 (consG (nameG 3) (consG (nameG 4) (nilG))))) (seqS (ifS (orD (binD (isF true) (callD (typF) (consA (nameD 3) (nilA))) (cD (.ty "int"))) (binD (isF true) (callD (typF) (consA (nameD 4) (nilA))) (cD (.ty "int")))) (retS (cD (.bl false))) (nilS)) (ifS (andD (binD (neF) (nameD 4) (cD (.int 1))) (orD (binD (ltF) (nameD 4) (cD (.int 1))) (binD (neF) (callD gcdF (consA (nameD 3) (consA (nameD 4) (nilA)))) (cD (.int 1))))) (retS (cD (.bl false))) (nilS)))))) (retS (cD (.bl true))))
noncomputable def m__is_row : DenF := cutF (ofBody 5 den__is_row)
theorem ok__is_row {x : Tx} {P : Program} (t : TxOk P x) {w : World} {base : Heap} (tb : Tb x base) : FnD P w x.fx x.mg base 2 x.a__is_row x.fd__is_row ["thing", "many"] m__is_row := by
  have sc := sc__is_row
  exact FnD.cut (fn_mk (k := 1) t.F__is_row sc rfl fun cdv A outer s H E dc => (dss_cons (ds_if (dt_not (dt_v (de_call (k := 1) (ps := ["thing", "many"]) (ok_is_tuple_of t tb) (dc.mono (by decide)) t.g_is_tuple_of t.F_is_tuple_of.kp t.b_is_tuple_of .nil (fun _ _ => rfl) (da_cons (de_name 0) (da_cons (de_name 1) da_nil))))) (dss_one (ds_ret de_bl)) dss_nil) (dss_cons (ds_forI dc (di_sq (de_name 0)) (dg_name 2 sc.nd) (dss_cons (ds_if (DW.dt (dw_or (dt_cmp is_ok opr_isnot (de_callTy typ_ok callr_type t.m_type (da_cons (de_name 2) da_nil)) (de_cls t.m_tuple) (nomark _)) (dw_or1 (dt_cmp ne_ok (opr_ne dc.u64) (de_callB len_ok call_len t.m_len (da_cons (de_name 2) da_nil)) de_int (nomark _))))) (dss_one (ds_ret de_bl)) dss_nil) (dss_cons (ds_asg (de_name 2) (dg_tup dc.calm (dgs_cons (dg_name 3 sc.nd) (dgs_cons (dg_name 4 sc.nd) dgs_nil)))) (dss_cons (ds_if (DW.dt (dw_or (dt_cmp is_ok opr_isnot (de_callTy typ_ok callr_type t.m_type (da_cons (de_name 3) da_nil)) (de_cls t.m_int) (nomark _)) (dw_or1 (dt_cmp is_ok opr_isnot (de_callTy typ_ok callr_type t.m_type (da_cons (de_name 4) da_nil)) (de_cls t.m_int) (nomark _))))) (dss_one (ds_ret de_bl)) dss_nil) (dss_one (ds_if (DW.dt (dw_and (dt_cmp ne_ok (opr_ne dc.u64) (de_name 4) de_int (nomark _)) (dw_and1 (DW.dt (dw_or (dt_cmp lt_ok op_lt (de_name 4) de_int (nomark _)) (dw_or1 (dt_cmp ne_ok (opr_ne dc.u64) (de_callG gcd_ok cr_gcd t.m_gcd (da_cons (de_name 3) (da_cons (de_name 4) da_nil))) de_int (nomark _)))))))) (dss_one (ds_ret de_bl)) dss_nil)))))) (dss_one (ds_ret de_bl)))))
noncomputable def den_need_rows : DenS := seqS (ifS (orD (binD (isF true) (callD (typF) (consA (nameD 0) (nilA))) (cD (.ty "tuple"))) (unD notF (chainD leF leF (nameD 1) (callD (lenF) (consA (nameD 0) (nilA))) (nameD 2)))) (raiseS "BadRows") (nilS)) (forI (nameG 3) (itD (nameD 0)) (ifS (unD notF (tstD (fnD m__is_row 2 [] (consA (nameD 3) (consA (callD (lenF) (consA (nameD 0) (nilA))) (nilA)))))) (raiseS "BadRows") (nilS)))
noncomputable def m_need_rows : DenF := cutF (ofBody 4 den_need_rows)
theorem ok_need_rows {x : Tx} {P : Program} (t : TxOk P x) {w : World} {base : Heap} (tb : Tb x base) : FnD P w x.fx x.mg base 3 x.a_need_rows x.fd_need_rows ["thing", "least", "most"] m_need_rows := by
  have sc := sc_need_rows
  exact FnD.cut (fn_mk (k := 2) t.F_need_rows sc rfl fun cdv A outer s H E dc => (dss_cons (ds_if (DW.dt (dw_or (dt_cmp is_ok opr_isnot (de_callTy typ_ok callr_type t.m_type (da_cons (de_name 0) da_nil)) (de_cls t.m_tuple) (nomark _)) (dw_or1 (dt_not (dt_chain le_ok op_le le_ok op_le truths_int (de_name 1) (de_callB len_ok call_len t.m_len (da_cons (de_name 0) da_nil)) (de_name 2)))))) (dss_one (ds_raise "BadRows" dc t.h_cl_BadRows (t.cf_BadRows _))) dss_nil) (dss_one (ds_forI dc (di_sq (de_name 0)) (dg_name 3 sc.nd) (dss_one (ds_if (dt_not (dt_v (de_call (k := 2) (ps := ["thing", "many"]) (ok__is_row t tb) (dc.mono (by decide)) t.g__is_row t.F__is_row.kp t.b__is_row .nil (fun _ _ => rfl) (da_cons (de_name 3) (da_cons (de_callB len_ok call_len t.m_len (da_cons (de_name 0) da_nil)) da_nil))))) (dss_one (ds_raise "BadRows" dc t.h_cl_BadRows (t.cf_BadRows _))) dss_nil))))))
noncomputable def den_need_no_nought : DenS := forI (nameG 1) (itD (nameD 0)) (forI (tupG 2 (consG (nameG 2) (consG (nameG 3) (nilG)))) (itD (nameD 1)) (ifS (binD (eqF) (nameD 2) (cD (.int 0))) (raiseS "BadRows") (nilS)))
noncomputable def m_need_no_nought : DenF := cutF (ofBody 4 den_need_no_nought)
theorem ok_need_no_nought {x : Tx} {P : Program} (t : TxOk P x) {w : World} {base : Heap} (tb : Tb x base) : FnD P w x.fx x.mg base 1 x.a_need_no_nought x.fd_need_no_nought ["rows"] m_need_no_nought := by
  have sc := sc_need_no_nought
  exact FnD.cut (fn_mk (k := 0) t.F_need_no_nought sc rfl fun cdv A outer s H E dc => (dss_one (ds_forI dc (di_sq (de_name 0)) (dg_name 1 sc.nd) (dss_one (ds_forI dc (di_sq (de_name 1)) (dg_tup dc.calm (dgs_cons (dg_name 2 sc.nd) (dgs_cons (dg_name 3 sc.nd) dgs_nil))) (dss_one (ds_if (dt_cmp eq_ok (opr_eq dc.u64) (de_name 2) de_int (nomark _)) (dss_one (ds_raise "BadRows" dc t.h_cl_BadRows (t.cf_BadRows _))) dss_nil)))))))
noncomputable def den_need_number : DenS := ifS (orD (unD notF (tstD (fnD m_is_whole 1 [] (consA (nameD 0) (nilA))))) (unD notF (chainD leF leF (nameD 1) (nameD 0) (nameD 2)))) (raiseS "BadOrder") (nilS)
noncomputable def m_need_number : DenF := cutF (ofBody 3 den_need_number)
theorem ok_need_number {x : Tx} {P : Program} (t : TxOk P x) {w : World} {base : Heap} (tb : Tb x base) : FnD P w x.fx x.mg base 2 x.a_need_number x.fd_need_number ["thing", "least", "most"] m_need_number := by
  have sc := sc_need_number
  exact FnD.cut (fn_mk (k := 1) t.F_need_number sc rfl fun cdv A outer s H E dc => (dss_one (ds_if (DW.dt (dw_or (dt_not (dt_v (de_call (k := 1) (ps := ["thing"]) (ok_is_whole t tb) (dc.mono (by decide)) t.g_is_whole t.F_is_whole.kp t.b_is_whole .nil (fun _ _ => rfl) (da_cons (de_name 0) da_nil)))) (dw_or1 (dt_not (dt_chain le_ok op_le le_ok op_le truths_int (de_name 1) (de_name 0) (de_name 2)))))) (dss_one (ds_raise "BadOrder" dc t.h_cl_BadOrder (t.cf_BadOrder _))) dss_nil)))
noncomputable def den_rows_by (cl : D) (cden : D → Store → RE) : DenS := seqS (asgG (nameD 0) (tupG 2 (consG (nameG 2) (consG (nameG 3) (nilG))))) (retS (callD (tupcF) (consA (cutE (compD (set1 4) (cD (.bl true)) (callD (tupcF) (consA (cutE (compD (set1 5) (cD (.bl true)) (callC1 1 cl cden (tupD (consA (nameD 5) (consA (nameD 4) (nilA))))) [5] (rng1 (consA (nameD 2) (nilA))))) (nilA))) [4] (rng1 (consA (nameD 3) (nilA))))) (nilA))))
theorem ok_rows_by {x : Tx} {P : Program} (t : TxOk P x) {w : World} {base : Heap} (tb : Tb x base) {A : Around} {stk : List PySem.Env} {s : Shared} {H : Hp} {cdg : Value} {k : Nat} (cl : D) (cden : D → Store → RE) (dc : Dc (cxOf (L2.CX P w) P w x.fx.K x.mg base ["size", "told", "wide", "high", "y", "x"] "rows_by" (defScope s_rows_by) x.a_rows_by cdg A stk s H E0) (fun cls d _ H => E0 cls d H) k)
    (act : Act1 x.fx (cxOf (L2.CX P w) P w x.fx.K x.mg base ["size", "told", "wide", "high", "y", "x"] "rows_by" (defScope s_rows_by) x.a_rows_by cdg A stk s H E0) base "told" k cl cden) :
    DSs x.fx (cxOf (L2.CX P w) P w x.fx.K x.mg base ["size", "told", "wide", "high", "y", "x"] "rows_by" (defScope s_rows_by) x.a_rows_by cdg A stk s H E0) (fun cls d _ H => E0 cls d H) (defBody s_rows_by) (den_rows_by cl cden) := by
  have sc := sc_rows_by
  exact (dss_cons (ds_asg (de_name 0) (dg_tup dc.calm (dgs_cons (dg_name 2 sc.nd) (dgs_cons (dg_name 3 sc.nd) dgs_nil)))) (dss_one (ds_ret (de_callTy tupc_ok callr_tuple t.m_tuple (da_cons (de_cut (de_comp (own := [("y", 4)]) dc sc.nd (di_rng1 t.m_range (de_name 3)) (blkOk_by (own := [("y", 4)]) (by rfl)) (fun _ _ _ _ _ => pg_name sc.nd (i := 4) rfl (by first | exact Or.inl rfl | exact Or.inr rfl) (by first | exact .inl rfl | exact .inr rfl)) (tg1 (vs := [4]) (by decide)) (fun _ _ _ _ _ _ => pts_yes) (fun _ _ _ _ _ dc => (de_callTy tupc_ok callr_tuple t.m_tuple (da_cons (de_cut (de_comp (own := [("x", 5)]) dc sc.nd (di_rng1 t.m_range (de_name 2)) (blkOk_by (own := [("x", 5)]) (by rfl)) (fun _ _ _ _ _ => pg_name sc.nd (i := 5) rfl (by first | exact Or.inl rfl | exact Or.inr rfl) (by first | exact .inl rfl | exact .inr rfl)) (tg1 (vs := [5]) (by decide)) (fun _ _ _ _ _ _ => pts_yes) (fun _ _ _ _ _ dc => (act _ _ 1 _ _ _ _ rfl rfl rfl rfl rfl rfl (by first | exact Or.inl rfl | exact Or.inr (Or.inl rfl) | exact Or.inr (Or.inr rfl)) (by exact dc) (da_cons (de_tup (da_cons (de_name 5) (da_cons (de_name 4) da_nil))) da_nil) rfl)))) da_nil))))) da_nil)))))
section
variable {n : Nat} {f : Nat → D} {di : DenI} {de : DenE} {e : DL.Env} {g : Nat → D}
theorem tupcomp0 {i : Nat} (hdi : ∀ M, di e M = ok ((List.range n).map g, fun _ => True) M) (hn : n ≤ 100) (hde : ∀ k, k < n → ∀ M, de (e.set i (some (g k))) M = ok (f k) M) (nl : ∀ k, k < n → nlD 0 (f k) = true) (M : Store) :
    callD tupcF (consA (cutE (compD (set1 i) (cD (.bl true)) de [i] di)) nilA) e M = ok (rowD n f) M := by
  have hc := comp_v (M := M) (set := set1 i) (vs := [i]) (de := de) (g := g) (f := f) (e := e) (List.range n) (hdi M) (by rw [List.length_range]; omega) (fun k hk => ⟨e.set i (some (g k)), by
    show some ((e.set i none).set i (some (g k))) = _
    rw [List.set_set], hde k (List.mem_range.mp hk)⟩) (fun k hk => nl k (List.mem_range.mp hk))
  show bindE (bindE (cutE _ e M) fun d M1 => bindE (ok [] M1) fun ds M2 => ok (d :: ds) M2) tupcF = _
  rw [hc]
  exact tup_row (by omega)
end
def RowsOk (sz : D) (cden : D → Store → RE) (w h : Nat) (f : Nat → Nat → D) : Prop := sz = .tup [.int (w : Int), .int (h : Int)] ∧ w ≤ 11 ∧ h ≤ 11 ∧ (∀ x y, x < w → y < h → nlD 0 (f x y) = true) ∧ ∀ x y M, x < w → y < h → cden (.tup [.int (x : Int), .int (y : Int)]) M = ok (f x y) M
open Classical in
noncomputable def gd_rows_by (sz : D) (cden : D → Store → RE) (M : Store) : RE :=
  if q : ∃ (w h : Nat) (f : Nat → Nat → D), RowsOk sz cden w h f then ok (tabD q.choose q.choose_spec.choose q.choose_spec.choose_spec.choose) M else none
theorem rows_body {cl : D} {cden : D → Store → RE} {w h : Nat} {f : Nat → Nat → D} {sz : D} (r : RowsOk sz cden w h f) (M : Store) : ofBody 6 (den_rows_by cl cden) [sz, cl] M = ok (tabD w h f) M := by
  obtain ⟨rfl, hw, hh, nl, hd⟩ := r
  obtain ⟨W, hW⟩ : ∃ i : Int, i = (w : Int) := ⟨_, rfl⟩
  obtain ⟨H, hH⟩ : ∃ i : Int, i = (h : Int) := ⟨_, rfl⟩
  rw [← hW, ← hH]
  have st : den_rows_by cl cden [some (.tup [.int W, .int H]), some cl, none, none, none, none] M = some (.rt (tabD w h f), M) := by
    unfold den_rows_by
    rw [seq_nx (e' := [some (.tup [.int W, .int H]), some cl, some (.int W), some (.int H), none, none]) (M' := M) rfl]
    have t := tupcomp0 (n := h) (f := fun y => rowD w fun x => f x y) (i := 4) (e := [some (.tup [.int W, .int H]), some cl, some (.int W), some (.int H), none, none]) (g := fun y => D.int (y : Int)) (di := rng1 (consA (nameD 3) (nilA)))
      (de := callD (tupcF) (consA (cutE (compD (set1 5) (cD (.bl true)) (callC1 1 cl cden (tupD (consA (nameD 5) (consA (nameD 4) (nilA))))) [5] (rng1 (consA (nameD 2) (nilA))))) (nilA)))
      (fun M => it_rng (by rw [← hH]; rfl) (by omega)) (by omega) (fun y hy M => by
        refine tupcomp0 (n := w) (f := fun x => f x y) (i := 5) (g := fun x => D.int (x : Int)) (fun M => it_rng (by rw [← hW]; rfl) (by omega)) (by omega) (fun x hx M => ?_) (fun x hx => nl x y hx hy) M
        exact (callC1_at (i := 1) (cl := cl) (d := .tup [.int (x : Int), .int (y : Int)]) rfl rfl).trans (hd x y M hx hy)) (fun y hy => nl_row fun x hx => nl x y hx hy) M
    show retS _ _ M = _
    unfold retS
    rw [t]
    rfl
  exact body_rt st
theorem gd_rows_by_eq (cl : D) (cden : D → Store → RE) (v : D) (M : Store) : gd_rows_by v cden M = none ∨ cutR M (ofBody 6 (den_rows_by cl cden) [v, cl] M) = gd_rows_by v cden M := by
  unfold gd_rows_by
  by_cases q : ∃ (w h : Nat) (f : Nat → Nat → D), RowsOk v cden w h f
  · rw [dif_pos q]
    have r := q.choose_spec.choose_spec.choose_spec
    rw [rows_body r]
    refine .inr ?_
    have nl : nlD 0 (tabD q.choose q.choose_spec.choose q.choose_spec.choose_spec.choose) = true := nl_row fun y hy => nl_row fun x hx => r.2.2.2.1 x y hx hy
    unfold cutR
    simp only [ok]
    rw [if_pos (show CutOk M M from ⟨Nat.le_refl _, fun _ _ _ e => .inl e⟩), cutD_pd nl, List.take_length]
  · rw [dif_neg q]
    exact .inl rfl
/-- whatever tells the same table -/
theorem gd_rows_is {cden : D → Store → RE} {w h : Nat} {f : Nat → Nat → D} {sz : D} (r : RowsOk sz cden w h f) (M : Store) : gd_rows_by sz cden M = ok (tabD w h f) M := by
  have q : ∃ (w h : Nat) (f : Nat → Nat → D), RowsOk sz cden w h f := ⟨w, h, f, r⟩
  have e : gd_rows_by sz cden M = ok (tabD q.choose q.choose_spec.choose q.choose_spec.choose_spec.choose) M := by
    unfold gd_rows_by
    exact dif_pos q
  have r2 := q.choose_spec.choose_spec.choose_spec
  have b1 := rows_body (cl := .non) r M
  have b2 := rows_body (cl := .non) r2 M
  rw [b1] at b2
  rw [e]
  exact b2.symm
noncomputable def den__flat_heights : DenS := retS (lam1D gd_rows_by (nameD 0) (binD fmodF (binD addF (binD ixF (nameD 1) (cD (.int 0))) (binD ixF (nameD 1) (cD (.int 1)))) (cD (.int 2))))
noncomputable def m__flat_heights : DenF := cutF (ofBody 1 den__flat_heights)
theorem ok__flat_heights {x : Tx} {P : Program} (t : TxOk P x) {w : World} {base : Heap} (tb : Tb x base) : FnD P w x.fx x.mg base 10 x.a__flat_heights x.fd__flat_heights ["size"] m__flat_heights := by
  have sc := sc__flat_heights
  exact FnD.cut (fn_mkC (k := 9) t.F__flat_heights t.code__flat_heights sc rfl fun A outer s H E dc => (dss_one (ds_ret (de_lam1 (k := 6) (dc.mono (by decide)) t.g_rows_by t.F_rows_by t.b_rows_by sc_rows_by rfl (tb.b__flat_heights) rfl qual_cx t.inT__flat_heights t.uniq__flat_heights (lamS1_by (p := "spot") (sc := defScope s__flat_heights) (by decide +kernel)) (fun _ => rfl) (show ("spot" : Str) ∉ (["size"] : List Str) by decide) (de_name 0) (fun b1 hb1 A1 outer1 s1 H1 E1 f1 c1 dl => (de_bin fmod_ok op_modN (de_bin add_ok opr_add (de_ix (de_name 1) de_int) (de_ix (de_name 1) de_int)) de_int)) (fun b1 hb1 _ _ _ cl cden dcz act1 => ok_rows_by t (tb.up hb1) cl cden dcz act1) gd_rows_by_eq (fun _ _ _ _ _ _ => rfl)))))
noncomputable def den_flat : DenS := seqS (dropS (fnD m_need_number 3 [] (consA (nameD 0) (consA (cD (.int 1)) (consA (cD (.int (11))) (nilA)))))) (seqS (dropS (fnD m_need_number 3 [] (consA (nameD 1) (consA (cD (.int 1)) (consA (cD (.int (11))) (nilA)))))) (retS (tupD (consA (fnD m__flat_heights 1 [] (consA (tupD (consA (nameD 0) (consA (nameD 1) (nilA)))) (nilA))) (consA (lam1D gd_rows_by (tupD (consA (nameD 0) (consA (nameD 1) (nilA)))) (tupD (consA (cD (.int 1)) (consA (cD (.int 1)) (nilA))))) (nilA))))))
noncomputable def m_flat : DenF := cutF (ofBody 2 den_flat)
theorem ok_flat {x : Tx} {P : Program} (t : TxOk P x) {w : World} {base : Heap} (tb : Tb x base) : FnD P w x.fx x.mg base 11 x.a_flat x.fd_flat ["wide", "high"] m_flat := by
  have sc := sc_flat
  exact FnD.cut (fn_mkC (k := 10) t.F_flat t.code_flat sc rfl fun A outer s H E dc => (dss_cons (ds_expr (de_call (k := 2) (ps := ["thing", "least", "most"]) (ok_need_number t tb) (dc.mono (by decide)) t.g_need_number t.F_need_number.kp t.b_need_number .nil (fun _ _ => rfl) (da_cons (de_name 0) (da_cons de_int (da_cons (de_numE t.n_MOST_SIDE) da_nil))))) (dss_cons (ds_expr (de_call (k := 2) (ps := ["thing", "least", "most"]) (ok_need_number t tb) (dc.mono (by decide)) t.g_need_number t.F_need_number.kp t.b_need_number .nil (fun _ _ => rfl) (da_cons (de_name 1) (da_cons de_int (da_cons (de_numE t.n_MOST_SIDE) da_nil))))) (dss_one (ds_ret (de_tup (da_cons (de_call (k := 10) (ps := ["size"]) (ok__flat_heights t tb) (dc.mono (by decide)) t.g__flat_heights t.F__flat_heights.kp t.b__flat_heights .nil (fun _ _ => rfl) (da_cons (de_tup (da_cons (de_name 0) (da_cons (de_name 1) da_nil))) da_nil)) (da_cons (de_lam1 (k := 6) (dc.mono (by decide)) t.g_rows_by t.F_rows_by t.b_rows_by sc_rows_by rfl (tb.b_flat) rfl qual_cx t.inT_flat t.uniq_flat (lamS1_by (p := "spot") (sc := defScope s_flat) (by decide +kernel)) (fun _ => rfl) (show ("spot" : Str) ∉ (["wide", "high"] : List Str) by decide) (de_tup (da_cons (de_name 0) (da_cons (de_name 1) da_nil))) (fun b1 hb1 A1 outer1 s1 H1 E1 f1 c1 dl => (de_tup (da_cons de_int (da_cons de_int da_nil)))) (fun b1 hb1 _ _ _ cl cden dcz act1 => ok_rows_by t (tb.up hb1) cl cden dcz act1) gd_rows_by_eq (fun _ _ _ _ _ _ => rfl)) da_nil))))))))
noncomputable def den_field_by : DenS := seqS (dropS (fnD m_need_rows 3 [] (consA (nameD 0) (consA (cD (.int 1)) (consA (cD (.int (6))) (nilA)))))) (seqS (dropS (fnD m_need_no_nought 1 [] (consA (nameD 0) (nilA)))) (seqS (asgG (fnD m_frame 1 [] (consA (callD (lenF) (consA (nameD 0) (nilA))) (nilA))) (tupG 4 (consG (nameG 1) (consG (nameG 2) (consG (nameG 3) (consG (nameG 4) (nilG))))))) (seqS (asgG (fnD m_flat 2 [] (consA (nameD 1) (consA (nameD 2) (nilA)))) (tupG 2 (consG (nameG 5) (consG (nameG 6) (nilG))))) (seqS (asgS 7 (compD (set1 9) (cD (.bl true)) (callD (lstcOF) (consA (nameD 9) (nilA))) [9] (itD (nameD 6)))) (seqS (forI (tupG 2 (consG (nameG 8) (consG (nameG 9) (nilG)))) (zipD (consA (fnD m_square_of 1 [] (consA (tupD (consA (nameD 3) (consA (nameD 4) (consA (callD (lenF) (consA (nameD 0) (nilA))) (nilA))))) (nilA))) (consA (nameD 0) nilA))) (forI (tupG 2 (consG (tupG 2 (consG (nameG 10) (consG (nameG 11) (nilG)))) (consG (nameG 12) (nilG)))) (zipD (consA (nameD 8) (consA (nameD 9) nilA))) (asgG (nameD 12) (subG (binD ixF (nameD 7) (nameD 11)) (nameD 10))))) (retS (tupD (consA (nameD 5) (consA (callD (tupcF) (consA (cutE (compD (set1 13) (cD (.bl true)) (callD (tupcF) (consA (nameD 13) (nilA))) [13] (itD (nameD 7)))) (nilA))) (nilA))))))))))
noncomputable def m_field_by : DenF := cutF (ofBody 14 den_field_by)
theorem ok_field_by {x : Tx} {P : Program} (t : TxOk P x) {w : World} {base : Heap} (tb : Tb x base) : FnD P w x.fx x.mg base 12 x.a_field_by x.fd_field_by ["rows"] m_field_by := by
  have sc := sc_field_by
  exact FnD.cut (fn_mk (k := 11) t.F_field_by sc rfl fun cdv A outer s H E dc => (dss_cons (ds_expr (de_call (k := 3) (ps := ["thing", "least", "most"]) (ok_need_rows t tb) (dc.mono (by decide)) t.g_need_rows t.F_need_rows.kp t.b_need_rows .nil (fun _ _ => rfl) (da_cons (de_name 0) (da_cons de_int (da_cons (de_numE t.n_MOST_FRAME) da_nil))))) (dss_cons (ds_expr (de_call (k := 1) (ps := ["rows"]) (ok_need_no_nought t tb) (dc.mono (by decide)) t.g_need_no_nought t.F_need_no_nought.kp t.b_need_no_nought .nil (fun _ _ => rfl) (da_cons (de_name 0) da_nil))) (dss_cons (ds_asg (de_call (k := 2) (ps := ["size"]) (ok_frame t tb) (dc.mono (by decide)) t.g_frame t.F_frame.kp t.b_frame .nil (fun _ _ => rfl) (da_cons (de_callB len_ok call_len t.m_len (da_cons (de_name 0) da_nil)) da_nil)) (dg_tup dc.calm (dgs_cons (dg_name 1 sc.nd) (dgs_cons (dg_name 2 sc.nd) (dgs_cons (dg_name 3 sc.nd) (dgs_cons (dg_name 4 sc.nd) dgs_nil)))))) (dss_cons (ds_asg (de_call (k := 11) (ps := ["wide", "high"]) (ok_flat t tb) (dc.mono (by decide)) t.g_flat t.F_flat.kp t.b_flat .nil (fun _ _ => rfl) (da_cons (de_name 1) (da_cons (de_name 2) da_nil))) (dg_tup dc.calm (dgs_cons (dg_name 5 sc.nd) (dgs_cons (dg_name 6 sc.nd) dgs_nil)))) (dss_cons (DSet.ds (dset_comp 7 (own := [("row", 9)]) dc sc.nd (di_sq (de_name 6)) (blkOk_by (own := [("row", 9)]) (by rfl)) (fun _ _ _ _ _ => pg_name sc.nd (i := 9) rfl (by first | exact Or.inl rfl | exact Or.inr rfl) (by first | exact .inl rfl | exact .inr rfl)) (tg1 (vs := [9]) (by decide)) (fun _ _ _ _ _ _ => pts_yes) (fun _ _ _ _ _ dc => (de_callTy lstcO_ok callr_list t.m_list (da_cons (de_name 9) da_nil))))) (dss_cons (ds_forI dc (di_zip t.m_zip (de_call (k := 1) (ps := ["target"]) (ok_square_of t tb) (dc.mono (by decide)) t.g_square_of t.F_square_of.kp t.b_square_of .nil (fun _ _ => rfl) (da_cons (de_tup (da_cons (de_name 3) (da_cons (de_name 4) (da_cons (de_callB len_ok call_len t.m_len (da_cons (de_name 0) da_nil)) da_nil)))) da_nil)) (de_name 0)) (dg_tup dc.calm (dgs_cons (dg_name 8 sc.nd) (dgs_cons (dg_name 9 sc.nd) dgs_nil))) (dss_one (ds_forI dc (di_zip t.m_zip (de_name 8) (de_name 9)) (dg_tup dc.calm (dgs_cons (dg_tup dc.calm (dgs_cons (dg_name 10 sc.nd) (dgs_cons (dg_name 11 sc.nd) dgs_nil))) (dgs_cons (dg_name 12 sc.nd) dgs_nil))) (dss_one (ds_asg (de_name 12) (dg_sub (de_ix (de_name 7) (de_name 11)) (de_name 10))))))) (dss_one (ds_ret (de_tup (da_cons (de_name 5) (da_cons (de_callTy tupc_ok callr_tuple t.m_tuple (da_cons (de_cut (de_comp (own := [("line", 13)]) dc sc.nd (di_sq (de_name 7)) (blkOk_by (own := [("line", 13)]) (by rfl)) (fun _ _ _ _ _ => pg_name sc.nd (i := 13) rfl (by first | exact Or.inl rfl | exact Or.inr rfl) (by first | exact .inl rfl | exact .inr rfl)) (tg1 (vs := [13]) (by decide)) (fun _ _ _ _ _ _ => pts_yes) (fun _ _ _ _ _ dc => (de_callTy tupc_ok callr_tuple t.m_tuple (da_cons (de_name 13) da_nil))))) da_nil)) da_nil))))))))))))
noncomputable def den_law : DenS := seqS (ownS 1 (consA (cD (.int 0)) (nilA))) (seqS (forI (nameG 2) (rng2 (consA (cD (.int 1)) (consA (cD (.int 7)) (nilA)))) (ifS (unD notF (tstD (fnD m__law_frame_right 1 [] (consA (nameD 2) (nilA))))) (retS (cD (.bl false))) (nilS))) (seqS (forI (nameG 3) (itD (tupD (consA (cD (.int 0)) (consA (cD (.int 7)) (consA (unD negF (cD (.int 1))) (consA (cD (.bl true)) (consA (cD .non) (consA (cD (.str "3")) (consA (tupD (consA (cD (.int 3)) (nilA))) (consA (lstD (nilA)) (consA (binD powF (cD (.int 10)) (cD (.int 30))) (nilA)))))))))))) (ifS (unD notF (tstD (lamD gd__law_is_refused (fnD m_frame 1 [] (consA (nameD 3) (nilA)))))) (retS (cD (.bl false))) (nilS))) (seqS (forI (nameG 4) (rng1 (consA (binD addGF (cD (.int 2)) (callD (minF) (consA (cD (.int 3)) (consA (binD fdivF (callD (lenF) (consA (nameD 0) (nilA))) (cD (.int 4))) (nilA))))) (nilA))) (seqS (asgS 5 (fnD m__law_cell 2 [] (consA (nameD 0) (consA (nameD 1) (nilA))))) (seqS (asgS 6 (fnD m__law_entries 4 [] (consA (nameD 0) (consA (nameD 1) (consA (binD addGF (cD (.int 1)) (binD fmodF (nameD 5) (cD (.int 6)))) (consA (binD ixF (lstD (consA (cD (.int 0)) (consA (cD (.int 1)) (consA (cD (.int 3)) (consA (cD (.int 4)) (nilA)))))) (binD fmodF (binD fdivF (nameD 5) (cD (.int 6))) (cD (.int 4)))) (nilA))))))) (seqS (parS 7 8 (fnD m__law_framed 1 [] (consA (nameD 6) (nilA))) (callD (reprGF) (consA (nameD 6) (nilA)))) (seqS (ifS (orD (binD (neF) (callD (reprGF) (consA (lstD (consA (fnD m_field_by 1 [] (consA (nameD 6) (nilA))) (consA (fnKD m_field_by 0 1 1 [0] nilA (consA (nameD 6) (nilA))) (nilA)))) (nilA))) (callD (reprGF) (consA (lstD (consA (nameD 7) (consA (nameD 7) (nilA)))) (nilA)))) (binD (isTF true) (fnD m_is_field 1 [] (consA (nameD 7) (nilA))) (cD (.bl true)))) (retS (cD (.bl false))) (nilS)) (seqS (asgS 2 (callD (lenF) (consA (nameD 6) (nilA)))) (seqS (asgS 9 (tupD (consA (binD addGF (binD subF (nameD 2) (cD (.int 1))) (binD fmodF (nameD 2) (cD (.int 2)))) (consA (binD subF (nameD 2) (cD (.int 1))) (consA (nameD 2) (nilA)))))) (seqS (ifS (orD (binD (neF) (callD (reprGF) (consA (fnD m_square_worths 2 [] (consA (nameD 7) (consA (nameD 9) (nilA)))) (nilA))) (nameD 8)) (binD (neF) (callD (reprGF) (consA (nameD 6) (nilA))) (nameD 8))) (retS (cD (.bl false))) (nilS)) (seqS (asgS 10 (fnD m__law_bent 2 [] (consA (nameD 6) (consA (binD fdivF (nameD 5) (cD (.int 30))) (nilA))))) (ifS (unD notF (tstD (lamD gd__law_is_refused (fnD m_field_by 1 [] (consA (nameD 10) (nilA)))))) (retS (cD (.bl false))) (nilS))))))))))) (retS (binD (eqF) (cD (.int (6))) (cD (.int 6)))))))
noncomputable def m_law : DenF := cutF (ofBody 11 den_law)
theorem ok_law {x : Tx} {P : Program} (t : TxOk P x) {w : World} {base : Heap} (tb : Tb x base) : FnD P w x.fx x.mg base 16 x.a_law x.fd_law ["script"] m_law := by
  have sc := sc_law
  exact FnD.cut (fn_mkC (k := 15) t.F_law t.code_law sc rfl fun A outer s H E dc => (dss_cons (ds_own 1 sc.nd (da_cons de_int da_nil)) (dss_cons (ds_forI dc (di_rng2 t.m_range de_int de_int) (dg_name 2 sc.nd) (dss_one (ds_if (dt_not (dt_v (de_call (k := 3) (ps := ["length"]) (ok__law_frame_right t tb) (dc.mono (by decide)) t.g__law_frame_right t.F__law_frame_right.kp t.b__law_frame_right .nil (fun _ _ => rfl) (da_cons (de_name 2) da_nil)))) (dss_one (ds_ret de_bl)) dss_nil))) (dss_cons (ds_forI dc (di_sq (de_tup (da_cons de_int (da_cons de_int (da_cons (de_un neg_ok un_neg de_int) (da_cons de_bl (da_cons de_non (da_cons de_str (da_cons (de_tup (da_cons de_int da_nil)) (da_cons (de_lst da_nil) (da_cons (de_bin pow_ok opr_pow de_int de_int) da_nil))))))))))) (dg_name 3 sc.nd) (dss_one (ds_if (dt_not (dt_v (de_lamC (k := 12) (dc.mono (by decide)) t.g__law_is_refused t.F__law_is_refused t.b__law_is_refused sc__law_is_refused rfl (tb.b_law) rfl qual_cx t.inT_law t.uniq_law (LamX.lamS_by (sc := defScope s_law) (by decide +kernel)) (fun A1 outer1 s1 H1 E1 f1 c1 dl => (de_call (k := 2) (ps := ["size"]) (ok_frame t tb) (dl.mono (by decide)) t.g_frame t.F_frame.kp t.b_frame .nil (fun _ _ => rfl) (da_cons (de_name 3) da_nil))) (fun _ _ _ cl cden dcz actz => ok__law_is_refused t cl cden dcz actz) gd__law_is_refused_eq (fun _ _ _ _ _ => rfl)))) (dss_one (ds_ret de_bl)) dss_nil))) (dss_cons (ds_forI dc (di_rng1 t.m_range (de_bin addG_ok opr_addG de_int (de_callB int2_ok (call_min2 dc.calm) t.m_min (da_cons de_int (da_cons (de_bin fdiv_ok opr_fdiv (de_callB len_ok call_len t.m_len (da_cons (de_name 0) da_nil)) de_int) da_nil))))) (dg_name 4 sc.nd) (dss_cons (ds_set 5 sc.nd (de_call (k := 1) (ps := ["cells", "spot"]) (ok__law_cell t tb) (dc.mono (by decide)) t.g__law_cell t.F__law_cell.kp t.b__law_cell .nil (fun _ _ => rfl) (da_cons (de_name 0) (da_cons (de_name 1) da_nil)))) (dss_cons (ds_set 6 sc.nd (de_call (k := 2) (ps := ["cells", "spot", "length", "sort"]) (ok__law_entries t tb) (dc.mono (by decide)) t.g__law_entries t.F__law_entries.kp t.b__law_entries .nil (fun _ _ => rfl) (da_cons (de_name 0) (da_cons (de_name 1) (da_cons (de_bin addG_ok opr_addG de_int (de_bin fmod_ok op_modN (de_name 5) de_int)) (da_cons (de_ix (de_lst (da_cons de_int (da_cons de_int (da_cons de_int (da_cons de_int da_nil))))) (de_bin fmod_ok op_modN (de_bin fdiv_ok opr_fdiv (de_name 5) de_int) de_int)) da_nil)))))) (dss_cons (ds_par 7 8 dc.calm sc.nd (de_call (k := 2) (ps := ["grid"]) (ok__law_framed t tb) (dc.mono (by decide)) t.g__law_framed t.F__law_framed.kp t.b__law_framed .nil (fun _ _ => rfl) (da_cons (de_name 6) da_nil)) (de_callB reprG_ok (callr_reprE dc.gd dc.u64) t.m_repr (da_cons (de_name 6) da_nil))) (dss_cons (ds_if (DW.dt (dw_or (dt_cmp ne_ok (opr_ne dc.u64) (de_callB reprG_ok (callr_reprE dc.gd dc.u64) t.m_repr (da_cons (de_lst (da_cons (de_call (k := 12) (ps := ["rows"]) (ok_field_by t tb) (dc.mono (by decide)) t.g_field_by t.F_field_by.kp t.b_field_by .nil (fun _ _ => rfl) (da_cons (de_name 6) da_nil)) (da_cons (de_callKw0 (is := [0]) (ks := ["rows"]) (k := 12) (ps := ["rows"]) (ok_field_by t tb) (dc.mono (by decide)) t.g_field_by t.F_field_by.kp t.kb_field_by_0 (dk_cons (de_name 6) dk_nil)) da_nil))) da_nil)) (de_callB reprG_ok (callr_reprE dc.gd dc.u64) t.m_repr (da_cons (de_lst (da_cons (de_name 7) (da_cons (de_name 7) da_nil))) da_nil)) (nomark _)) (dw_or1 (dt_cmp isT_ok opr_isTnot (de_call (k := 6) (ps := ["thing"]) (ok_is_field t tb) (dc.mono (by decide)) t.g_is_field t.F_is_field.kp t.b_is_field .nil (fun _ _ => rfl) (da_cons (de_name 7) da_nil)) de_bl (nomark _))))) (dss_one (ds_ret de_bl)) dss_nil) (dss_cons (ds_set 2 sc.nd (de_callB len_ok call_len t.m_len (da_cons (de_name 6) da_nil))) (dss_cons (ds_set 9 sc.nd (de_tup (da_cons (de_bin addG_ok opr_addG (de_bin sub_ok op_sub (de_name 2) de_int) (de_bin fmod_ok op_modN (de_name 2) de_int)) (da_cons (de_bin sub_ok op_sub (de_name 2) de_int) (da_cons (de_name 2) da_nil))))) (dss_cons (ds_if (DW.dt (dw_or (dt_cmp ne_ok (opr_ne dc.u64) (de_callB reprG_ok (callr_reprE dc.gd dc.u64) t.m_repr (da_cons (de_call (k := 8) (ps := ["field", "target"]) (ok_square_worths t tb) (dc.mono (by decide)) t.g_square_worths t.F_square_worths.kp t.b_square_worths .nil (fun _ _ => rfl) (da_cons (de_name 7) (da_cons (de_name 9) da_nil))) da_nil)) (de_name 8) (nomark _)) (dw_or1 (dt_cmp ne_ok (opr_ne dc.u64) (de_callB reprG_ok (callr_reprE dc.gd dc.u64) t.m_repr (da_cons (de_name 6) da_nil)) (de_name 8) (nomark _))))) (dss_one (ds_ret de_bl)) dss_nil) (dss_cons (ds_set 10 sc.nd (de_call (k := 1) (ps := ["grid", "n"]) (ok__law_bent t tb) (dc.mono (by decide)) t.g__law_bent t.F__law_bent.kp t.b__law_bent .nil (fun _ _ => rfl) (da_cons (de_name 6) (da_cons (de_bin fdiv_ok opr_fdiv (de_name 5) de_int) da_nil)))) (dss_one (ds_if (dt_not (dt_v (de_lamC (k := 12) (dc.mono (by decide)) t.g__law_is_refused t.F__law_is_refused t.b__law_is_refused sc__law_is_refused rfl (tb.b_law) rfl qual_cx t.inT_law t.uniq_law (LamX.lamS_by (sc := defScope s_law) (by decide +kernel)) (fun A1 outer1 s1 H1 E1 f1 c1 dl => (de_call (k := 12) (ps := ["rows"]) (ok_field_by t tb) (dl.mono (by decide)) t.g_field_by t.F_field_by.kp t.b_field_by .nil (fun _ _ => rfl) (da_cons (de_name 10) da_nil))) (fun _ _ _ cl cden dcz actz => ok__law_is_refused t cl cden dcz actz) gd__law_is_refused_eq (fun _ _ _ _ _ => rfl)))) (dss_one (ds_ret de_bl)) dss_nil))))))))))) (dss_one (ds_ret (de_cmp eq_ok (opr_eq dc.u64) (de_numE t.n_MOST_FRAME) de_int (nomark _)))))))))
end K63
namespace K63
open PySem L2 DL
section
variable {w h n : Nat} {f : Nat → Nat → D} {g : Nat → D} {M : Store}
/-- told values hold no list of the store -/
abbrev spD (x y : Nat) : D := .tup [.int (x : Int), .int (y : Int)]
abbrev szD (w h : Nat) : D := .tup [.int (w : Int), .int (h : Int)]
theorem tupof_row {i : Int} : m_is_tuple_of [rowD n g, .int i] M = ok (.bl (decide ((n : Int) = i))) M := fv_rt0 rfl (by simp [seqS, ifS, retS, raiseF, raiseS, consA, nilA, binD, callD, nameD, cD, bindE_v, thenS_v, bindE_x, thenS_x, unD, parS, asgS, tupD, int2F, eq_int, ne_int, intF0, negF, notF, nilS, brD, fnD, addE, subE, ix0, ix1, dropS, asgG, tupG, consG, nameG, nilG, lstD, andD, orD, tstD, ownS, appS, len_tup, len_lst, tup_tup, wipeE, set1, set2, typ_int, typ_tup, typ_non, typ_lst, isF, chainD, asT, truD, len_row, typ_row, den_is_tuple_of]) rfl
theorem tupof_tup {ds : List D} {i : Int} : m_is_tuple_of [.tup ds, .int i] M = ok (.bl (decide ((ds.length : Int) = i))) M := fv_rt0 rfl (by simp [seqS, ifS, retS, raiseF, raiseS, consA, nilA, binD, callD, nameD, cD, bindE_v, thenS_v, bindE_x, thenS_x, unD, parS, asgS, tupD, int2F, eq_int, ne_int, intF0, negF, notF, nilS, brD, fnD, addE, subE, ix0, ix1, dropS, asgG, tupG, consG, nameG, nilG, lstD, andD, orD, tstD, ownS, appS, len_tup, len_lst, tup_tup, wipeE, set1, set2, typ_int, typ_tup, typ_non, typ_lst, isF, chainD, asT, truD, len_row, typ_row, den_is_tuple_of]) rfl
theorem tupof_lst {ds : List D} {i : Int} : m_is_tuple_of [.lst ds, .int i] M = ok (.bl false) M := fv_rt0 rfl (by simp [seqS, ifS, retS, raiseF, raiseS, consA, nilA, binD, callD, nameD, cD, bindE_v, thenS_v, bindE_x, thenS_x, unD, parS, asgS, tupD, int2F, eq_int, ne_int, intF0, negF, notF, nilS, brD, fnD, addE, subE, ix0, ix1, dropS, asgG, tupG, consG, nameG, nilG, lstD, andD, orD, tstD, ownS, appS, len_tup, len_lst, tup_tup, wipeE, set1, set2, typ_int, typ_tup, typ_non, typ_lst, isF, chainD, asT, truD, len_row, typ_row, den_is_tuple_of]) rfl
theorem gcd_ev {a b : Int} {M : Store} : gcdF [.int a, .int b] M = ok (.int ((Nat.gcd a.natAbs b.natAbs : Nat) : Int)) M := rfl
theorem sides_ok (hh : 0 < h) : m_sides [tabD w h f] M = ok (szD w h) M := fv_rt0 rfl (by simp [seqS, ifS, retS, raiseF, raiseS, consA, nilA, binD, callD, nameD, cD, bindE_v, thenS_v, bindE_x, thenS_x, unD, parS, asgS, tupD, int2F, eq_int, ne_int, intF0, negF, notF, nilS, brD, fnD, addE, subE, ix0, ix1, dropS, asgG, tupG, consG, nameG, nilG, lstD, andD, orD, tstD, ownS, appS, len_tup, len_lst, tup_tup, wipeE, set1, set2, typ_int, typ_tup, typ_non, typ_lst, isF, chainD, asT, truD, len_row, typ_row, den_sides, ix_row0 hh]) rfl
theorem at_ok {x y : Nat} (hv : ∀ x y, x < w → y < h → nlD 0 (f x y) = true) (hx : x < w) (hy : y < h) : m_at [tabD w h f, spD x y] M = ok (f x y) M := by
  have e1 : ∀ M, ixF (tabD w h f) (.int (y : Int)) M = ok (rowD w fun x => f x y) M := fun M => ix_row hy
  have e2 : ∀ M, ixF (rowD w fun x => f x y) (.int (x : Int)) M = ok (f x y) M := fun M => ix_row hx
  obtain ⟨r, hr⟩ : ∃ r, r = m_at [tabD w h f, spD x y] M := ⟨_, rfl⟩
  exact cut_val (X := []) (den := ofBody 4 den_at) (by simp [ofBody]; simp [seqS, ifS, retS, raiseF, raiseS, consA, nilA, binD, callD, nameD, cD, bindE_v, thenS_v, bindE_x, thenS_x, unD, parS, asgS, tupD, int2F, eq_int, ne_int, intF0, negF, notF, nilS, brD, fnD, addE, subE, ix0, ix1, dropS, asgG, tupG, consG, nameG, nilG, lstD, andD, orD, tstD, ownS, appS, len_tup, len_lst, tup_tup, wipeE, set1, set2, typ_int, typ_tup, typ_non, typ_lst, isF, chainD, asT, truD, len_row, typ_row, den_at, e1, e2]) (cutD_pd (hv x y hx hy))
theorem side_long (h1 : 1 ≤ n) (h2 : n ≤ 11) : m_is_side_long [rowD n g] M = ok (.bl true) M := fv_rt0 (e0 := [some (rowD n g)]) rfl (by
  have e := chain_le (da := cD (.int 1)) (db := callD lenF (consA (nameD 0) nilA)) (dc := cD (.int 11)) (e := [some (rowD n g)]) (M := M) (i := 1) (j := n) (k := 11) rfl (by simp [seqS, ifS, retS, raiseF, raiseS, consA, nilA, binD, callD, nameD, cD, bindE_v, thenS_v, bindE_x, thenS_x, unD, parS, asgS, tupD, int2F, eq_int, ne_int, intF0, negF, notF, nilS, brD, fnD, addE, subE, ix0, ix1, dropS, asgG, tupG, consG, nameG, nilG, lstD, andD, orD, tstD, ownS, appS, len_tup, len_lst, tup_tup, wipeE, set1, set2, typ_int, typ_tup, typ_non, typ_lst, isF, chainD, asT, truD, len_row, typ_row]) rfl
  rw [decide_eq_true (by omega : (1 : Int) ≤ (n : Int)), decide_eq_true (by omega : (n : Int) ≤ 11)] at e
  unfold den_is_side_long
  simp only [retS, andD, brD]
  rw [show binD (isF false) (callD typF (consA (nameD 0) nilA)) (cD (.ty "tuple")) [some (rowD n g)] M = ok (.bl true) M by simp [seqS, ifS, retS, raiseF, raiseS, consA, nilA, binD, callD, nameD, cD, bindE_v, thenS_v, bindE_x, thenS_x, unD, parS, asgS, tupD, int2F, eq_int, ne_int, intF0, negF, notF, nilS, brD, fnD, addE, subE, ix0, ix1, dropS, asgG, tupG, consG, nameG, nilG, lstD, andD, orD, tstD, ownS, appS, len_tup, len_lst, tup_tup, wipeE, set1, set2, typ_int, typ_tup, typ_non, typ_lst, isF, chainD, asT, truD, len_row, typ_row], bindE_v]
  dsimp only
  rw [e]
  rfl) rfl
def rimB (w h x y : Nat) : Bool := (decide (x = 0) || decide (x + 1 = w)) || (decide (y = 0) || decide (y + 1 = h))
theorem fmA_all {α β : Type} {F : α → Option β} {G : α → β} : ∀ l : List α, (∀ k ∈ l, F k = some (G k)) → l.filterMap F = l.map G
  | [], _ => rfl
  | a :: l, h => by
    rw [List.filterMap_cons, h a (List.mem_cons_self ..), List.map_cons, fmA_all l fun k hk => h k (List.mem_cons_of_mem _ hk)]
theorem dropA_ix : ∀ n, n < 12 → 0 < n → whole n (some 1) none none = false ∧ prtI n (some 1) none none = (List.range (n - 1)).map fun i => i + 1 := by decide
theorem slp_tail {da : DenE} {e : DL.Env} (ha : da e M = ok (rowD n g) M) (hn : n ≤ 11) (kn : 0 < n) : slpD da (someO (cD (.int 1))) noneO noneO e M = ok (.tup ((List.range (n - 1)).map fun i => g (i + 1))) M := by
  obtain ⟨q1, q2⟩ := dropA_ix n (by omega) kn
  unfold slpD
  rw [ha, bindE_v]
  show prtF (rowD n g) (some 1) none none M = _
  have hl : ((List.range n).map g).length = n := by simp
  unfold rowD prtF prtT
  dsimp only
  rw [hl, q1, q2, if_pos ⟨by decide, by simp; omega⟩, if_neg (by decide), List.filterMap_map]
  rw [fmA_all (G := fun i => g (i + 1)) (List.range (n - 1)) fun j hj => by
    have := List.mem_range.mp hj
    show ((List.range n).map g)[j + 1]? = _
    rw [List.getElem?_map, List.getElem?_range (by omega)]
    rfl]
theorem nin_pm {a : Int} (h : a.natAbs = 1) : inF true (.int a) (.tup [.int 1, .int (-1)]) M = ok (.bl false) M := by
  have : a = 1 ∨ a = -1 := by omega
  rcases this with rfl | rfl
  · simp [inF, flD, sqD, flDs, inV, eqV]
  · simp [inF, flD, sqD, flDs, inV, eqV]
end
end K63
namespace K63
open PySem L2 DL
/-- heights' rows that are looked at -/
abbrev hD (H : Nat → Nat → Int) : Nat → Nat → D := fun x y => .int (H x y)
abbrev wD (W : Nat → Nat → Int × Int) : Nat → Nat → D := fun x y => .tup [.int (W x y).1, .int (W x y).2]
abbrev fieldD (w h : Nat) (H : Nat → Nat → Int) (W : Nat → Nat → Int × Int) : D := .tup [tabD w h (hD H), tabD w h (wD W)]
/-- a good field -/
structure VF (w h : Nat) (H : Nat → Nat → Int) (W : Nat → Nat → Int × Int) : Prop where
  w1 : 1 ≤ w
  w2 : w ≤ 11
  h1 : 1 ≤ h
  h2 : h ≤ 11
  par : ∀ x y, x < w → y < h → ((x : Int) + (y : Int) + H x y) % 2 = 0
  sx : ∀ x y, x + 1 < w → y < h → (H (x + 1) y - H x y).natAbs = 1
  sy : ∀ x y, x < w → y + 1 < h → (H x (y + 1) - H x y).natAbs = 1
  rim : ∀ x y, x < w → y < h → rimB w h x y = true → (H x y).natAbs ≤ 35
  wor : ∀ x y, x < w → y < h → 1 ≤ (W x y).2 ∧ Nat.gcd (W x y).1.natAbs (W x y).2.natAbs = 1 ∧ (W x y).1 ≠ 0
section
variable {w h n : Nat} {f : Nat → Nat → D} {g : Nat → D} {M : Store} {H : Nat → Nat → Int} {W : Nat → Nat → Int × Int}
theorem bsteps_ok {G : Nat → Int} (hn : 1 ≤ n) (hs : ∀ x, x + 1 < n → (G (x + 1) - G x).natAbs = 1) : m_are_steps_beside [rowD n fun x => .int (G x)] M = ok (.bl true) M := by
  have i0 : ∀ M, ixF (rowD n fun x => D.int (G x)) (.int 0) M = ok (.int (G 0)) M := fun M => ix_row0 (by omega)
  have it : ∀ e M, e[0]? = some (some (rowD n fun x => D.int (G x))) → itD (nameD 0) e M = ok ((List.range n).map fun x => D.int (G x), fun _ => True) M := fun e M he => it_row (by
    unfold nameD
    rw [he])
  obtain ⟨R, hR⟩ : ∃ R, R = rowD n fun x => D.int (G x) := ⟨_, rfl⟩
  rw [← hR] at i0 it ⊢
  let B : Nat → Int := fun j => if j = 0 then G 0 - 1 else G (j - 1)
  refine fv_wp (e0 := [some R, none, none]) rfl ?_ rfl
  unfold den_are_steps_beside
  refine wp_nx (e' := [some R, some (.int (B 0)), none]) (M' := M) (by simp [seqS, ifS, retS, raiseF, raiseS, consA, nilA, binD, callD, nameD, cD, bindE_v, thenS_v, bindE_x, thenS_x, unD, parS, asgS, tupD, int2F, eq_int, ne_int, intF0, negF, notF, nilS, brD, fnD, addE, subE, ix0, ix1, dropS, asgG, tupG, consG, nameG, nilG, lstD, andD, orD, tstD, ownS, appS, len_tup, len_lst, tup_tup, wipeE, set1, set2, typ_int, typ_tup, typ_non, typ_lst, isF, chainD, asT, truD, len_row, typ_row, i0, B]) ?_
  refine wp_for_nx ((List.range n).map fun x => D.int (G x)) (fun j e M' => M' = M ∧ ∃ a, e = [some R, some (.int (B j)), a]) (it _ _ rfl) (fun j d e M' hd hi => ?_) (fun _ _ _ => trivial) ⟨rfl, _, rfl⟩ (fun e' M' hi => ?_)
  · obtain ⟨rfl, a, rfl⟩ := hi
    obtain ⟨hj, hv⟩ : j < n ∧ d = .int (G j) := by
      have lt := (List.getElem?_eq_some_iff.mp hd).1
      simp only [List.length_map, List.length_range] at lt
      refine ⟨lt, ?_⟩
      rw [List.getElem?_map, List.getElem?_range lt] at hd
      exact (Option.some.inj hd).symm
    subst hv
    have hb : (G j - B j).natAbs = 1 := by
      show (G j - (if j = 0 then G 0 - 1 else G (j - 1))).natAbs = 1
      by_cases c : j = 0
      · subst c
        rw [if_pos rfl]
        omega
      · rw [if_neg c]
        have := hs (j - 1) (by omega)
        rwa [show j - 1 + 1 = j by omega] at this
    have hB : B (j + 1) = G j := by
      show (if j + 1 = 0 then G 0 - 1 else G (j + 1 - 1)) = G j
      rw [if_neg (by omega)]
      rfl
    rw [hB]
    have q := fun M => nin_pm (M := M) hb
    generalize B j = b at *
    generalize G j = c at *
    have q1 : ∀ M, inF true (.int (c - b)) (.tup [.int 1, .int (-1)]) M = ok (.bl false) M := q
    refine ⟨trivial, [some R, some (.int b), some (.int c)], M', rfl, ?_⟩
    refine wp_nx (e' := [some R, some (.int b), some (.int c)]) (M' := M') (by simp [seqS, ifS, retS, raiseF, raiseS, consA, nilA, binD, callD, nameD, cD, bindE_v, thenS_v, bindE_x, thenS_x, unD, parS, asgS, tupD, int2F, eq_int, ne_int, intF0, negF, notF, nilS, brD, fnD, addE, subE, ix0, ix1, dropS, asgG, tupG, consG, nameG, nilG, lstD, andD, orD, tstD, ownS, appS, len_tup, len_lst, tup_tup, wipeE, set1, set2, typ_int, typ_tup, typ_non, typ_lst, isF, chainD, asT, truD, len_row, typ_row, q1]) ?_
    exact wp_of (M' := M') (.nx [some R, some (.int c), some (.int c)]) (by simp [seqS, ifS, retS, raiseF, raiseS, consA, nilA, binD, callD, nameD, cD, bindE_v, thenS_v, bindE_x, thenS_x, unD, parS, asgS, tupD, int2F, eq_int, ne_int, intF0, negF, notF, nilS, brD, fnD, addE, subE, ix0, ix1, dropS, asgG, tupG, consG, nameG, nilG, lstD, andD, orD, tstD, ownS, appS, len_tup, len_lst, tup_tup, wipeE, set1, set2, typ_int, typ_tup, typ_non, typ_lst, isF, chainD, asT, truD, len_row, typ_row]) ⟨_, .inl rfl, rfl, _, rfl⟩
  · obtain ⟨rfl, a, rfl⟩ := hi
    exact wp_of (.rt (.bl true)) (M' := M') (by simp [seqS, ifS, retS, raiseF, raiseS, consA, nilA, binD, callD, nameD, cD, bindE_v, thenS_v, bindE_x, thenS_x, unD, parS, asgS, tupD, int2F, eq_int, ne_int, intF0, negF, notF, nilS, brD, fnD, addE, subE, ix0, ix1, dropS, asgG, tupG, consG, nameG, nilG, lstD, andD, orD, tstD, ownS, appS, len_tup, len_lst, tup_tup, wipeE, set1, set2, typ_int, typ_tup, typ_non, typ_lst, isF, chainD, asT, truD, len_row, typ_row]) ⟨rfl, [], by simp⟩
theorem ints_map {xs : List Int} : intsOf (xs.map D.int) = some xs := by
  induction xs with
  | nil => rfl
  | cons a r ih =>
    show (intsOf (r.map D.int)).map (a :: ·) = _
    rw [ih]
    rfl
theorem min_ge {xs : List Int} {a : Int} (hx : ∀ x ∈ a :: xs, -35 ≤ x ∧ x ≤ 35) : ∃ m : Int, -35 ≤ m ∧ ∀ M, minLF [.lst ((a :: xs).map D.int)] M = ok (.int m) M := by
  refine ⟨mnI a xs, (hx _ (mnI_mem a xs)).1, fun M => ?_⟩
  have e : intsL M (.lst ((a :: xs).map D.int)) = some (a :: xs) := ints_map
  show (match intsL M (.lst ((a :: xs).map D.int)) with
    | some (n :: ns) => ok (D.int (mnI n ns)) M
    | _ => none) = _
  rw [e]
theorem max_le {xs : List Int} {a : Int} (hx : ∀ x ∈ a :: xs, -35 ≤ x ∧ x ≤ 35) : ∃ m : Int, m ≤ 35 ∧ ∀ M, maxLF [.lst ((a :: xs).map D.int)] M = ok (.int m) M := by
  refine ⟨mxI a xs, (hx _ (mxI_mem a xs)).2, fun M => ?_⟩
  have e : intsL M (.lst ((a :: xs).map D.int)) = some (a :: xs) := ints_map
  show (match intsL M (.lst ((a :: xs).map D.int)) with
    | some (n :: ns) => ok (D.int (mxI n ns)) M
    | _ => none) = _
  rw [e]
theorem at_last {α : Type} {xs : List α} {x : α} {n : Nat} (hl : xs.length = n + 1) (hx : xs[n]? = some x) : atI xs (-1) = some x := by
  have e : ixN xs.length (-1) = some n := by
    unfold ixN
    rw [hl, if_neg (by decide), if_pos (show -((n + 1 : Nat) : Int) ≤ -1 by omega)]
    exact congrArg _ (show ((-1 : Int) + ((n + 1 : Nat) : Int)).toNat = n by omega)
  unfold atI
  rw [e]
  exact hx
theorem rimlow_ok (v : VF w h H W) : m_is_rim_low [tabD w h (hD H)] M = ok (.bl true) M := by
  have w1 := v.w1
  have h1 := v.h1
  have w2 := v.w2
  have h2 := v.h2
  let R0 : List Int := (List.range w).map fun x => H x 0
  let R1 : List Int := (List.range w).map fun x => H x (h - 1)
  let C0 : List Int := (List.range h).map fun y => H 0 y
  let C1 : List Int := (List.range h).map fun y => H (w - 1) y
  have ix0 : ∀ M, ixF (tabD w h (hD H)) (.int 0) M = ok (.tup (R0.map D.int)) M := fun M => by
    rw [ix_row0 h1]
    show ok (rowD w fun x => hD H x 0) M = _
    unfold rowD
    rw [List.map_map]
    rfl
  have ix1 : ∀ M, ixF (tabD w h (hD H)) (.int (-1)) M = ok (.tup (R1.map D.int)) M := fun M => by
    refine (ix_tup (d := rowD w fun x => hD H x (h - 1)) (at_last (n := h - 1) (by rw [List.length_map, List.length_range]; omega) ?_)).trans ?_
    · rw [List.getElem?_map, List.getElem?_range (by omega)]
      rfl
    · unfold rowD
      rw [List.map_map]
      rfl
  have hr : ∀ y M, ixF (rowD w fun x => hD H x y) (.int 0) M = ok (.int (H 0 y)) M := fun y M => ix_row0 w1
  have hl : ∀ y M, ixF (rowD w fun x => hD H x y) (.int (-1)) M = ok (.int (H (w - 1) y)) M := fun y M => ix_tup (at_last (n := w - 1) (by rw [List.length_map, List.length_range]; omega) (by
    rw [List.getElem?_map, List.getElem?_range (by omega)]
    rfl))
  have it : ∀ (e : DL.Env) M, e[0]? = some (some (tabD w h (hD H))) → itD (nameD 0) e M = ok ((List.range h).map fun y => rowD w fun x => hD H x y, fun _ => True) M := fun e M he => it_row (by
    unfold nameD
    rw [he])
  have bd : ∀ z ∈ R0 ++ R1 ++ C0 ++ C1, -35 ≤ z ∧ z ≤ 35 := fun z hz => by
    have key : ∀ x y, x < w → y < h → (x = 0 ∨ x + 1 = w ∨ y = 0 ∨ y + 1 = h) → -35 ≤ H x y ∧ H x y ≤ 35 := fun x y hx hy c => by
      have := v.rim x y hx hy (by
        unfold rimB
        rcases c with c | c | c | c <;> simp [c])
      omega
    simp only [List.mem_append] at hz
    rcases hz with ((hz | hz) | hz) | hz
    · obtain ⟨x, hx, rfl⟩ := List.mem_map.mp hz
      exact key x 0 (List.mem_range.mp hx) (by omega) (by omega)
    · obtain ⟨x, hx, rfl⟩ := List.mem_map.mp hz
      exact key x (h - 1) (List.mem_range.mp hx) (by omega) (by omega)
    · obtain ⟨x, hx, rfl⟩ := List.mem_map.mp hz
      exact key 0 x (by omega) (List.mem_range.mp hx) (by omega)
    · obtain ⟨x, hx, rfl⟩ := List.mem_map.mp hz
      exact key (w - 1) x (by omega) (List.mem_range.mp hx) (by omega)
  have ln : (R0 ++ R1 ++ C0 ++ C1).length = w + w + h + h := by simp [R0, R1, C0, C1]; omega
  obtain ⟨a, xs, hE⟩ : ∃ a xs, R0 ++ R1 ++ C0 ++ C1 = a :: xs := by
    cases hc : R0 ++ R1 ++ C0 ++ C1 with
    | nil =>
      rw [hc] at ln
      simp at ln
      omega
    | cons a xs => exact ⟨a, xs, rfl⟩
  rw [hE] at bd
  obtain ⟨mn, n1, n2⟩ := min_ge bd
  obtain ⟨mx, x1, x2⟩ := max_le bd
  rw [← hE] at n2 x2
  have cat : ∀ M, addF (.tup (R0.map D.int)) (.tup (R1.map D.int)) M = ok (.tup ((R0 ++ R1).map D.int)) M := fun M => by
    have hne : R0.map D.int ≠ [] := by
      intro z
      have := congrArg List.length z
      simp [R0] at this
      omega
    show (if (R0.map D.int).length + (R1.map D.int).length ≤ sizeLine ∧ R0.map D.int ≠ [] then ok (D.tup (R0.map D.int ++ R1.map D.int)) M else none) = _
    rw [if_pos ⟨sz_ok (by simp [R0, R1]; omega), hne⟩, List.map_append]
  have lst : ∀ M, lstcF [.tup ((R0 ++ R1).map D.int)] M = ok (.lst ((R0 ++ R1).map D.int)) M := fun _ => rfl
  have addl : ∀ (xs ys : List Int) M, xs.length + ys.length ≤ 1000 → addF (.lst (xs.map D.int)) (.lst (ys.map D.int)) M = ok (.lst ((xs ++ ys).map D.int)) M := fun xs ys M hz => by
    show (if (xs.map D.int).length + (ys.map D.int).length ≤ sizeLine then ok (D.lst (xs.map D.int ++ ys.map D.int)) M else none) = _
    rw [if_pos (sz_ok (by simp; omega)), List.map_append]
  have l0 : (R0 ++ R1).length + C0.length ≤ 1000 := by simp [R0, R1, C0]; omega
  have l1 : (R0 ++ R1 ++ C0).length + C1.length ≤ 1000 := by simp [R0, R1, C0, C1]; omega
  have ad1 := fun M => addl (R0 ++ R1) C0 M l0
  have ad2 := fun M => addl (R0 ++ R1 ++ C0) C1 M l1
  obtain ⟨R, hR⟩ : ∃ R, R = tabD w h (hD H) := ⟨_, rfl⟩
  rw [← hR] at ix0 ix1 it ⊢
  have c0 : ∀ M, cutE (compD (set1 2) (cD (.bl true)) (binD ixF (nameD 2) (cD (.int 0))) [2] (itD (nameD 0))) [some R, none, none] M = ok (.lst (C0.map D.int)) M := fun M => by
    have q := comp_v (set := set1 2) (vs := [2]) (g := fun y : Nat => rowD w fun x => hD H x y) (f := fun y : Nat => D.int (H 0 y)) (de := binD ixF (nameD 2) (cD (.int 0))) (di := itD (nameD 0)) (e := [some R, none, none]) (M := M) (List.range h) (it _ _ rfl) (by simp; omega) (fun y hy => ⟨_, rfl, fun M => by
      have q1 := hr y
      generalize (rowD w fun x => hD H x y) = Q at *
      simp [seqS, ifS, retS, raiseF, raiseS, consA, nilA, binD, callD, nameD, cD, bindE_v, thenS_v, bindE_x, thenS_x, unD, parS, asgS, tupD, int2F, eq_int, ne_int, intF0, negF, notF, nilS, brD, fnD, addE, subE, ix0, ix1, dropS, asgG, tupG, consG, nameG, nilG, lstD, andD, orD, tstD, ownS, appS, len_tup, len_lst, tup_tup, wipeE, set1, set2, typ_int, typ_tup, typ_non, typ_lst, isF, chainD, asT, truD, len_row, typ_row, wipeE, q1]⟩) (fun _ _ => rfl)
    rw [List.map_map]
    exact q
  have c1 : ∀ M, cutE (compD (set1 2) (cD (.bl true)) (binD ixF (nameD 2) (unD negF (cD (.int 1)))) [2] (itD (nameD 0))) [some R, none, none] M = ok (.lst (C1.map D.int)) M := fun M => by
    have q := comp_v (set := set1 2) (vs := [2]) (g := fun y : Nat => rowD w fun x => hD H x y) (f := fun y : Nat => D.int (H (w - 1) y)) (de := binD ixF (nameD 2) (unD negF (cD (.int 1)))) (di := itD (nameD 0)) (e := [some R, none, none]) (M := M) (List.range h) (it _ _ rfl) (by simp; omega) (fun y hy => ⟨_, rfl, fun M => by
      have q1 := hl y
      generalize (rowD w fun x => hD H x y) = Q at *
      simp [seqS, ifS, retS, raiseF, raiseS, consA, nilA, binD, callD, nameD, cD, bindE_v, thenS_v, bindE_x, thenS_x, unD, parS, asgS, tupD, int2F, eq_int, ne_int, intF0, negF, notF, nilS, brD, fnD, addE, subE, ix0, ix1, dropS, asgG, tupG, consG, nameG, nilG, lstD, andD, orD, tstD, ownS, appS, len_tup, len_lst, tup_tup, wipeE, set1, set2, typ_int, typ_tup, typ_non, typ_lst, isF, chainD, asT, truD, len_row, typ_row, wipeE, q1]⟩) (fun _ _ => rfl)
    rw [List.map_map]
    exact q
  generalize C0.map D.int = c0l at *
  generalize C1.map D.int = c1l at *
  generalize (R0 ++ R1).map D.int = rr at *
  generalize R0.map D.int = r0 at *
  generalize R1.map D.int = r1 at *
  generalize (R0 ++ R1 ++ C0 ++ C1).map D.int = ee at *
  generalize (R0 ++ R1 ++ C0).map D.int = e3 at *
  have t1 : decide ((-35 : Int) ≤ mn) = true := decide_eq_true n1
  have t2 : decide (mx ≤ (35 : Int)) = true := decide_eq_true x1
  refine fv_rt0 (e0 := [some R, none, none]) rfl ?_ rfl
  unfold den_is_rim_low
  rw [seq_nx (e' := [some R, some (.lst ee), none]) (M' := M) (by simp [seqS, ifS, retS, raiseF, raiseS, consA, nilA, binD, callD, nameD, cD, bindE_v, thenS_v, bindE_x, thenS_x, unD, parS, asgS, tupD, int2F, eq_int, ne_int, intF0, negF, notF, nilS, brD, fnD, addE, subE, ix0, ix1, dropS, asgG, tupG, consG, nameG, nilG, lstD, andD, orD, tstD, ownS, appS, len_tup, len_lst, tup_tup, wipeE, set1, set2, typ_int, typ_tup, typ_non, typ_lst, isF, chainD, asT, truD, len_row, typ_row, ix0, ix1, cat, lst, c0, c1, ad1, ad2])]
  simp [seqS, ifS, retS, raiseF, raiseS, consA, nilA, binD, callD, nameD, cD, bindE_v, thenS_v, bindE_x, thenS_x, unD, parS, asgS, tupD, int2F, eq_int, ne_int, intF0, negF, notF, nilS, brD, fnD, addE, subE, ix0, ix1, dropS, asgG, tupG, consG, nameG, nilG, lstD, andD, orD, tstD, ownS, appS, len_tup, len_lst, tup_tup, wipeE, set1, set2, typ_int, typ_tup, typ_non, typ_lst, isF, chainD, asT, truD, len_row, typ_row, n2, x2, le_int, t1, t2]
end
end K63
namespace K63
open PySem L2 DL
section
variable {w h n : Nat} {f : Nat → Nat → D} {g : Nat → D} {M : Store} {H : Nat → Nat → Int} {W : Nat → Nat → Int × Int}
theorem zip_rows {da db : DenE} {e : DL.Env} {f1 f2 : Nat → D} (ha : ∀ M, da e M = ok (rowD n f1) M) (hb : ∀ M, db e M = ok (rowD n f2) M) (M : Store) : zipD (consA da (consA db nilA)) e M = ok (zipI ((List.range n).map f1) ((List.range n).map f2), fun _ => True) M := by
  unfold zipD
  simp only [consA, nilA, ha, hb, bindE_v]
  rfl
theorem zip_rows_get {f1 f2 : Nat → D} {x : Nat} {d : D} (h : (zipI ((List.range n).map f1) ((List.range n).map f2))[x]? = some d) : x < n ∧ d = .tup [f1 x, f2 x] := by
  obtain ⟨a, b, ha, hb, rfl⟩ := zip_get h
  have lt := (List.getElem?_eq_some_iff.mp ha).1
  simp only [List.length_map, List.length_range] at lt
  rw [List.getElem?_map, List.getElem?_range lt] at ha hb
  rw [← Option.some.inj ha, ← Option.some.inj hb]
  exact ⟨lt, rfl⟩
theorem map_get {n : Nat} {f1 : Nat → D} {x : Nat} {d : D} (h : ((List.range n).map f1)[x]? = some d) : x < n ∧ d = f1 x := by
  have lt := (List.getElem?_eq_some_iff.mp h).1
  simp only [List.length_map, List.length_range] at lt
  rw [List.getElem?_map, List.getElem?_range lt] at h
  exact ⟨lt, (Option.some.inj h).symm⟩
theorem wrong_ok (v : VF w h H W) : m_wrong_with_heights [tabD w h (hD H)] M = ok .non M := by
  have w1 := v.w1
  have h1 := v.h1
  have w2 := v.w2
  have h2 := v.h2
  have i0 : ∀ M, ixF (tabD w h (hD H)) (.int 0) M = ok (rowD w fun x => hD H x 0) M := fun M => ix_row0 h1
  have i1 : ∀ M, ixF (rowD w fun x => hD H x 0) (.int 0) M = ok (.int (H 0 0)) M := fun M => ix_row0 w1
  have a1 : ∀ M, m_is_side_long [tabD w h (hD H)] M = ok (.bl true) M := fun M => side_long h1 h2
  have a2 : ∀ M, m_is_side_long [rowD w fun x => hD H x 0] M = ok (.bl true) M := fun M => side_long w1 w2
  have a3 : ∀ M, m_are_steps_beside [rowD w fun x => hD H x 0] M = ok (.bl true) M := fun M => bsteps_ok w1 fun x hx => v.sx x 0 hx h1
  have a4 : ∀ M, m_is_rim_low [tabD w h (hD H)] M = ok (.bl true) M := fun M => rimlow_ok v
  have tl : ∀ (e : DL.Env) M, e[0]? = some (some (tabD w h (hD H))) → itD (slpD (nameD 0) (someO (cD (.int 1))) noneO noneO) e M = ok ((List.range (h - 1)).map fun y => rowD w fun x => hD H x (y + 1), fun _ => True) M := fun e M he => it_tup (slp_tail (g := fun y => rowD w fun x => hD H x y) (by
    unfold nameD
    rw [he]) h2 (by omega))
  have ln : ∀ M, lenF [tabD w h (hD H)] M = ok (.int (h : Int)) M := fun M => len_row
  have lw : ∀ y M, lenF [rowD w fun x => hD H x y] M = ok (.int (w : Int)) M := fun y M => len_row
  have ty : ∀ y M, typF [rowD w fun x => hD H x y] M = ok (.ty "tuple") M := fun y M => rfl
  have pz : ∀ M, fmodF (.int (H 0 0)) (.int 2) M = ok (.int 0) M := fun M => by
    rw [fmd (by decide)]
    have := v.par 0 0 (by omega) (by omega)
    rw [show (H 0 0) % 2 = 0 by omega]
  have ix : ∀ y M, ixF (rowD w fun x => hD H x y) (.int 0) M = ok (.int (H 0 y)) M := fun y M => ix_row0 w1
  obtain ⟨A, hA⟩ : ∃ A : Int, A = ((H 0 0).natAbs : Int) := ⟨_, rfl⟩
  have b3 : ∀ M, absF [.int (H 0 0)] M = ok (.int A) M := fun M => abs_is hA
  obtain ⟨wi, hwi⟩ : ∃ i : Int, i = (w : Int) := ⟨_, rfl⟩
  obtain ⟨hi, hhi⟩ : ∃ i : Int, i = (h : Int) := ⟨_, rfl⟩
  rw [← hwi] at lw
  rw [← hhi] at ln
  obtain ⟨R, hR⟩ : ∃ R, R = tabD w h (hD H) := ⟨_, rfl⟩
  rw [← hR] at i0 a1 a4 tl ln ⊢
  obtain ⟨Q, hQ⟩ : ∃ Q : Nat → D, Q = fun y => rowD w fun x => hD H x y := ⟨_, rfl⟩
  have hQ' : ∀ y, (rowD w fun x => hD H x y) = Q y := fun y => by rw [hQ]
  simp only [hQ'] at i0 i1 a2 a3 tl lw ty ix
  let B : Nat → Nat → Int := fun y x => if x = 0 then H 0 y else H (x - 1) (y + 1)
  refine fv_wp (e0 := [some R, none, none, none, none, none, none, none]) rfl ?_ rfl
  unfold den_wrong_with_heights
  refine wp_nx (e' := [some R, none, none, none, none, none, none, none]) (M' := M) (by simp [seqS, ifS, retS, raiseF, raiseS, consA, nilA, binD, callD, nameD, cD, bindE_v, thenS_v, bindE_x, thenS_x, unD, parS, asgS, tupD, int2F, eq_int, ne_int, intF0, negF, notF, nilS, brD, fnD, addE, subE, ix0, ix1, dropS, asgG, tupG, consG, nameG, nilG, lstD, andD, orD, tstD, ownS, appS, len_tup, len_lst, tup_tup, wipeE, set1, set2, typ_int, typ_tup, typ_non, typ_lst, isF, chainD, asT, truD, len_row, typ_row, i0, a1, a2]) ?_
  refine wp_nx (e' := [some R, some (.int (H 0 0)), none, none, none, none, none, none]) (M' := M) (by simp [seqS, ifS, retS, raiseF, raiseS, consA, nilA, binD, callD, nameD, cD, bindE_v, thenS_v, bindE_x, thenS_x, unD, parS, asgS, tupD, int2F, eq_int, ne_int, intF0, negF, notF, nilS, brD, fnD, addE, subE, ix0, ix1, dropS, asgG, tupG, consG, nameG, nilG, lstD, andD, orD, tstD, ownS, appS, len_tup, len_lst, tup_tup, wipeE, set1, set2, typ_int, typ_tup, typ_non, typ_lst, isF, chainD, asT, truD, len_row, typ_row, i0, i1]) ?_
  refine wp_nx (e' := [some R, some (.int (H 0 0)), none, none, none, none, none, none]) (M' := M) (by simp [seqS, ifS, retS, raiseF, raiseS, consA, nilA, binD, callD, nameD, cD, bindE_v, thenS_v, bindE_x, thenS_x, unD, parS, asgS, tupD, int2F, eq_int, ne_int, intF0, negF, notF, nilS, brD, fnD, addE, subE, ix0, ix1, dropS, asgG, tupG, consG, nameG, nilG, lstD, andD, orD, tstD, ownS, appS, len_tup, len_lst, tup_tup, wipeE, set1, set2, typ_int, typ_tup, typ_non, typ_lst, isF, chainD, asT, truD, len_row, typ_row, pz, i0, a3]) ?_
  refine wp_nx (e' := [some R, some (.int (H 0 0)), some (.int wi), none, none, none, none, none]) (M' := M) (by simp [seqS, ifS, retS, raiseF, raiseS, consA, nilA, binD, callD, nameD, cD, bindE_v, thenS_v, bindE_x, thenS_x, unD, parS, asgS, tupD, int2F, eq_int, ne_int, intF0, negF, notF, nilS, brD, fnD, addE, subE, ix0, ix1, dropS, asgG, tupG, consG, nameG, nilG, lstD, andD, orD, tstD, ownS, appS, len_tup, len_lst, tup_tup, wipeE, set1, set2, typ_int, typ_tup, typ_non, typ_lst, isF, chainD, asT, truD, len_row, typ_row, i0, lw]) ?_
  refine wp_nx (e' := [some R, some (.int (H 0 0)), some (.int wi), some (Q 0), none, none, none, none]) (M' := M) (by simp [seqS, ifS, retS, raiseF, raiseS, consA, nilA, binD, callD, nameD, cD, bindE_v, thenS_v, bindE_x, thenS_x, unD, parS, asgS, tupD, int2F, eq_int, ne_int, intF0, negF, notF, nilS, brD, fnD, addE, subE, ix0, ix1, dropS, asgG, tupG, consG, nameG, nilG, lstD, andD, orD, tstD, ownS, appS, len_tup, len_lst, tup_tup, wipeE, set1, set2, typ_int, typ_tup, typ_non, typ_lst, isF, chainD, asT, truD, len_row, typ_row, i0]) ?_
  refine wp_for_nx ((List.range (h - 1)).map fun y => Q (y + 1)) (fun j e M' => M' = M ∧ ∃ a b c d, e = [some R, some (.int (H 0 0)), some (.int wi), some (Q j), a, b, c, d]) (tl _ _ rfl) (fun j d e M' hd hi => ?_) (fun _ _ _ => trivial) ⟨rfl, _, _, _, _, rfl⟩ (fun e' M' hi => ?_)
  · obtain ⟨rfl, a, b, c, d', rfl⟩ := hi
    obtain ⟨hj, rfl⟩ := map_get hd
    have zr : ∀ (b c d : Option D) (M : Store), zipD (consA (nameD 4) (consA (nameD 3) nilA)) [some R, some (.int (H 0 0)), some (.int wi), some (Q j), some (Q (j + 1)), b, c, d] M = ok (zipI ((List.range w).map fun x => hD H x (j + 1)) ((List.range w).map fun x => hD H x j), fun _ => True) M := fun b c d M => zip_rows (fun M => by
      show ok (Q (j + 1)) M = _
      rw [← hQ']) (fun M => by
      show ok (Q j) M = _
      rw [← hQ']) M
    have q1 := ix j
    have q2 := lw (j + 1)
    have q3 := ty (j + 1)
    refine ⟨trivial, [some R, some (.int (H 0 0)), some (.int wi), some (Q j), some (Q (j + 1)), b, c, d'], M', rfl, ?_⟩
    refine wp_nx (e' := [some R, some (.int (H 0 0)), some (.int wi), some (Q j), some (Q (j + 1)), b, c, d']) (M' := M') (by
      generalize Q (j + 1) = P at *
      generalize H 0 0 = k0 at *
      simp [seqS, ifS, retS, raiseF, raiseS, consA, nilA, binD, callD, nameD, cD, bindE_v, thenS_v, bindE_x, thenS_x, unD, parS, asgS, tupD, int2F, eq_int, ne_int, intF0, negF, notF, nilS, brD, fnD, addE, subE, ix0, ix1, dropS, asgG, tupG, consG, nameG, nilG, lstD, andD, orD, tstD, ownS, appS, len_tup, len_lst, tup_tup, wipeE, set1, set2, typ_int, typ_tup, typ_non, typ_lst, isF, chainD, asT, truD, len_row, typ_row, q2, q3]) ?_
    refine wp_nx (e' := [some R, some (.int (H 0 0)), some (.int wi), some (Q j), some (Q (j + 1)), some (.int (H 0 j)), c, d']) (M' := M') (by
      generalize Q (j + 1) = P at *
      generalize Q j = P' at *
      generalize H 0 0 = k0 at *
      simp [seqS, ifS, retS, raiseF, raiseS, consA, nilA, binD, callD, nameD, cD, bindE_v, thenS_v, bindE_x, thenS_x, unD, parS, asgS, tupD, int2F, eq_int, ne_int, intF0, negF, notF, nilS, brD, fnD, addE, subE, ix0, ix1, dropS, asgG, tupG, consG, nameG, nilG, lstD, andD, orD, tstD, ownS, appS, len_tup, len_lst, tup_tup, wipeE, set1, set2, typ_int, typ_tup, typ_non, typ_lst, isF, chainD, asT, truD, len_row, typ_row, q1]) ?_
    refine wp_for_nx (zipI ((List.range w).map fun x => hD H x (j + 1)) ((List.range w).map fun x => hD H x j)) (fun x e M'' => M'' = M' ∧ ∃ c d, e = [some R, some (.int (H 0 0)), some (.int wi), some (Q j), some (Q (j + 1)), some (.int (B j x)), c, d]) (zr _ _ _ _) (fun x d e M2 hd hi => ?_) (fun _ _ _ => trivial) ⟨rfl, _, _, rfl⟩ (fun e' M2 hi => ?_)
    · obtain ⟨rfl, c, d', rfl⟩ := hi
      obtain ⟨hx, rfl⟩ := zip_rows_get hd
      have n1 : (H x (j + 1) - B j x).natAbs = 1 := by
        show (H x (j + 1) - (if x = 0 then H 0 j else H (x - 1) (j + 1))).natAbs = 1
        by_cases c : x = 0
        · subst c
          rw [if_pos rfl]
          exact v.sy 0 j hx (by omega)
        · rw [if_neg c]
          have := v.sx (x - 1) (j + 1) (by omega) (by omega)
          rwa [show x - 1 + 1 = x by omega] at this
      have n2 := v.sy x j hx (by omega)
      have hB : B j (x + 1) = H x (j + 1) := by
        show (if x + 1 = 0 then H 0 j else H (x + 1 - 1) (j + 1)) = _
        rw [if_neg (by omega)]
        rfl
      rw [hB]
      obtain ⟨pr, hpr⟩ : ∃ z : Int, z = (H x (j + 1) - B j x) * (H x (j + 1) - H x j) := ⟨_, rfl⟩
      have pn : pr.natAbs = 1 := by rw [hpr, Int.natAbs_mul, n1, n2]
      have em : ∀ M, mulF (.int (H x (j + 1) - B j x)) (.int (H x (j + 1) - H x j)) M = ok (.int pr) M := fun M => by
        rw [hpr]
        exact mulB (k := 1) (l := 1) (by unfold Bd; omega) (by unfold Bd; omega) (by decide)
      have p1 := fun M => nin_pm (M := M) pn
      clear hpr
      show True ∧ ∃ e1 M1, tupG 2 (consG (nameG 6) (consG (nameG 7) nilG)) (.tup [.int (H x (j + 1)), .int (H x j)]) _ _ = _ ∧ _
      generalize B j x = bb at *
      generalize H x (j + 1) = u at *
      generalize H x j = l at *
      generalize H 0 0 = k0 at *
      generalize Q (j + 1) = P at *
      generalize Q j = P' at *
      refine ⟨trivial, [some R, some (.int k0), some (.int wi), some P', some P, some (.int bb), some (.int u), some (.int l)], M2, by simp [seqS, ifS, retS, raiseF, raiseS, consA, nilA, binD, callD, nameD, cD, bindE_v, thenS_v, bindE_x, thenS_x, unD, parS, asgS, tupD, int2F, eq_int, ne_int, intF0, negF, notF, nilS, brD, fnD, addE, subE, ix0, ix1, dropS, asgG, tupG, consG, nameG, nilG, lstD, andD, orD, tstD, ownS, appS, len_tup, len_lst, tup_tup, wipeE, set1, set2, typ_int, typ_tup, typ_non, typ_lst, isF, chainD, asT, truD, len_row, typ_row], ?_⟩
      refine wp_nx (e' := [some R, some (.int k0), some (.int wi), some P', some P, some (.int bb), some (.int u), some (.int l)]) (M' := M2) (by simp [seqS, ifS, retS, raiseF, raiseS, consA, nilA, binD, callD, nameD, cD, bindE_v, thenS_v, bindE_x, thenS_x, unD, parS, asgS, tupD, int2F, eq_int, ne_int, intF0, negF, notF, nilS, brD, fnD, addE, subE, ix0, ix1, dropS, asgG, tupG, consG, nameG, nilG, lstD, andD, orD, tstD, ownS, appS, len_tup, len_lst, tup_tup, wipeE, set1, set2, typ_int, typ_tup, typ_non, typ_lst, isF, chainD, asT, truD, len_row, typ_row]) ?_
      refine wp_nx (e' := [some R, some (.int k0), some (.int wi), some P', some P, some (.int bb), some (.int u), some (.int l)]) (M' := M2) (by simp [seqS, ifS, retS, raiseF, raiseS, consA, nilA, binD, callD, nameD, cD, bindE_v, thenS_v, bindE_x, thenS_x, unD, parS, asgS, tupD, int2F, eq_int, ne_int, intF0, negF, notF, nilS, brD, fnD, addE, subE, ix0, ix1, dropS, asgG, tupG, consG, nameG, nilG, lstD, andD, orD, tstD, ownS, appS, len_tup, len_lst, tup_tup, wipeE, set1, set2, typ_int, typ_tup, typ_non, typ_lst, isF, chainD, asT, truD, len_row, typ_row, em, p1]) ?_
      exact wp_of (M' := M2) (.nx [some R, some (.int k0), some (.int wi), some P', some P, some (.int u), some (.int u), some (.int l)]) (by simp [seqS, ifS, retS, raiseF, raiseS, consA, nilA, binD, callD, nameD, cD, bindE_v, thenS_v, bindE_x, thenS_x, unD, parS, asgS, tupD, int2F, eq_int, ne_int, intF0, negF, notF, nilS, brD, fnD, addE, subE, ix0, ix1, dropS, asgG, tupG, consG, nameG, nilG, lstD, andD, orD, tstD, ownS, appS, len_tup, len_lst, tup_tup, wipeE, set1, set2, typ_int, typ_tup, typ_non, typ_lst, isF, chainD, asT, truD, len_row, typ_row]) ⟨_, .inl rfl, rfl, _, _, rfl⟩
    · obtain ⟨rfl, c, d', rfl⟩ := hi
      refine wp_of (M' := M2) (.nx [some R, some (.int (H 0 0)), some (.int wi), some (Q (j + 1)), some (Q (j + 1)), some (.int (B j (zipI ((List.range w).map fun x => hD H x (j + 1)) ((List.range w).map fun x => hD H x j)).length)), c, d']) ?_ ⟨_, .inl rfl, rfl, _, _, _, _, rfl⟩
      generalize B j _ = bb
      generalize Q (j + 1) = P at *
      generalize H 0 0 = k0 at *
      simp [seqS, ifS, retS, raiseF, raiseS, consA, nilA, binD, callD, nameD, cD, bindE_v, thenS_v, bindE_x, thenS_x, unD, parS, asgS, tupD, int2F, eq_int, ne_int, intF0, negF, notF, nilS, brD, fnD, addE, subE, ix0, ix1, dropS, asgG, tupG, consG, nameG, nilG, lstD, andD, orD, tstD, ownS, appS, len_tup, len_lst, tup_tup, wipeE, set1, set2, typ_int, typ_tup, typ_non, typ_lst, isF, chainD, asT, truD, len_row, typ_row]
  · obtain ⟨rfl, a, b, c, d', rfl⟩ := hi
    generalize Q ((List.range (h - 1)).map fun y => Q (y + 1)).length = P
    refine wp_of (M' := M') (.rt .non) ?_ ⟨rfl, [], by simp⟩
    refine seq_rt ?_
    generalize H 0 0 = k0 at *
    by_cases hc : A + wi + hi - 2 ≤ 35
    · simp [seqS, ifS, retS, raiseF, raiseS, consA, nilA, binD, callD, nameD, cD, bindE_v, thenS_v, bindE_x, thenS_x, unD, parS, asgS, tupD, int2F, eq_int, ne_int, intF0, negF, notF, nilS, brD, fnD, addE, subE, ix0, ix1, dropS, asgG, tupG, consG, nameG, nilG, lstD, andD, orD, tstD, ownS, appS, len_tup, len_lst, tup_tup, wipeE, set1, set2, typ_int, typ_tup, typ_non, typ_lst, isF, chainD, asT, truD, len_row, typ_row, b3, ln, le_int, hc]
    · simp [seqS, ifS, retS, raiseF, raiseS, consA, nilA, binD, callD, nameD, cD, bindE_v, thenS_v, bindE_x, thenS_x, unD, parS, asgS, tupD, int2F, eq_int, ne_int, intF0, negF, notF, nilS, brD, fnD, addE, subE, ix0, ix1, dropS, asgG, tupG, consG, nameG, nilG, lstD, andD, orD, tstD, ownS, appS, len_tup, len_lst, tup_tup, wipeE, set1, set2, typ_int, typ_tup, typ_non, typ_lst, isF, chainD, asT, truD, len_row, typ_row, b3, ln, le_int, hc, a4]
theorem wrows_ok (v : VF w h H W) : m_are_worth_rows [tabD w h (wD W), szD w h] M = ok (.bl true) M := by
  have w2 := v.w2
  have h2 := v.h2
  obtain ⟨wi, hwi⟩ : ∃ i : Int, i = (w : Int) := ⟨_, rfl⟩
  obtain ⟨hi, hhi⟩ : ∃ i : Int, i = (h : Int) := ⟨_, rfl⟩
  have t1 : ∀ M, m_is_tuple_of [tabD w h (wD W), .int hi] M = ok (.bl true) M := fun M => by
    rw [hhi, tupof_row, decide_eq_true rfl]
  have it : ∀ (e : DL.Env) M, e[0]? = some (some (tabD w h (wD W))) → itD (nameD 0) e M = ok ((List.range h).map fun y => rowD w fun x => wD W x y, fun _ => True) M := fun e M he => it_row (by
    unfold nameD
    rw [he])
  have lw : ∀ y M, lenF [rowD w fun x => wD W x y] M = ok (.int wi) M := fun y M => by rw [hwi]; exact len_row
  have ty : ∀ y M, typF [rowD w fun x => wD W x y] M = ok (.ty "tuple") M := fun y M => rfl
  have it2 : ∀ y (e : DL.Env) M, e[4]? = some (some (rowD w fun x => wD W x y)) → itD (nameD 4) e M = ok ((List.range w).map fun x => wD W x y, fun _ => True) M := fun y e M he => it_row (by
    unfold nameD
    rw [he])
  show m_are_worth_rows [_, .tup [.int (w : Int), .int (h : Int)]] M = _
  rw [← hwi, ← hhi]
  obtain ⟨R, hR⟩ : ∃ R, R = tabD w h (wD W) := ⟨_, rfl⟩
  rw [← hR] at t1 it ⊢
  let S : D := .tup [.int wi, .int hi]
  refine fv_wp (e0 := [some R, some S, none, none, none, none, none, none]) rfl ?_ rfl
  unfold den_are_worth_rows
  refine wp_nx (e' := [some R, some S, some (.int wi), some (.int hi), none, none, none, none]) (M' := M) (by simp [seqS, ifS, retS, raiseF, raiseS, consA, nilA, binD, callD, nameD, cD, bindE_v, thenS_v, bindE_x, thenS_x, unD, parS, asgS, tupD, int2F, eq_int, ne_int, intF0, negF, notF, nilS, brD, fnD, addE, subE, ix0, ix1, dropS, asgG, tupG, consG, nameG, nilG, lstD, andD, orD, tstD, ownS, appS, len_tup, len_lst, tup_tup, wipeE, set1, set2, typ_int, typ_tup, typ_non, typ_lst, isF, chainD, asT, truD, len_row, typ_row, S]) ?_
  refine wp_nx (e' := [some R, some S, some (.int wi), some (.int hi), none, none, none, none]) (M' := M) (by simp [seqS, ifS, retS, raiseF, raiseS, consA, nilA, binD, callD, nameD, cD, bindE_v, thenS_v, bindE_x, thenS_x, unD, parS, asgS, tupD, int2F, eq_int, ne_int, intF0, negF, notF, nilS, brD, fnD, addE, subE, ix0, ix1, dropS, asgG, tupG, consG, nameG, nilG, lstD, andD, orD, tstD, ownS, appS, len_tup, len_lst, tup_tup, wipeE, set1, set2, typ_int, typ_tup, typ_non, typ_lst, isF, chainD, asT, truD, len_row, typ_row, t1]) ?_
  refine wp_for_nx ((List.range h).map fun y => rowD w fun x => wD W x y) (fun _ e M' => M' = M ∧ ∃ a b c d, e = [some R, some S, some (.int wi), some (.int hi), a, b, c, d]) (it _ _ rfl) (fun j d e M' hd hi => ?_) (fun _ _ _ => trivial) ⟨rfl, _, _, _, _, rfl⟩ (fun e' M' hi => ?_)
  · obtain ⟨rfl, a, b, c, d', rfl⟩ := hi
    obtain ⟨hy, rfl⟩ := map_get hd
    have q2 := lw j
    have q3 := ty j
    have q4 := it2 j
    generalize (rowD w fun x => wD W x j) = P at *
    refine ⟨trivial, [some R, some S, some (.int wi), some (.int hi), some P, b, c, d'], M', rfl, ?_⟩
    refine wp_nx (e' := [some R, some S, some (.int wi), some (.int hi), some P, b, c, d']) (M' := M') (by simp [seqS, ifS, retS, raiseF, raiseS, consA, nilA, binD, callD, nameD, cD, bindE_v, thenS_v, bindE_x, thenS_x, unD, parS, asgS, tupD, int2F, eq_int, ne_int, intF0, negF, notF, nilS, brD, fnD, addE, subE, ix0, ix1, dropS, asgG, tupG, consG, nameG, nilG, lstD, andD, orD, tstD, ownS, appS, len_tup, len_lst, tup_tup, wipeE, set1, set2, typ_int, typ_tup, typ_non, typ_lst, isF, chainD, asT, truD, len_row, typ_row, q2, q3]) ?_
    refine wp_for ((List.range w).map fun x => wD W x j) (fun _ e M'' => M'' = M' ∧ ∃ b c d, e = [some R, some S, some (.int wi), some (.int hi), some P, b, c, d]) (q4 _ _ rfl) (fun x d e M2 hd hi => ?_) (fun _ _ _ => trivial) ⟨rfl, _, _, _, rfl⟩ (fun e' M2 hi => ?_)
    · obtain ⟨rfl, b, c, d', rfl⟩ := hi
      obtain ⟨hx, rfl⟩ := map_get hd
      obtain ⟨p1, p2, p3⟩ := v.wor x j hx hy
      show True ∧ ∃ e1 M1, nameG 5 (.tup [.int (W x j).1, .int (W x j).2]) _ _ = _ ∧ _
      generalize (W x j).1 = u at *
      generalize (W x j).2 = l at *
      let V : D := .tup [.int u, .int l]
      have gc : ∀ M, gcdF [.int u, .int l] M = ok (.int 1) M := fun M => by rw [gcd_ev, p2]; rfl
      refine ⟨trivial, [some R, some S, some (.int wi), some (.int hi), some P, some V, c, d'], M2, rfl, ?_⟩
      refine wp_nx (e' := [some R, some S, some (.int wi), some (.int hi), some P, some V, c, d']) (M' := M2) (by simp [seqS, ifS, retS, raiseF, raiseS, consA, nilA, binD, callD, nameD, cD, bindE_v, thenS_v, bindE_x, thenS_x, unD, parS, asgS, tupD, int2F, eq_int, ne_int, intF0, negF, notF, nilS, brD, fnD, addE, subE, ix0, ix1, dropS, asgG, tupG, consG, nameG, nilG, lstD, andD, orD, tstD, ownS, appS, len_tup, len_lst, tup_tup, wipeE, set1, set2, typ_int, typ_tup, typ_non, typ_lst, isF, chainD, asT, truD, len_row, typ_row, V]) ?_
      refine wp_nx (e' := [some R, some S, some (.int wi), some (.int hi), some P, some V, some (.int u), some (.int l)]) (M' := M2) (by simp [seqS, ifS, retS, raiseF, raiseS, consA, nilA, binD, callD, nameD, cD, bindE_v, thenS_v, bindE_x, thenS_x, unD, parS, asgS, tupD, int2F, eq_int, ne_int, intF0, negF, notF, nilS, brD, fnD, addE, subE, ix0, ix1, dropS, asgG, tupG, consG, nameG, nilG, lstD, andD, orD, tstD, ownS, appS, len_tup, len_lst, tup_tup, wipeE, set1, set2, typ_int, typ_tup, typ_non, typ_lst, isF, chainD, asT, truD, len_row, typ_row, V]) ?_
      refine wp_nx (e' := [some R, some S, some (.int wi), some (.int hi), some P, some V, some (.int u), some (.int l)]) (M' := M2) (by simp [seqS, ifS, retS, raiseF, raiseS, consA, nilA, binD, callD, nameD, cD, bindE_v, thenS_v, bindE_x, thenS_x, unD, parS, asgS, tupD, int2F, eq_int, ne_int, intF0, negF, notF, nilS, brD, fnD, addE, subE, ix0, ix1, dropS, asgG, tupG, consG, nameG, nilG, lstD, andD, orD, tstD, ownS, appS, len_tup, len_lst, tup_tup, wipeE, set1, set2, typ_int, typ_tup, typ_non, typ_lst, isF, chainD, asT, truD, len_row, typ_row]) ?_
      refine wp_of (M' := M2) (.nx [some R, some S, some (.int wi), some (.int hi), some P, some V, some (.int u), some (.int l)]) ?_ ⟨_, .inl rfl, rfl, _, _, _, rfl⟩
      have nl : ¬ l < 1 := by omega
      by_cases hc : l = 1
      · simp [seqS, ifS, retS, raiseF, raiseS, consA, nilA, binD, callD, nameD, cD, bindE_v, thenS_v, bindE_x, thenS_x, unD, parS, asgS, tupD, int2F, eq_int, ne_int, intF0, negF, notF, nilS, brD, fnD, addE, subE, ix0, ix1, dropS, asgG, tupG, consG, nameG, nilG, lstD, andD, orD, tstD, ownS, appS, len_tup, len_lst, tup_tup, wipeE, set1, set2, typ_int, typ_tup, typ_non, typ_lst, isF, chainD, asT, truD, len_row, typ_row, hc, p3]
      · simp [seqS, ifS, retS, raiseF, raiseS, consA, nilA, binD, callD, nameD, cD, bindE_v, thenS_v, bindE_x, thenS_x, unD, parS, asgS, tupD, int2F, eq_int, ne_int, intF0, negF, notF, nilS, brD, fnD, addE, subE, ix0, ix1, dropS, asgG, tupG, consG, nameG, nilG, lstD, andD, orD, tstD, ownS, appS, len_tup, len_lst, tup_tup, wipeE, set1, set2, typ_int, typ_tup, typ_non, typ_lst, isF, chainD, asT, truD, len_row, typ_row, hc, lt_int, nl, gc]
    · obtain ⟨rfl, b, c, d', rfl⟩ := hi
      exact ⟨_, .inl rfl, rfl, _, _, _, _, rfl⟩
  · obtain ⟨rfl, a, b, c, d', rfl⟩ := hi
    exact wp_of (.rt (.bl true)) (M' := M') (by simp [seqS, ifS, retS, raiseF, raiseS, consA, nilA, binD, callD, nameD, cD, bindE_v, thenS_v, bindE_x, thenS_x, unD, parS, asgS, tupD, int2F, eq_int, ne_int, intF0, negF, notF, nilS, brD, fnD, addE, subE, ix0, ix1, dropS, asgG, tupG, consG, nameG, nilG, lstD, andD, orD, tstD, ownS, appS, len_tup, len_lst, tup_tup, wipeE, set1, set2, typ_int, typ_tup, typ_non, typ_lst, isF, chainD, asT, truD, len_row, typ_row]) ⟨rfl, [], by simp⟩
theorem need_ok (v : VF w h H W) : m_need_field [fieldD w h H W] M = ok .non M := by
  obtain ⟨R, hR⟩ : ∃ R, R = tabD w h (hD H) := ⟨_, rfl⟩
  obtain ⟨U, hU⟩ : ∃ R, R = tabD w h (wD W) := ⟨_, rfl⟩
  obtain ⟨S, hS⟩ : ∃ S, S = szD w h := ⟨_, rfl⟩
  have a1 : ∀ M, m_wrong_with_heights [R] M = ok .non M := fun M => by rw [hR]; exact wrong_ok v
  have a3 : ∀ M, m_sides [R] M = ok S M := fun M => by rw [hR, hS]; exact sides_ok v.h1
  have a4 : ∀ M, m_are_worth_rows [U, S] M = ok (.bl true) M := fun M => by rw [hU, hS]; exact wrows_ok v
  show m_need_field [.tup [tabD w h (hD H), tabD w h (wD W)]] M = _
  rw [← hR, ← hU]
  refine fv_wpn (e0 := [some (.tup [R, U]), none, none, none]) rfl ?_
  unfold den_need_field
  refine wp_nx (e' := [some (.tup [R, U]), none, none, none]) (M' := M) (by simp [seqS, ifS, retS, raiseF, raiseS, consA, nilA, binD, callD, nameD, cD, bindE_v, thenS_v, bindE_x, thenS_x, unD, parS, asgS, tupD, int2F, eq_int, ne_int, intF0, negF, notF, nilS, brD, fnD, addE, subE, ix0, ix1, dropS, asgG, tupG, consG, nameG, nilG, lstD, andD, orD, tstD, ownS, appS, len_tup, len_lst, tup_tup, wipeE, set1, set2, typ_int, typ_tup, typ_non, typ_lst, isF, chainD, asT, truD, len_row, typ_row, tupof_tup]) ?_
  refine wp_nx (e' := [some (.tup [R, U]), some R, some U, none]) (M' := M) (by simp [seqS, ifS, retS, raiseF, raiseS, consA, nilA, binD, callD, nameD, cD, bindE_v, thenS_v, bindE_x, thenS_x, unD, parS, asgS, tupD, int2F, eq_int, ne_int, intF0, negF, notF, nilS, brD, fnD, addE, subE, ix0, ix1, dropS, asgG, tupG, consG, nameG, nilG, lstD, andD, orD, tstD, ownS, appS, len_tup, len_lst, tup_tup, wipeE, set1, set2, typ_int, typ_tup, typ_non, typ_lst, isF, chainD, asT, truD, len_row, typ_row]) ?_
  refine wp_nx (e' := [some (.tup [R, U]), some R, some U, some .non]) (M' := M) (by simp [seqS, ifS, retS, raiseF, raiseS, consA, nilA, binD, callD, nameD, cD, bindE_v, thenS_v, bindE_x, thenS_x, unD, parS, asgS, tupD, int2F, eq_int, ne_int, intF0, negF, notF, nilS, brD, fnD, addE, subE, ix0, ix1, dropS, asgG, tupG, consG, nameG, nilG, lstD, andD, orD, tstD, ownS, appS, len_tup, len_lst, tup_tup, wipeE, set1, set2, typ_int, typ_tup, typ_non, typ_lst, isF, chainD, asT, truD, len_row, typ_row, a1]) ?_
  refine wp_nx (e' := [some (.tup [R, U]), some R, some U, some .non]) (M' := M) (by simp [seqS, ifS, retS, raiseF, raiseS, consA, nilA, binD, callD, nameD, cD, bindE_v, thenS_v, bindE_x, thenS_x, unD, parS, asgS, tupD, int2F, eq_int, ne_int, intF0, negF, notF, nilS, brD, fnD, addE, subE, ix0, ix1, dropS, asgG, tupG, consG, nameG, nilG, lstD, andD, orD, tstD, ownS, appS, len_tup, len_lst, tup_tup, wipeE, set1, set2, typ_int, typ_tup, typ_non, typ_lst, isF, chainD, asT, truD, len_row, typ_row, isNone]) ?_
  exact wp_of (M' := M) (.nx [some (.tup [R, U]), some R, some U, some .non]) (by simp [seqS, ifS, retS, raiseF, raiseS, consA, nilA, binD, callD, nameD, cD, bindE_v, thenS_v, bindE_x, thenS_x, unD, parS, asgS, tupD, int2F, eq_int, ne_int, intF0, negF, notF, nilS, brD, fnD, addE, subE, ix0, ix1, dropS, asgG, tupG, consG, nameG, nilG, lstD, andD, orD, tstD, ownS, appS, len_tup, len_lst, tup_tup, wipeE, set1, set2, typ_int, typ_tup, typ_non, typ_lst, isF, chainD, asT, truD, len_row, typ_row, a3, a4]) ⟨⟨_, rfl⟩, [], by simp⟩
end
end K63
namespace K63
open PySem L2 DL
section
variable {w h n : Nat} {f g : Nat → D} {M : Store} {H : Nat → Nat → Int} {W : Nat → Nat → Int × Int} {e : DL.Env} {da de : DenE} {di : DenI}
theorem nl_tab {f : Nat → Nat → D} (hf : ∀ x y, nlD 0 (f x y) = true) : nlD 0 (tabD w h f) = true := nl_row fun y _ => nl_row fun x _ => hf x y
theorem range_snoc {f : Nat → D} (n : Nat) : (List.range n).map f ++ [f n] = (List.range (n + 1)).map f := by
  rw [List.range_succ, List.map_append]
  rfl
end
end K63
namespace K63
open PySem L2 DL
abbrev Mx := Nat → Nat → Rat
abbrev gridD (n : Nat) (A : Nat → Nat → Rat) : D := rowD n fun i => rowD n fun j => qD (A i j)
section
variable {n : Nat} {g : Nat → D} {M : Store}
theorem isrow_ok {a : Nat → Rat} : m__is_row [rowD n fun j => qD (a j), .int (n : Int)] M = ok (.bl true) M := by
  obtain ⟨ni, hni⟩ : ∃ i : Int, i = (n : Int) := ⟨_, rfl⟩
  have t1 : ∀ M, m_is_tuple_of [rowD n fun j => qD (a j), .int ni] M = ok (.bl true) M := fun M => by
    rw [hni, tupof_row, decide_eq_true rfl]
  have it : ∀ (e : DL.Env) M, e[0]? = some (some (rowD n fun j => qD (a j))) → itD (nameD 0) e M = ok ((List.range n).map fun j => qD (a j), fun _ => True) M := fun e M he => it_row (by
    unfold nameD
    rw [he])
  rw [← hni]
  obtain ⟨R, hR⟩ : ∃ R, R = rowD n fun j => qD (a j) := ⟨_, rfl⟩
  rw [← hR] at t1 it ⊢
  refine fv_wp (e0 := [some R, some (.int ni), none, none, none]) rfl ?_ rfl
  unfold den__is_row
  refine wp_nx (e' := [some R, some (.int ni), none, none, none]) (M' := M) (by simp [seqS, ifS, retS, raiseF, raiseS, consA, nilA, binD, callD, nameD, cD, bindE_v, thenS_v, bindE_x, thenS_x, unD, parS, asgS, tupD, int2F, eq_int, ne_int, intF0, negF, notF, nilS, brD, fnD, addE, subE, ix0, ix1, dropS, asgG, tupG, consG, nameG, nilG, lstD, andD, orD, tstD, ownS, appS, len_tup, len_lst, tup_tup, wipeE, set1, set2, typ_int, typ_tup, typ_non, typ_lst, isF, chainD, asT, truD, len_row, typ_row, t1]) ?_
  refine wp_for_nx ((List.range n).map fun j => qD (a j)) (fun _ e M' => M' = M ∧ ∃ b c d, e = [some R, some (.int ni), b, c, d]) (it _ _ rfl) (fun j d e M' hd hi => ?_) (fun _ _ _ => trivial) ⟨rfl, _, _, _, rfl⟩ (fun e' M' hi => ?_)
  · obtain ⟨rfl, b, c, d', rfl⟩ := hi
    obtain ⟨hj, rfl⟩ := map_getR hd
    have rd := (a j).reduced
    have dp := (a j).den_pos
    have gc : ∀ M, gcdF [.int (a j).num, .int ((a j).den : Int)] M = ok (.int 1) M := fun M => by
      rw [gcd_ev]
      have : Nat.gcd (a j).num.natAbs ((a j).den : Int).natAbs = 1 := rd
      rw [this]
      rfl
    show True ∧ ∃ e1 M1, nameG 2 (.tup [.int (a j).num, .int ((a j).den : Int)]) _ _ = _ ∧ _
    obtain ⟨l, hl⟩ : ∃ l : Int, l = ((a j).den : Int) := ⟨_, rfl⟩
    have l1 : ¬ l < 1 := by omega
    rw [← hl] at gc ⊢
    generalize (a j).num = u at *
    refine ⟨trivial, [some R, some (.int ni), some (.tup [.int u, .int l]), c, d'], M', rfl, ?_⟩
    refine wp_nx (e' := [some R, some (.int ni), some (.tup [.int u, .int l]), c, d']) (M' := M') (by simp [seqS, ifS, retS, raiseF, raiseS, consA, nilA, binD, callD, nameD, cD, bindE_v, thenS_v, bindE_x, thenS_x, unD, parS, asgS, tupD, int2F, eq_int, ne_int, intF0, negF, notF, nilS, brD, fnD, addE, subE, ix0, ix1, dropS, asgG, tupG, consG, nameG, nilG, lstD, andD, orD, tstD, ownS, appS, len_tup, len_lst, tup_tup, wipeE, set1, set2, typ_int, typ_tup, typ_non, typ_lst, isF, chainD, asT, truD, len_row, typ_row]) ?_
    refine wp_nx (e' := [some R, some (.int ni), some (.tup [.int u, .int l]), some (.int u), some (.int l)]) (M' := M') (by simp [seqS, ifS, retS, raiseF, raiseS, consA, nilA, binD, callD, nameD, cD, bindE_v, thenS_v, bindE_x, thenS_x, unD, parS, asgS, tupD, int2F, eq_int, ne_int, intF0, negF, notF, nilS, brD, fnD, addE, subE, ix0, ix1, dropS, asgG, tupG, consG, nameG, nilG, lstD, andD, orD, tstD, ownS, appS, len_tup, len_lst, tup_tup, wipeE, set1, set2, typ_int, typ_tup, typ_non, typ_lst, isF, chainD, asT, truD, len_row, typ_row]) ?_
    refine wp_nx (e' := [some R, some (.int ni), some (.tup [.int u, .int l]), some (.int u), some (.int l)]) (M' := M') (by simp [seqS, ifS, retS, raiseF, raiseS, consA, nilA, binD, callD, nameD, cD, bindE_v, thenS_v, bindE_x, thenS_x, unD, parS, asgS, tupD, int2F, eq_int, ne_int, intF0, negF, notF, nilS, brD, fnD, addE, subE, ix0, ix1, dropS, asgG, tupG, consG, nameG, nilG, lstD, andD, orD, tstD, ownS, appS, len_tup, len_lst, tup_tup, wipeE, set1, set2, typ_int, typ_tup, typ_non, typ_lst, isF, chainD, asT, truD, len_row, typ_row]) ?_
    refine wp_of (M' := M') (.nx [some R, some (.int ni), some (.tup [.int u, .int l]), some (.int u), some (.int l)]) ?_ ⟨_, .inl rfl, rfl, _, _, _, rfl⟩
    by_cases hc : l = 1
    · simp [seqS, ifS, retS, raiseF, raiseS, consA, nilA, binD, callD, nameD, cD, bindE_v, thenS_v, bindE_x, thenS_x, unD, parS, asgS, tupD, int2F, eq_int, ne_int, intF0, negF, notF, nilS, brD, fnD, addE, subE, ix0, ix1, dropS, asgG, tupG, consG, nameG, nilG, lstD, andD, orD, tstD, ownS, appS, len_tup, len_lst, tup_tup, wipeE, set1, set2, typ_int, typ_tup, typ_non, typ_lst, isF, chainD, asT, truD, len_row, typ_row, hc]
    · simp [seqS, ifS, retS, raiseF, raiseS, consA, nilA, binD, callD, nameD, cD, bindE_v, thenS_v, bindE_x, thenS_x, unD, parS, asgS, tupD, int2F, eq_int, ne_int, intF0, negF, notF, nilS, brD, fnD, addE, subE, ix0, ix1, dropS, asgG, tupG, consG, nameG, nilG, lstD, andD, orD, tstD, ownS, appS, len_tup, len_lst, tup_tup, wipeE, set1, set2, typ_int, typ_tup, typ_non, typ_lst, isF, chainD, asT, truD, len_row, typ_row, hc, lt_int, l1, gc]
  · obtain ⟨rfl, b, c, d', rfl⟩ := hi
    exact wp_of (.rt (.bl true)) (M' := M') (by simp [seqS, ifS, retS, raiseF, raiseS, consA, nilA, binD, callD, nameD, cD, bindE_v, thenS_v, bindE_x, thenS_x, unD, parS, asgS, tupD, int2F, eq_int, ne_int, intF0, negF, notF, nilS, brD, fnD, addE, subE, ix0, ix1, dropS, asgG, tupG, consG, nameG, nilG, lstD, andD, orD, tstD, ownS, appS, len_tup, len_lst, tup_tup, wipeE, set1, set2, typ_int, typ_tup, typ_non, typ_lst, isF, chainD, asT, truD, len_row, typ_row]) ⟨rfl, [], by simp⟩
theorem needrows_ok {A : Nat → Nat → Rat} {l m : Int} (h1 : l ≤ (n : Int)) (h2 : (n : Int) ≤ m) : m_need_rows [gridD n A, .int l, .int m] M = ok .non M := by
  obtain ⟨ni, hni⟩ : ∃ i : Int, i = (n : Int) := ⟨_, rfl⟩
  have r1 : ∀ i M, m__is_row [rowD n fun j => qD (A i j), .int ni] M = ok (.bl true) M := fun i M => by rw [hni]; exact isrow_ok
  have ln : ∀ M, lenF [gridD n A] M = ok (.int ni) M := fun M => by rw [hni]; exact len_row
  have it : ∀ (e : DL.Env) M, e[0]? = some (some (gridD n A)) → itD (nameD 0) e M = ok ((List.range n).map fun i => rowD n fun j => qD (A i j), fun _ => True) M := fun e M he => it_row (by
    unfold nameD
    rw [he])
  have ty : ∀ M, typF [gridD n A] M = ok (.ty "tuple") M := fun M => rfl
  obtain ⟨Q, hQ⟩ : ∃ Q : Nat → D, Q = fun i => rowD n fun j => qD (A i j) := ⟨_, rfl⟩
  have hQ' : ∀ i, (rowD n fun j => qD (A i j)) = Q i := fun i => by rw [hQ]
  rw [← hni] at h1 h2
  obtain ⟨R, hR⟩ : ∃ R, R = gridD n A := ⟨_, rfl⟩
  rw [← hR] at it ty ln ⊢
  simp only [hQ'] at it r1
  refine fv_wpn (e0 := [some R, some (.int l), some (.int m), none]) rfl ?_
  unfold den_need_rows
  have ch := chain_le (da := nameD 1) (db := callD lenF (consA (nameD 0) nilA)) (dc := nameD 2) (e := [some R, some (.int l), some (.int m), none]) (M := M) (i := l) (j := ni) (k := m) (by simp [seqS, ifS, retS, raiseF, raiseS, consA, nilA, binD, callD, nameD, cD, bindE_v, thenS_v, bindE_x, thenS_x, unD, parS, asgS, tupD, int2F, eq_int, ne_int, intF0, negF, notF, nilS, brD, fnD, addE, subE, ix0, ix1, dropS, asgG, tupG, consG, nameG, nilG, lstD, andD, orD, tstD, ownS, appS, len_tup, len_lst, tup_tup, wipeE, set1, set2, typ_int, typ_tup, typ_non, typ_lst, isF, chainD, asT, truD, len_row, typ_row]) (by simp [seqS, ifS, retS, raiseF, raiseS, consA, nilA, binD, callD, nameD, cD, bindE_v, thenS_v, bindE_x, thenS_x, unD, parS, asgS, tupD, int2F, eq_int, ne_int, intF0, negF, notF, nilS, brD, fnD, addE, subE, ix0, ix1, dropS, asgG, tupG, consG, nameG, nilG, lstD, andD, orD, tstD, ownS, appS, len_tup, len_lst, tup_tup, wipeE, set1, set2, typ_int, typ_tup, typ_non, typ_lst, isF, chainD, asT, truD, len_row, typ_row, ln]) (by simp [seqS, ifS, retS, raiseF, raiseS, consA, nilA, binD, callD, nameD, cD, bindE_v, thenS_v, bindE_x, thenS_x, unD, parS, asgS, tupD, int2F, eq_int, ne_int, intF0, negF, notF, nilS, brD, fnD, addE, subE, ix0, ix1, dropS, asgG, tupG, consG, nameG, nilG, lstD, andD, orD, tstD, ownS, appS, len_tup, len_lst, tup_tup, wipeE, set1, set2, typ_int, typ_tup, typ_non, typ_lst, isF, chainD, asT, truD, len_row, typ_row])
  rw [decide_eq_true h1, decide_eq_true h2] at ch
  refine wp_nx (e' := [some R, some (.int l), some (.int m), none]) (M' := M) ((if_f (or_v (a := false) (b := false) (by simp [seqS, ifS, retS, raiseF, raiseS, consA, nilA, binD, callD, nameD, cD, bindE_v, thenS_v, bindE_x, thenS_x, unD, parS, asgS, tupD, int2F, eq_int, ne_int, intF0, negF, notF, nilS, brD, fnD, addE, subE, ix0, ix1, dropS, asgG, tupG, consG, nameG, nilG, lstD, andD, orD, tstD, ownS, appS, len_tup, len_lst, tup_tup, wipeE, set1, set2, typ_int, typ_tup, typ_non, typ_lst, isF, chainD, asT, truD, len_row, typ_row, ty]) fun _ => not_v ch)).trans rfl) ?_
  refine wp_for ((List.range n).map fun i => Q i) (fun _ e M' => M' = M ∧ ∃ b, e = [some R, some (.int l), some (.int m), b]) (it _ _ rfl) (fun j d e M' hd hi => ?_) (fun _ _ _ => trivial) ⟨rfl, _, rfl⟩ (fun e' M' hi => ?_)
  · obtain ⟨rfl, b, rfl⟩ := hi
    obtain ⟨hj, rfl⟩ := map_getR hd
    have q := r1 j
    generalize Q j = q0 at *
    exact ⟨trivial, [some R, some (.int l), some (.int m), some q0], M', rfl, wp_of (M' := M') (.nx [some R, some (.int l), some (.int m), some q0]) (by simp [seqS, ifS, retS, raiseF, raiseS, consA, nilA, binD, callD, nameD, cD, bindE_v, thenS_v, bindE_x, thenS_x, unD, parS, asgS, tupD, int2F, eq_int, ne_int, intF0, negF, notF, nilS, brD, fnD, addE, subE, ix0, ix1, dropS, asgG, tupG, consG, nameG, nilG, lstD, andD, orD, tstD, ownS, appS, len_tup, len_lst, tup_tup, wipeE, set1, set2, typ_int, typ_tup, typ_non, typ_lst, isF, chainD, asT, truD, len_row, typ_row, ln, q]) ⟨_, .inl rfl, rfl, _, rfl⟩⟩
  · obtain ⟨rfl, b, rfl⟩ := hi
    exact ⟨⟨_, rfl⟩, [], by simp⟩
theorem divInt_pos {a b : Int} (hb : 0 < b) : (Rat.divInt a b).num = a / ((Nat.gcd a.natAbs b.natAbs : Nat) : Int) ∧ ((Rat.divInt a b).den : Int) = b / ((Nat.gcd a.natAbs b.natAbs : Nat) : Int) := by
  have e : ((Nat.gcd a.natAbs b.natAbs : Nat) : Int) = ((Int.gcd b a : Nat) : Int) := by rw [Int.gcd_comm]; rfl
  constructor
  · rw [Rat.num_divInt, Int.sign_eq_one_of_pos hb, Int.one_mul, e]
  · rw [Rat.den_divInt, if_neg (by omega), e]
    rw [Int.natCast_ediv, Int.natAbs_of_nonneg (Int.le_of_lt hb)]
end
end K63
namespace K63
open PySem L2 DL
theorem at_mod {ns : List Int} {k : Nat} (h : 0 < ns.length) : ∃ z, atI (ns.map D.int) ((k : Int) % (ns.length : Int)) = some (.int z) := by
  have lt := Nat.mod_lt k h
  refine ⟨ns[k % ns.length], ?_⟩
  rw [show (k : Int) % (ns.length : Int) = ((k % ns.length : Nat) : Int) from (Int.natCast_emod _ _).symm]
  exact at_nat (by simp [lt])
/-- the next cell -/
theorem cell_ok {ns : List Int} {k0 : Nat} {M : Store} (h : M[0]? = some (.lst [.int (k0 : Int)])) (hk : k0 ≤ 5000) (hn : ns.length ≤ 63) : ∃ c : Int, 0 ≤ c ∧ c < 306783379 ∧ m__law_cell [.scr ns, .loc 0] M = ok (.int c) (M.set 0 (.lst [.int ((k0 + 1 : Nat) : Int)])) := by
  have lt : 0 < M.length := get_lt h
  obtain ⟨K, hK⟩ : ∃ K : Int, K = ((k0 + 1 : Nat) : Int) := ⟨_, rfl⟩
  obtain ⟨M', hM'⟩ : ∃ M', M' = M.set 0 (.lst [.int K]) := ⟨_, rfl⟩
  obtain ⟨k, hk0⟩ : ∃ k : Int, k = (k0 : Int) := ⟨_, rfl⟩
  rw [← hk0] at h
  have g' : M'[0]? = some (.lst [.int K]) := by
    rw [hM']
    simp [lt]
  have k0' : 1 ≤ K := by omega
  have k1' : K ≤ 5001 := by omega
  have hkK : k + 1 = K := by omega
  rw [← hK, ← hM']
  have mB : ∀ (x y : Int) M, Bd 45 x → Bd 45 y → mulF (.int x) (.int y) M = ok (.int (x * y)) M := fun x y M h1 h2 => mulB h1 h2 (by decide)
  have bK : Bd 45 K := by unfold Bd; omega
  have b31 : Bd 45 31 := by unfold Bd; decide
  have b79 : Bd 45 7919 := by unfold Bd; decide
  have b3k : Bd 45 (31 * K) := by unfold Bd; omega
  obtain ⟨base, hb⟩ : ∃ b : Int, b = 31 * K * K + 7919 * K := ⟨_, rfl⟩
  have ba0 : 0 ≤ base := by
    have : (0 : Int) ≤ 31 * K * K := Int.mul_nonneg (by omega) (by omega)
    omega
  let E : DL.Env := [some (.scr ns), some (.loc 0), some (.int K), some (.int base), none, none]
  have a1 : ∀ M, M[0]? = some (.lst [.int k]) → ixF (.loc 0) (.int 0) M = ok (.int k) M := fun M hm => ix_loc hm rfl
  have a2 : ixF (.loc 0) (.int 0) M' = ok (.int K) M' := ix_loc g' rfl
  have st1 : asgG (binD addF (binD ixF (nameD 1) (cD (.int 0))) (cD (.int 1))) (subG (nameD 1) (cD (.int 0))) [some (.scr ns), some (.loc 0), none, none, none, none] M = some (.nx [some (.scr ns), some (.loc 0), none, none, none, none], M') := by
    simp [seqS, ifS, retS, raiseF, raiseS, consA, nilA, binD, callD, nameD, cD, bindE_v, thenS_v, bindE_x, thenS_x, unD, parS, asgS, tupD, int2F, eq_int, ne_int, intF0, negF, notF, nilS, brD, fnD, addE, subE, ix0, ix1, dropS, asgG, tupG, consG, nameG, nilG, lstD, andD, orD, tstD, ownS, appS, len_tup, len_lst, tup_tup, wipeE, set1, set2, typ_int, typ_tup, typ_non, typ_lst, isF, chainD, asT, truD, len_row, typ_row, a1 M h, hkK, subG, h, ixN, hM']
  have st2 : asgS 2 (binD ixF (nameD 1) (cD (.int 0))) [some (.scr ns), some (.loc 0), none, none, none, none] M' = some (.nx [some (.scr ns), some (.loc 0), some (.int K), none, none, none], M') := by simp [seqS, ifS, retS, raiseF, raiseS, consA, nilA, binD, callD, nameD, cD, bindE_v, thenS_v, bindE_x, thenS_x, unD, parS, asgS, tupD, int2F, eq_int, ne_int, intF0, negF, notF, nilS, brD, fnD, addE, subE, ix0, ix1, dropS, asgG, tupG, consG, nameG, nilG, lstD, andD, orD, tstD, ownS, appS, len_tup, len_lst, tup_tup, wipeE, set1, set2, typ_int, typ_tup, typ_non, typ_lst, isF, chainD, asT, truD, len_row, typ_row, a2]
  have st3 : asgS 3 (binD addF (binD mulF (binD mulF (cD (.int 31)) (nameD 2)) (nameD 2)) (binD mulF (cD (.int 7919)) (nameD 2))) [some (.scr ns), some (.loc 0), some (.int K), none, none, none] M' = some (.nx E, M') := by
    simp [seqS, ifS, retS, raiseF, raiseS, consA, nilA, binD, callD, nameD, cD, bindE_v, thenS_v, bindE_x, thenS_x, unD, parS, asgS, tupD, int2F, eq_int, ne_int, intF0, negF, notF, nilS, brD, fnD, addE, subE, ix0, ix1, dropS, asgG, tupG, consG, nameG, nilG, lstD, andD, orD, tstD, ownS, appS, len_tup, len_lst, tup_tup, wipeE, set1, set2, typ_int, typ_tup, typ_non, typ_lst, isF, chainD, asT, truD, len_row, typ_row, mB _ _ _ b31 bK, mB _ _ _ b3k bK, mB _ _ _ b79 bK, hb, E]
  have last : ∀ (e : DL.Env) (b : Int), 0 ≤ b → e[3]? = some (some (.int b)) → Wp (retS (binD fdivF (binD fmodF (binD powF (binD fmodF (nameD 3) (cD (.int 2147483647))) (cD (.int 5))) (cD (.int 2147483647))) (cD (.int 7))) e M') (fun f M1 => M1 = M' ∧ ∃ c : Int, 0 ≤ c ∧ c < 306783379 ∧ f = .rt (.int c)) := by
    intro e b b0 h3
    obtain ⟨r, hr⟩ : ∃ r, r = b % 2147483647 := ⟨_, rfl⟩
    have r0 : 0 ≤ r := by omega
    have r1 : r < 2147483647 := by omega
    have rb : Bd 31 r := by unfold Bd; omega
    have e1 : ∀ M, fmodF (.int b) (.int 2147483647) M = ok (.int r) M := fun M => by rw [fmd (by decide), hr]
    obtain ⟨s, hs⟩ : ∃ s, s = r ^ 5 := ⟨_, rfl⟩
    have e2 : ∀ M, powF (.int r) (.int 5) M = ok (.int s) M := fun M => by
      rw [hs]
      exact pow_nat (n := 5) (by have := rb.lg; omega)
    obtain ⟨t, ht⟩ : ∃ t, t = s % 2147483647 := ⟨_, rfl⟩
    have e3 : ∀ M, fmodF (.int s) (.int 2147483647) M = ok (.int t) M := fun M => by rw [fmd (by decide), ht]
    have e4 : ∀ M, fdivF (.int t) (.int 7) M = ok (.int (t / 7)) M := fun M => fdv (by decide) (by unfold Bd; decide)
    exact wp_of (.rt (.int (t / 7))) (M' := M') (by simp [seqS, ifS, retS, raiseF, raiseS, consA, nilA, binD, callD, nameD, cD, bindE_v, thenS_v, bindE_x, thenS_x, unD, parS, asgS, tupD, int2F, eq_int, ne_int, intF0, negF, notF, nilS, brD, fnD, addE, subE, ix0, ix1, dropS, asgG, tupG, consG, nameG, nilG, lstD, andD, orD, tstD, ownS, appS, len_tup, len_lst, tup_tup, wipeE, set1, set2, typ_int, typ_tup, typ_non, typ_lst, isF, chainD, asT, truD, len_row, typ_row, h3, e1, e2, e3, e4]) ⟨rfl, t / 7, by omega, by omega, rfl⟩
  obtain ⟨L, hL⟩ : ∃ L : Int, L = (ns.length : Int) := ⟨_, rfl⟩
  have ln : ∀ M, lenF [.scr ns] M = ok (.int L) M := fun M => by rw [hL]; exact len_scr
  have key : Wp (den__law_cell [some (.scr ns), some (.loc 0), none, none, none, none] M) (fun f M1 => M1 = M' ∧ ∃ c : Int, 0 ≤ c ∧ c < 306783379 ∧ f = .rt (.int c)) := by
    unfold den__law_cell
    refine wp_nx st1 (wp_nx st2 (wp_nx st3 (wp_seq ?_)))
    by_cases hl : ns.length = 0
    · have l0 : ¬ 0 < L := by omega
      refine wp_of (.nx E) (M' := M') (by simp [seqS, ifS, retS, raiseF, raiseS, consA, nilA, binD, callD, nameD, cD, bindE_v, thenS_v, bindE_x, thenS_x, unD, parS, asgS, tupD, int2F, eq_int, ne_int, intF0, negF, notF, nilS, brD, fnD, addE, subE, ix0, ix1, dropS, asgG, tupG, consG, nameG, nilG, lstD, andD, orD, tstD, ownS, appS, len_tup, len_lst, tup_tup, wipeE, set1, set2, typ_int, typ_tup, typ_non, typ_lst, isF, chainD, asT, truD, len_row, typ_row, ln, l0, E]) (.inl ⟨E, rfl, ?_⟩)
      exact wp_nx (e' := E) (M' := M') (by simp [seqS, ifS, retS, raiseF, raiseS, consA, nilA, binD, callD, nameD, cD, bindE_v, thenS_v, bindE_x, thenS_x, unD, parS, asgS, tupD, int2F, eq_int, ne_int, intF0, negF, notF, nilS, brD, fnD, addE, subE, ix0, ix1, dropS, asgG, tupG, consG, nameG, nilG, lstD, andD, orD, tstD, ownS, appS, len_tup, len_lst, tup_tup, wipeE, set1, set2, typ_int, typ_tup, typ_non, typ_lst, isF, chainD, asT, truD, len_row, typ_row, ln, l0, E]) (last E base ba0 rfl)
    · have l0 : 0 < L := by omega
      have l1 : L ≤ 63 := by omega
      obtain ⟨z, hz⟩ := at_mod (ns := ns) (k := k0 + 1) (by omega)
      rw [← hK, ← hL] at hz
      obtain ⟨m, hm⟩ : ∃ m, m = K % L := ⟨_, rfl⟩
      obtain ⟨q, hq⟩ : ∃ q, q = K / L := ⟨_, rfl⟩
      rw [← hm] at hz
      have fm : ∀ M, fmodF (.int K) (.int L) M = ok (.int m) M := fun M => by rw [fmd l0, hm]
      have fd : ∀ M, fdivF (.int K) (.int L) M = ok (.int q) M := fun M => by rw [fdv l0 (by unfold Bd; omega), hq]
      have ix : ∀ M, ixF (.scr ns) (.int m) M = ok (.int z) M := fun M => ix_scr hz
      have p18 : ∀ M, powF (.int 10) (.int 18) M = ok (.int 1000000000000000000) M := fun M => pow_nat (n := 18) (by decide)
      have q0 : 0 ≤ q := by
        rw [hq]
        exact Int.ediv_nonneg (by omega) (by omega)
      have q1 : q ≤ 5001 := by
        rw [hq]
        exact Int.le_trans (Int.ediv_le_self _ (by omega)) k1'
      have rest : ∀ (a b : Option D), Wp (seqS (ifS (binD (gtF) (callD (lenF) (consA (nameD 0) (nilA))) (cD (.int 0))) (asgS 3 (binD addF (nameD 3) (binD mulF (binD fmodF (binD ixF (nameD 0) (binD fmodF (nameD 2) (callD (lenF) (consA (nameD 0) (nilA))))) (cD (.int 2147483629))) (binD addF (cD (.int 1)) (binD fdivF (nameD 2) (callD (lenF) (consA (nameD 0) (nilA)))))))) (nilS)) (retS (binD fdivF (binD fmodF (binD powF (binD fmodF (nameD 3) (cD (.int 2147483647))) (cD (.int 5))) (cD (.int 2147483647))) (cD (.int 7)))) [some (.scr ns), some (.loc 0), some (.int K), some (.int base), a, b] M') (fun f M1 => M1 = M' ∧ ∃ c : Int, 0 ≤ c ∧ c < 306783379 ∧ f = .rt (.int c)) := by
        intro a b
        obtain ⟨r, hr⟩ : ∃ r, r = z % 2147483629 := ⟨_, rfl⟩
        have fz : ∀ M, fmodF (.int z) (.int 2147483629) M = ok (.int r) M := fun M => by rw [fmd (by decide), hr]
        have r0 : 0 ≤ r := by omega
        have r1 : r < 2147483629 := by omega
        have mm := fun M => mB r (1 + q) M (by unfold Bd; omega) (by unfold Bd; omega)
        have rq : 0 ≤ r * (1 + q) := Int.mul_nonneg r0 (by omega)
        obtain ⟨b2, hb2⟩ : ∃ b2, b2 = base + r * (1 + q) := ⟨_, rfl⟩
        exact wp_nx (e' := [some (.scr ns), some (.loc 0), some (.int K), some (.int b2), a, b]) (M' := M') (by simp [seqS, ifS, retS, raiseF, raiseS, consA, nilA, binD, callD, nameD, cD, bindE_v, thenS_v, bindE_x, thenS_x, unD, parS, asgS, tupD, int2F, eq_int, ne_int, intF0, negF, notF, nilS, brD, fnD, addE, subE, ix0, ix1, dropS, asgG, tupG, consG, nameG, nilG, lstD, andD, orD, tstD, ownS, appS, len_tup, len_lst, tup_tup, wipeE, set1, set2, typ_int, typ_tup, typ_non, typ_lst, isF, chainD, asT, truD, len_row, typ_row, ln, l0, fm, ix, fz, fd, mm, ← hb2]) (last _ b2 (by omega) rfl)
      by_cases c2 : (1000000000000000000 : Int) ≤ z
      · by_cases c3 : q < 60
        · refine wp_if (M' := M') true (by simp [seqS, ifS, retS, raiseF, raiseS, consA, nilA, binD, callD, nameD, cD, bindE_v, thenS_v, bindE_x, thenS_x, unD, parS, asgS, tupD, int2F, eq_int, ne_int, intF0, negF, notF, nilS, brD, fnD, addE, subE, ix0, ix1, dropS, asgG, tupG, consG, nameG, nilG, lstD, andD, orD, tstD, ownS, appS, len_tup, len_lst, tup_tup, wipeE, set1, set2, typ_int, typ_tup, typ_non, typ_lst, isF, chainD, asT, truD, len_row, typ_row, ln, l0, fm, fd, ix, p18, ge_int, c2, c3, E]) (fun _ => ?_) (fun z => nomatch z)
          refine wp_nx (e' := [some (.scr ns), some (.loc 0), some (.int K), some (.int base), some (.int z), none]) (M' := M') (by simp [seqS, ifS, retS, raiseF, raiseS, consA, nilA, binD, callD, nameD, cD, bindE_v, thenS_v, bindE_x, thenS_x, unD, parS, asgS, tupD, int2F, eq_int, ne_int, intF0, negF, notF, nilS, brD, fnD, addE, subE, ix0, ix1, dropS, asgG, tupG, consG, nameG, nilG, lstD, andD, orD, tstD, ownS, appS, len_tup, len_lst, tup_tup, wipeE, set1, set2, typ_int, typ_tup, typ_non, typ_lst, isF, chainD, asT, truD, len_row, typ_row, ln, fm, ix, E]) ?_
          refine wp_for_nx ((List.range q.toNat).map fun (j : Nat) => D.int (j : Int)) (fun _ e M1 => M1 = M' ∧ ∃ own a, e = [some (.scr ns), some (.loc 0), some (.int K), some (.int base), some (.int own), a]) (it_rng (by
            rw [Int.toNat_of_nonneg q0]
            simp [seqS, ifS, retS, raiseF, raiseS, consA, nilA, binD, callD, nameD, cD, bindE_v, thenS_v, bindE_x, thenS_x, unD, parS, asgS, tupD, int2F, eq_int, ne_int, intF0, negF, notF, nilS, brD, fnD, addE, subE, ix0, ix1, dropS, asgG, tupG, consG, nameG, nilG, lstD, andD, orD, tstD, ownS, appS, len_tup, len_lst, tup_tup, wipeE, set1, set2, typ_int, typ_tup, typ_non, typ_lst, isF, chainD, asT, truD, len_row, typ_row, ln, fd]) (by omega)) (fun j d e M1 hd hi => ?_) (fun _ _ _ => trivial) ⟨rfl, z, none, rfl⟩ (fun e' M1 hi => ?_)
          · obtain ⟨rfl, own, a, rfl⟩ := hi
            have q : ∀ M, fdivF (.int own) (.int 306783379) M = ok (.int (own / 306783379)) M := fun M => fdv (by decide) (by unfold Bd; decide)
            obtain ⟨o2, ho2⟩ : ∃ o2, o2 = own / 306783379 := ⟨_, rfl⟩
            rw [← ho2] at q
            exact ⟨trivial, [some (.scr ns), some (.loc 0), some (.int K), some (.int base), some (.int own), some d], M1, rfl, wp_of (.nx [some (.scr ns), some (.loc 0), some (.int K), some (.int base), some (.int o2), some d]) (M' := M1) (by simp [seqS, ifS, retS, raiseF, raiseS, consA, nilA, binD, callD, nameD, cD, bindE_v, thenS_v, bindE_x, thenS_x, unD, parS, asgS, tupD, int2F, eq_int, ne_int, intF0, negF, notF, nilS, brD, fnD, addE, subE, ix0, ix1, dropS, asgG, tupG, consG, nameG, nilG, lstD, andD, orD, tstD, ownS, appS, len_tup, len_lst, tup_tup, wipeE, set1, set2, typ_int, typ_tup, typ_non, typ_lst, isF, chainD, asT, truD, len_row, typ_row, q]) ⟨_, .inl rfl, rfl, _, _, rfl⟩⟩
          · obtain ⟨rfl, own, a, rfl⟩ := hi
            by_cases c4 : 0 < own
            · have fo : ∀ M, fmodF (.int own) (.int 306783379) M = ok (.int (own % 306783379)) M := fun M => fmd (by decide)
              obtain ⟨o2, ho2⟩ : ∃ o2, o2 = own % 306783379 := ⟨_, rfl⟩
              rw [← ho2] at fo
              exact wp_of (.rt (.int o2)) (M' := M1) (by simp [seqS, ifS, retS, raiseF, raiseS, consA, nilA, binD, callD, nameD, cD, bindE_v, thenS_v, bindE_x, thenS_x, unD, parS, asgS, tupD, int2F, eq_int, ne_int, intF0, negF, notF, nilS, brD, fnD, addE, subE, ix0, ix1, dropS, asgG, tupG, consG, nameG, nilG, lstD, andD, orD, tstD, ownS, appS, len_tup, len_lst, tup_tup, wipeE, set1, set2, typ_int, typ_tup, typ_non, typ_lst, isF, chainD, asT, truD, len_row, typ_row, c4, fo]) (.inr ⟨(fun _ z => nomatch z), rfl, o2, by omega, by omega, rfl⟩)
            · exact wp_of (.nx [some (.scr ns), some (.loc 0), some (.int K), some (.int base), some (.int own), a]) (M' := M1) (by simp [seqS, ifS, retS, raiseF, raiseS, consA, nilA, binD, callD, nameD, cD, bindE_v, thenS_v, bindE_x, thenS_x, unD, parS, asgS, tupD, int2F, eq_int, ne_int, intF0, negF, notF, nilS, brD, fnD, addE, subE, ix0, ix1, dropS, asgG, tupG, consG, nameG, nilG, lstD, andD, orD, tstD, ownS, appS, len_tup, len_lst, tup_tup, wipeE, set1, set2, typ_int, typ_tup, typ_non, typ_lst, isF, chainD, asT, truD, len_row, typ_row, c4]) (.inl ⟨_, rfl, rest _ _⟩)
        · exact wp_of (.nx E) (M' := M') (by simp [seqS, ifS, retS, raiseF, raiseS, consA, nilA, binD, callD, nameD, cD, bindE_v, thenS_v, bindE_x, thenS_x, unD, parS, asgS, tupD, int2F, eq_int, ne_int, intF0, negF, notF, nilS, brD, fnD, addE, subE, ix0, ix1, dropS, asgG, tupG, consG, nameG, nilG, lstD, andD, orD, tstD, ownS, appS, len_tup, len_lst, tup_tup, wipeE, set1, set2, typ_int, typ_tup, typ_non, typ_lst, isF, chainD, asT, truD, len_row, typ_row, ln, l0, fm, fd, ix, p18, ge_int, c2, c3, E]) (.inl ⟨E, rfl, rest _ _⟩)
      · exact wp_of (.nx E) (M' := M') (by simp [seqS, ifS, retS, raiseF, raiseS, consA, nilA, binD, callD, nameD, cD, bindE_v, thenS_v, bindE_x, thenS_x, unD, parS, asgS, tupD, int2F, eq_int, ne_int, intF0, negF, notF, nilS, brD, fnD, addE, subE, ix0, ix1, dropS, asgG, tupG, consG, nameG, nilG, lstD, andD, orD, tstD, ownS, appS, len_tup, len_lst, tup_tup, wipeE, set1, set2, typ_int, typ_tup, typ_non, typ_lst, isF, chainD, asT, truD, len_row, typ_row, ln, l0, fm, fd, ix, p18, ge_int, c2, E]) (.inl ⟨E, rfl, rest _ _⟩)
  obtain ⟨f, M1, h1, rfl, c, c0, c1, rfl⟩ := key
  refine ⟨c, c0, c1, fv_rt2 (e0 := [some (.scr ns), some (.loc 0), none, none, none, none]) [] rfl (by rw [h1, List.append_nil]) (by rw [hM', List.length_set]) ?_ rfl⟩
  rw [hM']
  exact set_ok rfl
end K63
namespace K63
open PySem L2 DL
theorem wl_true {dt : DenE} {body : DenS} {f : Nat} {e e' : DL.Env} {M M1 M' : Store} (h1 : dt e M = ok (.bl true) M1) (h2 : body e M1 = some (.nx e', M')) : whileS dt body (f + 1) e M = whileS dt body f e' M' := by
  rw [whileS, h1]
  simp only [ok, h2]
theorem wl_false {dt : DenE} {body : DenS} {f : Nat} {e : DL.Env} {M M1 : Store} (h1 : dt e M = ok (.bl false) M1) : whileS dt body (f + 1) e M = some (.nx e, M1) := by
  rw [whileS, h1]
  simp only [ok]
theorem euclid : ∀ (f n m : Nat) (a b : D) (M : Store), m < f →
    whileS (binD (neF) (nameD 3) (cD (.int 0))) (parS 2 3 (nameD 3) (binD fmodF (nameD 2) (nameD 3))) f [some a, some b, some (.int (n : Int)), some (.int (m : Int)), none] M = some (.nx [some a, some b, some (.int ((Nat.gcd n m : Nat) : Int)), some (.int 0), none], M) := by
  intro f
  induction f with
  | zero => intro n m a b M h; omega
  | succ f ih =>
    intro n m a b M h
    by_cases h0 : m = 0
    · subst h0
      rw [wl_false (M1 := M) (by simp [seqS, ifS, retS, raiseF, raiseS, consA, nilA, binD, callD, nameD, cD, bindE_v, thenS_v, bindE_x, thenS_x, unD, parS, asgS, tupD, int2F, eq_int, ne_int, intF0, negF, notF, nilS, brD, fnD, addE, subE, ix0, ix1, dropS, asgG, tupG, consG, nameG, nilG, lstD, andD, orD, tstD, ownS, appS, len_tup, len_lst, tup_tup, wipeE, set1, set2, typ_int, typ_tup, typ_non, typ_lst, isF, chainD, asT, truD, len_row, typ_row])]
      simp
    · have lt : n % m < f := Nat.lt_of_lt_of_le (Nat.mod_lt _ (Nat.pos_of_ne_zero h0)) (by omega)
      have := ih m (n % m) a b M lt
      have g : Nat.gcd m (n % m) = Nat.gcd n m := by rw [Nat.gcd_comm n m, Nat.gcd_rec m n, Nat.gcd_comm]
      rw [g] at this
      obtain ⟨A, hA⟩ : ∃ A : Int, A = (n : Int) := ⟨_, rfl⟩
      obtain ⟨B, hB⟩ : ∃ A : Int, A = (m : Int) := ⟨_, rfl⟩
      obtain ⟨C, hC⟩ : ∃ A : Int, A = ((n % m : Nat) : Int) := ⟨_, rfl⟩
      have hm : B ≠ 0 := by omega
      have q : ∀ M, fmodF (.int A) (.int B) M = ok (.int C) M := fun M => by
        rw [fmd (by omega), hA, hB, hC, Int.natCast_emod]
      rw [← hA, ← hB]
      rw [← hB, ← hC] at this
      rw [wl_true (M1 := M) (M' := M) (e' := [some a, some b, some (.int B), some (.int C), none]) (by simp [seqS, ifS, retS, raiseF, raiseS, consA, nilA, binD, callD, nameD, cD, bindE_v, thenS_v, bindE_x, thenS_x, unD, parS, asgS, tupD, int2F, eq_int, ne_int, intF0, negF, notF, nilS, brD, fnD, addE, subE, ix0, ix1, dropS, asgG, tupG, consG, nameG, nilG, lstD, andD, orD, tstD, ownS, appS, len_tup, len_lst, tup_tup, wipeE, set1, set2, typ_int, typ_tup, typ_non, typ_lst, isF, chainD, asT, truD, len_row, typ_row, hm]) (by simp [seqS, ifS, retS, raiseF, raiseS, consA, nilA, binD, callD, nameD, cD, bindE_v, thenS_v, bindE_x, thenS_x, unD, parS, asgS, tupD, int2F, eq_int, ne_int, intF0, negF, notF, nilS, brD, fnD, addE, subE, ix0, ix1, dropS, asgG, tupG, consG, nameG, nilG, lstD, andD, orD, tstD, ownS, appS, len_tup, len_lst, tup_tup, wipeE, set1, set2, typ_int, typ_tup, typ_non, typ_lst, isF, chainD, asT, truD, len_row, typ_row, q])]
      exact this
/-- lowest terms -/
theorem low_ok {a b : Int} {k : Nat} (hb : 0 < b) (h : Bd k b) (hk : k < 9000) (M : Store) : m__law_low [.int a, .int b] M = ok (qD (Rat.divInt a b)) M := by
  obtain ⟨e1, e2⟩ := divInt_pos (a := a) hb
  have g0 : 0 < Nat.gcd a.natAbs b.natAbs := Nat.gcd_pos_of_pos_right _ (by omega)
  have gl : Nat.gcd a.natAbs b.natAbs ≤ b.natAbs := Nat.gcd_le_right _ (by omega)
  have da : ((Nat.gcd a.natAbs b.natAbs : Nat) : Int) ∣ a := Int.natAbs_dvd_natAbs.mp (by simpa using Nat.gcd_dvd_left _ _)
  have db : ((Nat.gcd a.natAbs b.natAbs : Nat) : Int) ∣ b := Int.natAbs_dvd_natAbs.mp (by simpa using Nat.gcd_dvd_right _ _)
  have gb : Bd k ((Nat.gcd a.natAbs b.natAbs : Nat) : Int) := Nat.lt_of_le_of_lt gl h
  have eu := fun (a' b' : D) M => euclid (b.natAbs + 1) a.natAbs b.natAbs a' b' M (by omega)
  obtain ⟨G, hG⟩ : ∃ G : Int, G = ((Nat.gcd a.natAbs b.natAbs : Nat) : Int) := ⟨_, rfl⟩
  obtain ⟨A, hA⟩ : ∃ A : Int, A = (a.natAbs : Int) := ⟨_, rfl⟩
  obtain ⟨B, hB⟩ : ∃ A : Int, A = (b.natAbs : Int) := ⟨_, rfl⟩
  have hBb : B.natAbs = b.natAbs := by omega
  have eu' : ∀ M, wlS (fuelN 3) (binD (neF) (nameD 3) (cD (.int 0))) (parS 2 3 (nameD 3) (binD fmodF (nameD 2) (nameD 3))) [some (.int a), some (.int b), some (.int A), some (.int B), none] M = some (.nx [some (.int a), some (.int b), some (.int G), some (.int 0), none], M) := fun M => by
    have hf : fuelN 3 [some (.int a), some (.int b), some (.int A), some (.int B), none] M = b.natAbs + 1 := by
      show B.natAbs + 1 = _
      rw [hBb]
    unfold wlS
    rw [hf, hA, hB, hG]
    exact eu _ _ M
  show m__law_low [.int a, .int b] M = ok (.tup [.int (Rat.divInt a b).num, .int ((Rat.divInt a b).den : Int)]) M
  rw [← hG] at e1 e2 da db gb
  rw [e1, e2]
  have G0 : G ≠ 0 := by omega
  have xa : ∀ M, absF [.int a] M = ok (.int A) M := fun M => abs_is hA
  have xb : ∀ M, absF [.int b] M = ok (.int B) M := fun M => abs_is hB
  have fa : ∀ M, fdivF (.int a) (.int G) M = ok (.int (a / G)) M := fun M => fdivE gb G0 da hk
  have fb : ∀ M, fdivF (.int b) (.int G) M = ok (.int (b / G)) M := fun M => fdivE gb G0 db hk
  obtain ⟨p, hp⟩ : ∃ p, p = a / G := ⟨_, rfl⟩
  obtain ⟨q, hq⟩ : ∃ q, q = b / G := ⟨_, rfl⟩
  rw [← hp] at fa ⊢
  rw [← hq] at fb ⊢
  refine fv_rt0 (e0 := [some (.int a), some (.int b), none, none, none]) rfl ?_ rfl
  unfold den__law_low
  rw [seq_nx (e' := [some (.int a), some (.int b), some (.int A), some (.int B), none]) (M' := M) (by simp [seqS, ifS, retS, raiseF, raiseS, consA, nilA, binD, callD, nameD, cD, bindE_v, thenS_v, bindE_x, thenS_x, unD, parS, asgS, tupD, int2F, eq_int, ne_int, intF0, negF, notF, nilS, brD, fnD, addE, subE, ix0, ix1, dropS, asgG, tupG, consG, nameG, nilG, lstD, andD, orD, tstD, ownS, appS, len_tup, len_lst, tup_tup, wipeE, set1, set2, typ_int, typ_tup, typ_non, typ_lst, isF, chainD, asT, truD, len_row, typ_row, xa, xb]), seq_nx (eu' M)]
  rw [seq_nx (e' := [some (.int a), some (.int b), some (.int G), some (.int 0), some (.int G)]) (M' := M) (by simp [seqS, ifS, retS, raiseF, raiseS, consA, nilA, binD, callD, nameD, cD, bindE_v, thenS_v, bindE_x, thenS_x, unD, parS, asgS, tupD, int2F, eq_int, ne_int, intF0, negF, notF, nilS, brD, fnD, addE, subE, ix0, ix1, dropS, asgG, tupG, consG, nameG, nilG, lstD, andD, orD, tstD, ownS, appS, len_tup, len_lst, tup_tup, wipeE, set1, set2, typ_int, typ_tup, typ_non, typ_lst, isF, chainD, asT, truD, len_row, typ_row, hb])]
  simp [seqS, ifS, retS, raiseF, raiseS, consA, nilA, binD, callD, nameD, cD, bindE_v, thenS_v, bindE_x, thenS_x, unD, parS, asgS, tupD, int2F, eq_int, ne_int, intF0, negF, notF, nilS, brD, fnD, addE, subE, ix0, ix1, dropS, asgG, tupG, consG, nameG, nilG, lstD, andD, orD, tstD, ownS, appS, len_tup, len_lst, tup_tup, wipeE, set1, set2, typ_int, typ_tup, typ_non, typ_lst, isF, chainD, asT, truD, len_row, typ_row, fa, fb]
theorem qD_ix0 {r : Rat} {M : Store} : ixF (qD r) (.int 0) M = ok (.int r.num) M := ix0 _ _ _
theorem qD_ix1 {r : Rat} {M : Store} : ixF (qD r) (.int 1) M = ok (.int (r.den : Int)) M := ix1 _ _ _ _
end K63
namespace K63
open PySem L2 DL
structure VE (S : Int) (r : Rat) : Prop where
  d : r.den ∣ 420
  b : Bd 100 r.num
  z : S = 2 ∨ r ≠ 0
abbrev envN (s0 s1 s2 s4 s5 s7 a8 a9 a10 : Option D) (S : Int) (Rw : Nat) : DL.Env := [s0, s1, s2, some (.int S), s4, s5, some (.loc Rw), s7, a8, a9, a10]
theorem VE.int {S v : Int} (h : v.natAbs < 2 ^ 100) (z : S = 2 ∨ v ≠ 0) : VE S (v : Rat) := ⟨Nat.one_dvd _, h, by
  rcases z with z | z
  · exact .inl z
  · exact .inr fun q => z (by exact_mod_cast q)⟩
theorem ten30 {M : Store} : powF (.int 10) (.int 30) M = ok (.int 1000000000000000000000000000000) M := pow_nat (n := 30) (by decide)
theorem small_dvd : ∀ d : Nat, d < 8 → 0 < d → d ∣ 420 := by decide
theorem low_ve {S a b : Int} (ha : 0 < a) (ha2 : a < 20) (hb : 0 < b) (hb2 : b < 8) : VE S (Rat.divInt a b) := by
  obtain ⟨e1, e2⟩ := divInt_pos (a := a) hb
  have dp := (Rat.divInt a b).den_pos
  refine ⟨small_dvd _ ?_ dp, ?_, .inr fun z => ?_⟩
  · have := Int.ediv_le_self ((Nat.gcd a.natAbs b.natAbs : Nat) : Int) (Int.le_of_lt hb)
    have h2 : b / ((Nat.gcd a.natAbs b.natAbs : Nat) : Int) ≤ b := Int.ediv_le_self _ (Int.le_of_lt hb)
    omega
  · rw [e1]
    exact bd_div (show Bd 100 a by unfold Bd; exact Nat.lt_of_lt_of_le (show a.natAbs < 20 by omega) (by decide))
  · have : (Rat.divInt a b).num = 0 := by rw [z]; rfl
    rw [e1] at this
    have da : ((Nat.gcd a.natAbs b.natAbs : Nat) : Int) ∣ a := Int.natAbs_dvd_natAbs.mp (by simpa using Nat.gcd_dvd_left _ _)
    have := Int.ediv_mul_cancel da
    rw [‹a / _ = 0›, Int.zero_mul] at this
    omega
section
variable {M : Store} {S : Int} {Rw : Nat} {row : List D} {s0 s1 s2 s4 s5 s7 a9 a10 : Option D} {n : Int}
noncomputable abbrev B1 : DenS := seqS (asgS 9 (lstD (consA (tupD (consA (binD addF (cD (.int 1)) (binD fmodF (nameD 8) (cD (.int 2)))) (consA (cD (.int 1)) (nilA)))) (consA (fnD m__law_low 2 [] (consA (binD addF (cD (.int 1)) (binD fmodF (nameD 8) (cD (.int 7)))) (consA (binD addF (cD (.int 1)) (binD fmodF (binD fdivF (nameD 8) (cD (.int 7))) (cD (.int 5)))) (nilA)))) (consA (tupD (consA (binD subF (binD fmodF (nameD 8) (cD (.int 4))) (cD (.int 1))) (consA (cD (.int 1)) (nilA)))) (consA (tupD (consA (binD addF (nameD 8) (binD powF (cD (.int 10)) (cD (.int 30)))) (consA (cD (.int 1)) (nilA)))) (consA (tupD (consA (cD (.int 1)) (consA (cD (.int 1)) (nilA)))) (nilA)))))))) (seqS (asgS 10 (brD (binD (eqF) (binD fmodF (binD fdivF (nameD 8) (cD (.int 35))) (cD (.int 2))) (cD (.int 0))) (binD ixF (nameD 9) (nameD 3)) (tupD (consA (binD subF (cD (.int 0)) (binD ixF (binD ixF (nameD 9) (nameD 3)) (cD (.int 0)))) (consA (binD ixF (binD ixF (nameD 9) (nameD 3)) (cD (.int 1))) (nilA)))))) (appS (nameD 6) (brD (binD (gtF) (nameD 3) (cD (.int 2))) (binD ixF (nameD 9) (nameD 3)) (nameD 10))))
theorem entry_turn (hS0 : 0 ≤ S) (hS : S < 5) (n0 : 0 ≤ n) (n1 : n < 306783379) (hR : M[Rw]? = some (.lst row)) (hl : row.length < 100) :
    ∃ r a b, VE S r ∧ B1 (envN s0 s1 s2 s4 s5 s7 (some (.int n)) a9 a10 S Rw) M = some (.nx (envN s0 s1 s2 s4 s5 s7 (some (.int n)) a b S Rw), M.set Rw (.lst (row ++ [qD r]))) := by
  obtain ⟨x0, hx0⟩ : ∃ a, a = 1 + n % 2 := ⟨_, rfl⟩
  obtain ⟨a, ha⟩ : ∃ a, a = 1 + n % 7 := ⟨_, rfl⟩
  obtain ⟨b, hb⟩ : ∃ b, b = 1 + n / 7 % 5 := ⟨_, rfl⟩
  obtain ⟨x2, hx2⟩ : ∃ a, a = n % 4 - 1 := ⟨_, rfl⟩
  obtain ⟨x3, hx3⟩ : ∃ a, a = n + 1000000000000000000000000000000 := ⟨_, rfl⟩
  obtain ⟨h, hh⟩ : ∃ a, a = n / 35 % 2 := ⟨_, rfl⟩
  have e1 : ∀ M, fmodF (.int n) (.int 2) M = ok (.int (n % 2)) M := fun M => fmd (by decide)
  have e2 : ∀ M, fmodF (.int n) (.int 7) M = ok (.int (n % 7)) M := fun M => fmd (by decide)
  have e3 : ∀ M, fdivF (.int n) (.int 7) M = ok (.int (n / 7)) M := fun M => fdv (by decide) (by unfold Bd; decide)
  have e4 : ∀ M, fmodF (.int (n / 7)) (.int 5) M = ok (.int (n / 7 % 5)) M := fun M => fmd (by decide)
  have e5 : ∀ M, fmodF (.int n) (.int 4) M = ok (.int (n % 4)) M := fun M => fmd (by decide)
  have e6 : ∀ M, fdivF (.int n) (.int 35) M = ok (.int (n / 35)) M := fun M => fdv (by decide) (by unfold Bd; decide)
  have e7 : ∀ M, fmodF (.int (n / 35)) (.int 2) M = ok (.int h) M := fun M => by rw [hh]; exact fmd (by decide)
  have e8 : ∀ M, powF (.int 10) (.int 30) M = ok (.int 1000000000000000000000000000000) M := fun M => ten30
  have lo := low_ok (a := a) (b := b) (k := 10) (by omega) (by unfold Bd; omega) (by decide)
  obtain ⟨q, hq⟩ : ∃ q, q = Rat.divInt a b := ⟨_, rfl⟩
  rw [← hq] at lo
  obtain ⟨P, hP⟩ : ∃ P, P = qD q := ⟨_, rfl⟩
  rw [← hP] at lo
  let L : D := .lst [.tup [.int x0, .int 1], P, .tup [.int x2, .int 1], .tup [.int x3, .int 1], .tup [.int 1, .int 1]]
  have key : ∃ r, VE S r ∧ ∀ M, ixF L (.int S) M = ok (qD r) M := by
    have c : S = 0 ∨ S = 1 ∨ S = 2 ∨ S = 3 ∨ S = 4 := by omega
    rcases c with z | z | z | z | z
    · exact ⟨(x0 : Rat), .int (Nat.lt_of_lt_of_le (show x0.natAbs < 3 by omega) (by decide)) (.inr (by omega)), fun M => by rw [z]; exact ix_lst rfl⟩
    · refine ⟨q, ?_, fun M => by rw [z, ← hP]; exact ix_lst rfl⟩
      rw [hq]
      exact low_ve (by omega) (by omega) (by omega) (by omega)
    · exact ⟨(x2 : Rat), .int (Nat.lt_of_lt_of_le (show x2.natAbs < 4 by omega) (by decide)) (.inl z), fun M => by rw [z]; exact ix_lst rfl⟩
    · exact ⟨(x3 : Rat), .int (Nat.lt_of_lt_of_le (show x3.natAbs < 1000000000000000000000306783380 by omega) (by decide)) (.inr (by omega)), fun M => by rw [z]; exact ix_lst rfl⟩
    · exact ⟨((1 : Int) : Rat), .int (by decide) (.inr (by decide)), fun M => by rw [z]; exact ix_lst rfl⟩
  obtain ⟨r, hr1, hr2⟩ := key
  obtain ⟨V, hV⟩ : ∃ V, V = qD r := ⟨_, rfl⟩
  have v0 : ∀ M, ixF V (.int 0) M = ok (.int r.num) M := fun M => by rw [hV]; exact qD_ix0
  have v1 : ∀ M, ixF V (.int 1) M = ok (.int (r.den : Int)) M := fun M => by rw [hV]; exact qD_ix1
  rw [← hV] at hr2
  have st1 : asgS 9 (lstD (consA (tupD (consA (binD addF (cD (.int 1)) (binD fmodF (nameD 8) (cD (.int 2)))) (consA (cD (.int 1)) (nilA)))) (consA (fnD m__law_low 2 [] (consA (binD addF (cD (.int 1)) (binD fmodF (nameD 8) (cD (.int 7)))) (consA (binD addF (cD (.int 1)) (binD fmodF (binD fdivF (nameD 8) (cD (.int 7))) (cD (.int 5)))) (nilA)))) (consA (tupD (consA (binD subF (binD fmodF (nameD 8) (cD (.int 4))) (cD (.int 1))) (consA (cD (.int 1)) (nilA)))) (consA (tupD (consA (binD addF (nameD 8) (binD powF (cD (.int 10)) (cD (.int 30)))) (consA (cD (.int 1)) (nilA)))) (consA (tupD (consA (cD (.int 1)) (consA (cD (.int 1)) (nilA)))) (nilA))))))) (envN s0 s1 s2 s4 s5 s7 (some (.int n)) a9 a10 S Rw) M = some (.nx (envN s0 s1 s2 s4 s5 s7 (some (.int n)) (some L) a10 S Rw), M) := by
    simp [seqS, ifS, retS, raiseF, raiseS, consA, nilA, binD, callD, nameD, cD, bindE_v, thenS_v, bindE_x, thenS_x, unD, parS, asgS, tupD, int2F, eq_int, ne_int, intF0, negF, notF, nilS, brD, fnD, addE, subE, ix0, ix1, dropS, asgG, tupG, consG, nameG, nilG, lstD, andD, orD, tstD, ownS, appS, len_tup, len_lst, tup_tup, wipeE, set1, set2, typ_int, typ_tup, typ_non, typ_lst, isF, chainD, asT, truD, len_row, typ_row, e1, e2, e3, e4, e5, e8, ← hx0, ← ha, ← hb, ← hx2, ← hx3, lo, L]
  obtain ⟨l, hL⟩ : ∃ l, l = L := ⟨_, rfl⟩
  rw [← hL] at hr2 st1
  clear_value L
  have hhc : h = 0 ∨ h = 1 := by omega
  by_cases h2 : 2 < S
  · refine ⟨r, some l, some (if h = 0 then V else .tup [.int (0 - r.num), .int (r.den : Int)]), hr1, ?_⟩
    rw [← hV]
    show seqS _ _ _ _ = _
    rw [seq_nx st1]
    generalize r.num = rn at *
    generalize (r.den : Int) = rd at *
    rw [seq_nx (e' := envN s0 s1 s2 s4 s5 s7 (some (.int n)) (some l) (some (if h = 0 then V else .tup [.int (0 - rn), .int rd])) S Rw) (M' := M) (by
      rcases hhc with c | c
      · subst c
        simp [seqS, ifS, retS, raiseF, raiseS, consA, nilA, binD, callD, nameD, cD, bindE_v, thenS_v, bindE_x, thenS_x, unD, parS, asgS, tupD, int2F, eq_int, ne_int, intF0, negF, notF, nilS, brD, fnD, addE, subE, ix0, ix1, dropS, asgG, tupG, consG, nameG, nilG, lstD, andD, orD, tstD, ownS, appS, len_tup, len_lst, tup_tup, wipeE, set1, set2, typ_int, typ_tup, typ_non, typ_lst, isF, chainD, asT, truD, len_row, typ_row, e6, e7, hr2]
      · subst c
        simp [seqS, ifS, retS, raiseF, raiseS, consA, nilA, binD, callD, nameD, cD, bindE_v, thenS_v, bindE_x, thenS_x, unD, parS, asgS, tupD, int2F, eq_int, ne_int, intF0, negF, notF, nilS, brD, fnD, addE, subE, ix0, ix1, dropS, asgG, tupG, consG, nameG, nilG, lstD, andD, orD, tstD, ownS, appS, len_tup, len_lst, tup_tup, wipeE, set1, set2, typ_int, typ_tup, typ_non, typ_lst, isF, chainD, asT, truD, len_row, typ_row, e6, e7, hr2, v0, v1])]
    exact app_ok (n := Rw) rfl (by simp [seqS, ifS, retS, raiseF, raiseS, consA, nilA, binD, callD, nameD, cD, bindE_v, thenS_v, bindE_x, thenS_x, unD, parS, asgS, tupD, int2F, eq_int, ne_int, intF0, negF, notF, nilS, brD, fnD, addE, subE, ix0, ix1, dropS, asgG, tupG, consG, nameG, nilG, lstD, andD, orD, tstD, ownS, appS, len_tup, len_lst, tup_tup, wipeE, set1, set2, typ_int, typ_tup, typ_non, typ_lst, isF, chainD, asT, truD, len_row, typ_row, gt_int, h2, hr2]) hR (by omega)
  · rcases hhc with c | c
    · refine ⟨r, some l, some V, hr1, ?_⟩
      rw [← hV]
      show seqS _ _ _ _ = _
      rw [seq_nx st1]
      subst c
      rw [seq_nx (e' := envN s0 s1 s2 s4 s5 s7 (some (.int n)) (some l) (some V) S Rw) (M' := M) (by simp [seqS, ifS, retS, raiseF, raiseS, consA, nilA, binD, callD, nameD, cD, bindE_v, thenS_v, bindE_x, thenS_x, unD, parS, asgS, tupD, int2F, eq_int, ne_int, intF0, negF, notF, nilS, brD, fnD, addE, subE, ix0, ix1, dropS, asgG, tupG, consG, nameG, nilG, lstD, andD, orD, tstD, ownS, appS, len_tup, len_lst, tup_tup, wipeE, set1, set2, typ_int, typ_tup, typ_non, typ_lst, isF, chainD, asT, truD, len_row, typ_row, e6, e7, hr2])]
      exact app_ok (n := Rw) rfl (by simp [seqS, ifS, retS, raiseF, raiseS, consA, nilA, binD, callD, nameD, cD, bindE_v, thenS_v, bindE_x, thenS_x, unD, parS, asgS, tupD, int2F, eq_int, ne_int, intF0, negF, notF, nilS, brD, fnD, addE, subE, ix0, ix1, dropS, asgG, tupG, consG, nameG, nilG, lstD, andD, orD, tstD, ownS, appS, len_tup, len_lst, tup_tup, wipeE, set1, set2, typ_int, typ_tup, typ_non, typ_lst, isF, chainD, asT, truD, len_row, typ_row, gt_int, h2]) hR (by omega)
    · have q1 : (-r).num = - r.num := rfl
      have q2 : (-r).den = r.den := rfl
      refine ⟨-r, some l, some (qD (-r)), ⟨hr1.d, ?_, ?_⟩, ?_⟩
      · have := hr1.b
        unfold Bd at *
        rw [q1]
        omega
      · rcases hr1.z with z | z
        · exact .inl z
        · exact .inr fun w => z (by grind)
      · have hN : qD (-r) = .tup [.int (0 - r.num), .int (r.den : Int)] := by
          show D.tup [.int (-r).num, .int ((-r).den : Int)] = _
          rw [q1, q2, Int.zero_sub]
        rw [hN]
        show seqS _ _ _ _ = _
        rw [seq_nx st1]
        subst c
        generalize r.num = rn at *
        generalize (r.den : Int) = rd at *
        rw [seq_nx (e' := envN s0 s1 s2 s4 s5 s7 (some (.int n)) (some l) (some (.tup [.int (0 - rn), .int rd])) S Rw) (M' := M) (by simp [seqS, ifS, retS, raiseF, raiseS, consA, nilA, binD, callD, nameD, cD, bindE_v, thenS_v, bindE_x, thenS_x, unD, parS, asgS, tupD, int2F, eq_int, ne_int, intF0, negF, notF, nilS, brD, fnD, addE, subE, ix0, ix1, dropS, asgG, tupG, consG, nameG, nilG, lstD, andD, orD, tstD, ownS, appS, len_tup, len_lst, tup_tup, wipeE, set1, set2, typ_int, typ_tup, typ_non, typ_lst, isF, chainD, asT, truD, len_row, typ_row, e6, e7, hr2, v0, v1])]
        exact app_ok (n := Rw) rfl (by simp [seqS, ifS, retS, raiseF, raiseS, consA, nilA, binD, callD, nameD, cD, bindE_v, thenS_v, bindE_x, thenS_x, unD, parS, asgS, tupD, int2F, eq_int, ne_int, intF0, negF, notF, nilS, brD, fnD, addE, subE, ix0, ix1, dropS, asgG, tupG, consG, nameG, nilG, lstD, andD, orD, tstD, ownS, appS, len_tup, len_lst, tup_tup, wipeE, set1, set2, typ_int, typ_tup, typ_non, typ_lst, isF, chainD, asT, truD, len_row, typ_row, gt_int, h2]) hR (by omega)
end
end K63
namespace K63
open PySem L2 DL
theorem nl_grid {n : Nat} {A : Mx} : nlD 0 (gridD n A) = true := nl_row fun _ _ => nl_row fun _ _ => rfl
theorem entries_ok {ns : List Int} {k0 s : Nat} {S : Int} {M : Store} (hM : M[0]? = some (.lst [.int (k0 : Int)])) (hk : k0 + s * s ≤ 5000) (hn : ns.length ≤ 63) (hs : s ≤ 11) (hS0 : 0 ≤ S) (hS : S < 5) :
    ∃ A : Mx, (∀ i j, i < s → j < s → VE S (A i j)) ∧ m__law_entries [.scr ns, .loc 0, .int (s : Int), .int S] M = ok (gridD s A) (M.set 0 (.lst [.int ((k0 + s * s : Nat) : Int)])) := by
  obtain ⟨Sz, hSz⟩ : ∃ x : Int, x = (s : Int) := ⟨_, rfl⟩
  have lt0 : 0 < M.length := get_lt hM
  let B : Nat → Store := fun y => M.set 0 (.lst [.int ((k0 + y : Nat) : Int)])
  have lB : ∀ y, (B y).length = M.length := fun y => List.length_set
  have B0 : B 0 = M := set_self hM
  have gB : ∀ y, (B y)[0]? = some (.lst [.int ((k0 + y : Nat) : Int)]) := fun y => List.getElem?_set_self lt0
  have sB : ∀ y z (X : Store), (B y ++ X).set 0 (.lst [.int ((k0 + z : Nat) : Int)]) = B z ++ X := fun y z X => by
    rw [List.set_append_left _ _ (by rw [lB]; exact lt0)]
    show (M.set 0 _).set 0 _ ++ X = _
    rw [List.set_set]
  rw [← hSz]
  have key : Wp (den__law_entries [some (.scr ns), some (.loc 0), some (.int Sz), some (.int S), none, none, none, none, none, none, none] M) (fun f M1 => ∃ A : Mx, (∀ i j, i < s → j < s → VE S (A i j)) ∧ f = .rt (gridD s A) ∧ ∃ X, M1 = B (s * s) ++ X) := by
    unfold den__law_entries
    refine wp_nx (e' := [some (.scr ns), some (.loc 0), some (.int Sz), some (.int S), some (.loc M.length), none, none, none, none, none, none]) (M' := M ++ [.lst []]) (by simp [seqS, ifS, retS, raiseF, raiseS, consA, nilA, binD, callD, nameD, cD, bindE_v, thenS_v, bindE_x, thenS_x, unD, parS, asgS, tupD, int2F, eq_int, ne_int, intF0, negF, notF, nilS, brD, fnD, addE, subE, ix0, ix1, dropS, asgG, tupG, consG, nameG, nilG, lstD, andD, orD, tstD, ownS, appS, len_tup, len_lst, tup_tup, wipeE, set1, set2, typ_int, typ_tup, typ_non, typ_lst, isF, chainD, asT, truD, len_row, typ_row]) ?_
    refine wp_for_nx ((List.range s).map fun (y : Nat) => D.int (y : Int)) (fun y e M' => ∃ (A : Mx) (X : Store) (a5 a6 a7 a8 a9 a10 : Option D), (∀ i j, i < y → j < s → VE S (A i j)) ∧ M' = B (y * s) ++ .lst ((List.range y).map fun i => rowD s fun j => qD (A i j)) :: X ∧ e = [some (.scr ns), some (.loc 0), some (.int Sz), some (.int S), some (.loc M.length), a5, a6, a7, a8, a9, a10])
      (it_rng (by rw [← hSz]; rfl) (by omega)) (fun y d e M' hd hi => ?_) (fun _ _ _ => trivial) ⟨fun _ _ => 1, [], _, _, _, _, _, _, (fun _ _ z => absurd z (Nat.not_lt_zero _)), by rw [Nat.zero_mul, B0]; rfl, rfl⟩ (fun e' M' hi => ?_)
    · obtain ⟨A, X, a5, a6, a7, a8, a9, a10, hs', rfl, rfl⟩ := hi
      obtain ⟨hy, rfl⟩ := map_getR hd
      obtain ⟨Y, hY⟩ : ∃ x : Int, x = (y : Int) := ⟨_, rfl⟩
      rw [← hY]
      obtain ⟨rows, hrows⟩ : ∃ r, r = (List.range y).map fun i => rowD s fun j => qD (A i j) := ⟨_, rfl⟩
      rw [← hrows]
      obtain ⟨L1, hL1⟩ : ∃ L1, L1 = M.length + (X.length + 1) := ⟨_, rfl⟩
      have lM : ∀ z, (B z ++ Ob.lst rows :: X).length = L1 := fun z => by rw [List.length_append, lB, List.length_cons, hL1]
      have yw : y * s + s ≤ s * s := by
        rw [← Nat.succ_mul]
        exact Nat.mul_le_mul_right _ hy
      refine ⟨trivial, [some (.scr ns), some (.loc 0), some (.int Sz), some (.int S), some (.loc M.length), some (.int Y), a6, a7, a8, a9, a10], _, rfl, ?_⟩
      refine wp_nx (e' := [some (.scr ns), some (.loc 0), some (.int Sz), some (.int S), some (.loc M.length), some (.int Y), some (.loc L1), a7, a8, a9, a10]) (M' := (B (y * s) ++ Ob.lst rows :: X) ++ [.lst []]) (by
        obtain ⟨M2, hM2⟩ : ∃ M2, M2 = B (y * s) ++ Ob.lst rows :: X := ⟨_, rfl⟩
        rw [← hM2, ← lM (y * s), ← hM2]
        simp [seqS, ifS, retS, raiseF, raiseS, consA, nilA, binD, callD, nameD, cD, bindE_v, thenS_v, bindE_x, thenS_x, unD, parS, asgS, tupD, int2F, eq_int, ne_int, intF0, negF, notF, nilS, brD, fnD, addE, subE, ix0, ix1, dropS, asgG, tupG, consG, nameG, nilG, lstD, andD, orD, tstD, ownS, appS, len_tup, len_lst, tup_tup, wipeE, set1, set2, typ_int, typ_tup, typ_non, typ_lst, isF, chainD, asT, truD, len_row, typ_row]) ?_
      refine wp_for_nx ((List.range s).map fun (x : Nat) => D.int (x : Int)) (fun x e M' => ∃ (R : Nat → Rat) (a7 a8 a9 a10 : Option D), (∀ i, i < x → VE S (R i)) ∧ M' = (B (y * s + x) ++ Ob.lst rows :: X) ++ [.lst ((List.range x).map fun i => qD (R i))] ∧ e = [some (.scr ns), some (.loc 0), some (.int Sz), some (.int S), some (.loc M.length), some (.int Y), some (.loc L1), a7, a8, a9, a10])
        (it_rng (by rw [← hSz]; rfl) (by omega)) (fun x d e M' hd hi => ?_) (fun _ _ _ => trivial) ⟨fun _ => 1, _, _, _, _, (fun _ z => absurd z (Nat.not_lt_zero _)), rfl, rfl⟩ (fun e' M' hi => ?_)
      · obtain ⟨R, a7, a8, a9, a10, hr, rfl, rfl⟩ := hi
        obtain ⟨hx, rfl⟩ := map_getR hd
        obtain ⟨X', hX⟩ : ∃ x' : Int, x' = (x : Int) := ⟨_, rfl⟩
        rw [← hX]
        obtain ⟨c, c0, c1, hc⟩ := cell_ok (ns := ns) (M := (B (y * s + x) ++ Ob.lst rows :: X) ++ [.lst ((List.range x).map fun i => qD (R i))]) (k0 := k0 + (y * s + x)) (by
          rw [List.append_assoc, List.getElem?_append_left (by rw [lB]; exact lt0)]
          exact gB _) (by omega) hn
        rw [show k0 + (y * s + x) + 1 = k0 + (y * s + (x + 1)) by omega, List.append_assoc, sB _ (y * s + (x + 1)), ← List.append_assoc, ← List.append_assoc] at hc
        obtain ⟨Ma, hMa⟩ : ∃ M1, M1 = (B (y * s + x) ++ Ob.lst rows :: X) ++ [.lst ((List.range x).map fun i => qD (R i))] := ⟨_, rfl⟩
        obtain ⟨Mb, hMb⟩ : ∃ M1, M1 = (B (y * s + (x + 1)) ++ Ob.lst rows :: X) ++ [.lst ((List.range x).map fun i => qD (R i))] := ⟨_, rfl⟩
        rw [← hMa, ← hMb] at hc
        rw [← hMa]
        have gb : Mb[L1]? = some (.lst ((List.range x).map fun i => qD (R i))) := by
          rw [hMb, ← lM (y * s + (x + 1))]
          exact get_mid
        obtain ⟨p, a, b, hp, hst⟩ := entry_turn (M := Mb) (Rw := L1) (s0 := some (.scr ns)) (s1 := some (.loc 0)) (s2 := some (.int Sz)) (s4 := some (.loc M.length)) (s5 := some (.int Y)) (s7 := some (.int X')) (a9 := a9) (a10 := a10) (S := S) (n := c) hS0 hS c0 c1 gb (by simp; omega)
        refine ⟨trivial, envN (some (.scr ns)) (some (.loc 0)) (some (.int Sz)) (some (.loc M.length)) (some (.int Y)) (some (.int X')) a8 a9 a10 S L1, Ma, rfl, ?_⟩
        refine wp_nx (e' := envN (some (.scr ns)) (some (.loc 0)) (some (.int Sz)) (some (.loc M.length)) (some (.int Y)) (some (.int X')) (some (.int c)) a9 a10 S L1) (M' := Mb) (by simp [seqS, ifS, retS, raiseF, raiseS, consA, nilA, binD, callD, nameD, cD, bindE_v, thenS_v, bindE_x, thenS_x, unD, parS, asgS, tupD, int2F, eq_int, ne_int, intF0, negF, notF, nilS, brD, fnD, addE, subE, ix0, ix1, dropS, asgG, tupG, consG, nameG, nilG, lstD, andD, orD, tstD, ownS, appS, len_tup, len_lst, tup_tup, wipeE, set1, set2, typ_int, typ_tup, typ_non, typ_lst, isF, chainD, asT, truD, len_row, typ_row, hc]) ?_
        refine wp_of _ hst ⟨_, .inl rfl, fun i => if i = x then p else R i, _, _, _, _, ?_, ?_, rfl⟩
        · intro i hi
          show VE S (if i = x then p else R i)
          by_cases e1 : i = x
          · rw [if_pos e1]; exact hp
          · rw [if_neg e1]; exact hr i (by omega)
        · have e1 : ((List.range x).map fun i => qD (R i)) = (List.range x).map fun i => qD (if i = x then p else R i) := List.map_congr_left fun i hi => by
            have := List.mem_range.mp hi
            rw [if_neg (by omega)]
          have e2 := range_snoc (f := fun i => qD (if i = x then p else R i)) x
          rw [if_pos rfl] at e2
          rw [hMb, ← lM (y * s + (x + 1)), set_mid, e1, e2]
      · obtain ⟨R, a7, a8, a9, a10, hr, rfl, rfl⟩ := hi
        rw [List.length_map, List.length_range] at hr ⊢
        obtain ⟨A', hA'⟩ : ∃ A' : Mx, A' = fun i j => if i = y then R j else A i j := ⟨_, rfl⟩
        have Ay : ∀ x, A' y x = R x := fun x => by rw [hA']; exact if_pos rfl
        have An : ∀ i x, i ≠ y → A' i x = A i x := fun i x q => by rw [hA']; exact if_neg q
        obtain ⟨Ma, hMa⟩ : ∃ M1, M1 = (B (y * s + s) ++ Ob.lst rows :: X) ++ [.lst ((List.range s).map fun i => qD (R i))] := ⟨_, rfl⟩
        rw [← hMa]
        have g1 : Ma[L1]? = some (.lst ((List.range s).map fun i => qD (R i))) := by
          rw [hMa, ← lM (y * s + s)]
          exact get_mid
        have g2 : Ma[M.length]? = some (.lst rows) := by
          rw [hMa, List.append_assoc, ← lB (y * s + s)]
          exact get_mid
        have t := tup_loc (M := Ma) (n := L1) g1 (by simp; omega)
        refine wp_of (.nx _) (app_ok (n := M.length) rfl (show callD tupcF (consA (nameD 6) nilA) _ _ = ok (rowD s fun x => qD (A' y x)) _ by
          have e1 : (rowD s fun x => qD (A' y x)) = rowD s fun x => qD (R x) := row_ext fun x _ => by rw [Ay]
          rw [e1]
          simp [seqS, ifS, retS, raiseF, raiseS, consA, nilA, binD, callD, nameD, cD, bindE_v, thenS_v, bindE_x, thenS_x, unD, parS, asgS, tupD, int2F, eq_int, ne_int, intF0, negF, notF, nilS, brD, fnD, addE, subE, ix0, ix1, dropS, asgG, tupG, consG, nameG, nilG, lstD, andD, orD, tstD, ownS, appS, len_tup, len_lst, tup_tup, wipeE, set1, set2, typ_int, typ_tup, typ_non, typ_lst, isF, chainD, asT, truD, len_row, typ_row, t]
          rfl) g2 (by rw [hrows]; simp; omega)) ⟨_, .inl rfl, A', X ++ [.lst ((List.range s).map fun i => qD (R i))], _, _, _, _, _, _, ?_, ?_, rfl⟩
        · intro i j hi hj
          by_cases e1 : i = y
          · rw [e1, Ay]
            exact hr j hj
          · rw [An _ _ e1]
            exact hs' i j (by omega) hj
        · have e1 : rows = (List.range y).map fun i => rowD s fun j => qD (A' i j) := by
            rw [hrows]
            exact List.map_congr_left fun i hi => by
              have := List.mem_range.mp hi
              exact row_ext fun j _ => by rw [An _ _ (by omega)]
          rw [hMa, List.append_assoc, List.cons_append, ← lB (y * s + s), set_mid, e1, range_snoc (f := fun i => rowD s fun j => qD (A' i j)), Nat.succ_mul]
    · obtain ⟨A, X, a5, a6, a7, a8, a9, a10, hs', rfl, rfl⟩ := hi
      rw [List.length_map, List.length_range] at hs' ⊢
      have t := tup_loc (M := B (s * s) ++ .lst ((List.range s).map fun i => rowD s fun j => qD (A i j)) :: X) (n := M.length) (by rw [← lB (s * s)]; exact get_mid) (by simp; omega)
      refine wp_of (.rt (gridD s A)) (M' := B (s * s) ++ .lst ((List.range s).map fun i => rowD s fun j => qD (A i j)) :: X) ?_ ⟨A, hs', rfl, _, rfl⟩
      simp [seqS, ifS, retS, raiseF, raiseS, consA, nilA, binD, callD, nameD, cD, bindE_v, thenS_v, bindE_x, thenS_x, unD, parS, asgS, tupD, int2F, eq_int, ne_int, intF0, negF, notF, nilS, brD, fnD, addE, subE, ix0, ix1, dropS, asgG, tupG, consG, nameG, nilG, lstD, andD, orD, tstD, ownS, appS, len_tup, len_lst, tup_tup, wipeE, set1, set2, typ_int, typ_tup, typ_non, typ_lst, isF, chainD, asT, truD, len_row, typ_row, t]
      rfl
  obtain ⟨f, M1, h1, A, hs', rfl, X, rfl⟩ := key
  refine ⟨A, hs', fv_rt2 (e0 := [some (.scr ns), some (.loc 0), some (.int Sz), some (.int S), none, none, none, none, none, none, none]) X rfl h1 (lB (s * s)) (set_ok rfl) nl_grid⟩
end K63
namespace K63
open PySem L2 DL
/-- one step of the law's least -/
def mst (w h : Nat) (H : Nat → Nat → Int) (x y : Int) (acc : Int) (n e : Nat) : Int :=
  if (e = 0 ∨ e + 1 = w) ∨ (n = 0 ∨ n + 1 = h) then (if H e n + (((e : Int) - x).natAbs : Int) + (((n : Int) - y).natAbs : Int) < acc then H e n + (((e : Int) - x).natAbs : Int) + (((n : Int) - y).natAbs : Int) else acc) else acc
def mRow (w h : Nat) (H : Nat → Nat → Int) (x y : Int) (acc : Int) (n : Nat) : Nat → Int
  | 0 => acc
  | e + 1 => mst w h H x y (mRow w h H x y acc n e) n e
def mTab (w h : Nat) (H : Nat → Nat → Int) (x y : Int) : Nat → Int
  | 0 => 99
  | n + 1 => mRow w h H x y (mTab w h H x y n) n w
def mostF (w h : Nat) (H : Nat → Nat → Int) (x y : Int) : Int := mTab w h H x y h
theorem in_two {i a b : Int} {M : Store} : inF false (.int i) (.tup [.int a, .int b]) M = ok (.bl (decide (i = a ∨ i = b))) M := by
  by_cases h1 : i = a
  · subst h1
    simp [inF, flD, sqD, flDs, inV, eqV]
  · by_cases h2 : i = b
    · subst h2
      simp [inF, flD, sqD, flDs, inV, eqV, h1]
    · simp [inF, flD, sqD, flDs, inV, eqV, h1, h2]
      rw [beq_eq_false_iff_ne.mpr (fun z => h1 z.symm), beq_eq_false_iff_ne.mpr (fun z => h2 z.symm)]
      rfl
abbrev EM (T : D) (X Y F L P : Int) (a6 a7 a8 a9 : Option D) : DL.Env := [some T, some (.int X), some (.int Y), some (.int F), some (.int L), some (.int P), a6, a7, a8, a9]
theorem mst_ok {T R : D} {w h n e : Nat} {H : Nat → Nat → Int} {X Y F L P N E : Int} {M : Store} (hL : L = (w : Int) - 1) (hP : P = (h : Int) - 1) (hN : N = (n : Int)) (hE : E = (e : Int)) :
    ifS (orD (binD (inF false) (nameD 8) (tupD (consA (cD (.int 0)) (consA (nameD 4) (nilA))))) (binD (inF false) (nameD 6) (tupD (consA (cD (.int 0)) (consA (nameD 5) (nilA)))))) (asgS 3 (callD (minF) (consA (nameD 3) (consA (binD addF (binD addF (nameD 9) (callD (absF) (consA (binD subF (nameD 8) (nameD 1)) (nilA)))) (callD (absF) (consA (binD subF (nameD 6) (nameD 2)) (nilA)))) (nilA))))) (nilS) (EM T X Y F L P (some (.int N)) (some R) (some (.int E)) (some (.int (H e n)))) M = some (.nx (EM T X Y (mst w h H X Y F n e) L P (some (.int N)) (some R) (some (.int E)) (some (.int (H e n)))), M) := by
  have t : orD (binD (inF false) (nameD 8) (tupD (consA (cD (.int 0)) (consA (nameD 4) (nilA))))) (binD (inF false) (nameD 6) (tupD (consA (cD (.int 0)) (consA (nameD 5) (nilA))))) (EM T X Y F L P (some (.int N)) (some R) (some (.int E)) (some (.int (H e n)))) M = ok (.bl (decide (E = 0 ∨ E = L) || decide (N = 0 ∨ N = P))) M := or_v (by simp [seqS, ifS, retS, raiseF, raiseS, consA, nilA, binD, callD, nameD, cD, bindE_v, thenS_v, bindE_x, thenS_x, unD, parS, asgS, tupD, int2F, eq_int, ne_int, intF0, negF, notF, nilS, brD, fnD, addE, subE, ix0, ix1, dropS, asgG, tupG, consG, nameG, nilG, lstD, andD, orD, tstD, ownS, appS, len_tup, len_lst, tup_tup, wipeE, set1, set2, typ_int, typ_tup, typ_non, typ_lst, isF, chainD, asT, truD, len_row, typ_row, in_two]) fun _ => by simp [seqS, ifS, retS, raiseF, raiseS, consA, nilA, binD, callD, nameD, cD, bindE_v, thenS_v, bindE_x, thenS_x, unD, parS, asgS, tupD, int2F, eq_int, ne_int, intF0, negF, notF, nilS, brD, fnD, addE, subE, ix0, ix1, dropS, asgG, tupG, consG, nameG, nilG, lstD, andD, orD, tstD, ownS, appS, len_tup, len_lst, tup_tup, wipeE, set1, set2, typ_int, typ_tup, typ_non, typ_lst, isF, chainD, asT, truD, len_row, typ_row, in_two]
  obtain ⟨hv, hhv⟩ : ∃ z, z = H e n := ⟨_, rfl⟩
  have q : mst w h H X Y F n e = if (e = 0 ∨ e + 1 = w) ∨ (n = 0 ∨ n + 1 = h) then (if hv + (((e : Int) - X).natAbs : Int) + (((n : Int) - Y).natAbs : Int) < F then hv + (((e : Int) - X).natAbs : Int) + (((n : Int) - Y).natAbs : Int) else F) else F := by rw [hhv]; rfl
  rw [q]
  rw [← hhv] at t ⊢
  clear q hhv
  obtain ⟨A, hA⟩ : ∃ z : Int, z = ((E - X).natAbs : Int) := ⟨_, rfl⟩
  obtain ⟨B, hB⟩ : ∃ z : Int, z = ((N - Y).natAbs : Int) := ⟨_, rfl⟩
  have a1 : ∀ M, absF [.int (E - X)] M = ok (.int A) M := fun M => abs_is hA
  have a2 : ∀ M, absF [.int (N - Y)] M = ok (.int B) M := fun M => abs_is hB
  rw [← hE, ← hN, ← hA, ← hB]
  by_cases c : (e = 0 ∨ e + 1 = w) ∨ (n = 0 ∨ n + 1 = h)
  · rw [if_pos c]
    have c1 : (decide (E = 0 ∨ E = L) || decide (N = 0 ∨ N = P)) = true := by
      rw [Bool.or_eq_true, decide_eq_true_iff, decide_eq_true_iff]
      omega
    rw [c1] at t
    rw [if_t t]
    have mf : ∀ M, minF [.int F, .int (hv + A + B)] M = ok (.int (if hv + A + B < F then hv + A + B else F)) M := fun M => rfl
    generalize (if hv + A + B < F then hv + A + B else F) = z at *
    simp [seqS, ifS, retS, raiseF, raiseS, consA, nilA, binD, callD, nameD, cD, bindE_v, thenS_v, bindE_x, thenS_x, unD, parS, asgS, tupD, int2F, eq_int, ne_int, intF0, negF, notF, nilS, brD, fnD, addE, subE, ix0, ix1, dropS, asgG, tupG, consG, nameG, nilG, lstD, andD, orD, tstD, ownS, appS, len_tup, len_lst, tup_tup, wipeE, set1, set2, typ_int, typ_tup, typ_non, typ_lst, isF, chainD, asT, truD, len_row, typ_row, a1, a2, mf]
  · rw [if_neg c]
    have c1 : (decide (E = 0 ∨ E = L) || decide (N = 0 ∨ N = P)) = false := by
      rw [Bool.or_eq_false_iff, decide_eq_false_iff_not, decide_eq_false_iff_not]
      omega
    rw [c1] at t
    rw [if_f t]
    rfl
theorem most_ok {w h : Nat} {H : Nat → Nat → Int} {x y : Int} {M : Store} (hh : 0 < h) : m__law_most [tabD w h (hD H), .int x, .int y] M = ok (.int (mostF w h H x y)) M := by
  have i0 : ∀ M, ixF (tabD w h (hD H)) (.int 0) M = ok (rowD w fun x => hD H x 0) M := fun M => ix_row0 hh
  have l0 : ∀ M, lenF [rowD w fun x => hD H x 0] M = ok (.int (w : Int)) M := fun M => len_row
  have l1 : ∀ M, lenF [tabD w h (hD H)] M = ok (.int (h : Int)) M := fun M => len_row
  obtain ⟨L, hL⟩ : ∃ z : Int, z = (w : Int) - 1 := ⟨_, rfl⟩
  obtain ⟨P, hP⟩ : ∃ z : Int, z = (h : Int) - 1 := ⟨_, rfl⟩
  obtain ⟨Q, hQ⟩ : ∃ Q : Nat → D, Q = fun y => rowD w fun x => hD H x y := ⟨_, rfl⟩
  have hQ' : ∀ y, (rowD w fun x => hD H x y) = Q y := fun y => by rw [hQ]
  have en : ∀ (e : DL.Env) M, e[0]? = some (some (tabD w h (hD H))) → enumD (consA (nameD 0) nilA) e M = ok ((List.range h).map fun (i : Nat) => .tup [.int (i : Int), Q i], fun _ => True) M := fun e M he => enum_rows (by
    unfold nameD
    rw [he, hQ])
  have en2 : ∀ n (e : DL.Env) M, e[7]? = some (some (Q n)) → enumD (consA (nameD 7) nilA) e M = ok ((List.range w).map fun (i : Nat) => .tup [.int (i : Int), .int (H i n)], fun _ => True) M := fun n e M he => enum_rows (by
    unfold nameD
    rw [he, hQ])
  rw [hQ'] at l0
  simp only [hQ'] at i0
  obtain ⟨wi, hwi⟩ : ∃ z : Int, z = (w : Int) := ⟨_, rfl⟩
  obtain ⟨hi', hhi⟩ : ∃ z : Int, z = (h : Int) := ⟨_, rfl⟩
  rw [← hwi] at l0
  rw [← hhi] at l1
  obtain ⟨T, hT⟩ : ∃ T, T = tabD w h (hD H) := ⟨_, rfl⟩
  rw [← hT] at i0 l1 en ⊢
  have wl : wi - 1 = L := by omega
  have hp : hi' - 1 = P := by omega
  refine fv_wp (e0 := [some T, some (.int x), some (.int y), none, none, none, none, none, none, none]) rfl ?_ rfl
  unfold den__law_most
  refine wp_nx (e' := EM T x y 99 L P none none none none) (M' := M) (by simp [seqS, ifS, retS, raiseF, raiseS, consA, nilA, binD, callD, nameD, cD, bindE_v, thenS_v, bindE_x, thenS_x, unD, parS, asgS, tupD, int2F, eq_int, ne_int, intF0, negF, notF, nilS, brD, fnD, addE, subE, ix0, ix1, dropS, asgG, tupG, consG, nameG, nilG, lstD, andD, orD, tstD, ownS, appS, len_tup, len_lst, tup_tup, wipeE, set1, set2, typ_int, typ_tup, typ_non, typ_lst, isF, chainD, asT, truD, len_row, typ_row, parS3, i0, l0, l1, wl, hp]) ?_
  refine wp_for_nx ((List.range h).map fun (i : Nat) => .tup [.int (i : Int), Q i]) (fun n e M' => M' = M ∧ ∃ a6 a7 a8 a9, e = EM T x y (mTab w h H x y n) L P a6 a7 a8 a9) (en _ _ rfl) (fun n d e M' hd hi => ?_) (fun _ _ _ => trivial) ⟨rfl, _, _, _, _, rfl⟩ (fun e' M' hi => ?_)
  · obtain ⟨rfl, a6, a7, a8, a9, rfl⟩ := hi
    obtain ⟨hn, rfl⟩ := map_getR hd
    obtain ⟨N, hN⟩ : ∃ z : Int, z = (n : Int) := ⟨_, rfl⟩
    rw [← hN]
    have e2 := en2 n
    have rz : mRow w h H x y (mTab w h H x y n) n 0 = mTab w h H x y n := rfl
    obtain ⟨q, hq⟩ : ∃ q, q = Q n := ⟨_, rfl⟩
    rw [← hq] at e2 ⊢
    refine ⟨trivial, EM T x y (mTab w h H x y n) L P (some (.int N)) (some q) a8 a9, M', by simp [seqS, ifS, retS, raiseF, raiseS, consA, nilA, binD, callD, nameD, cD, bindE_v, thenS_v, bindE_x, thenS_x, unD, parS, asgS, tupD, int2F, eq_int, ne_int, intF0, negF, notF, nilS, brD, fnD, addE, subE, ix0, ix1, dropS, asgG, tupG, consG, nameG, nilG, lstD, andD, orD, tstD, ownS, appS, len_tup, len_lst, tup_tup, wipeE, set1, set2, typ_int, typ_tup, typ_non, typ_lst, isF, chainD, asT, truD, len_row, typ_row], ?_⟩
    refine wp_for ((List.range w).map fun (i : Nat) => .tup [.int (i : Int), .int (H i n)]) (fun e1 e M'' => M'' = M' ∧ ∃ a8 a9, e = EM T x y (mRow w h H x y (mTab w h H x y n) n e1) L P (some (.int N)) (some q) a8 a9) (e2 _ _ rfl) (fun e1 d e M'' hd hi => ?_) (fun _ _ _ => trivial) ⟨rfl, _, _, by rw [rz]⟩ (fun e' M'' hi => ?_)
    · obtain ⟨rfl, a8, a9, rfl⟩ := hi
      obtain ⟨he1, rfl⟩ := map_getR hd
      obtain ⟨E, hE⟩ : ∃ z : Int, z = (e1 : Int) := ⟨_, rfl⟩
      rw [← hE]
      have st := mst_ok (T := T) (R := q) (w := w) (h := h) (n := n) (e := e1) (H := H) (X := x) (Y := y) (F := mRow w h H x y (mTab w h H x y n) n e1) (L := L) (P := P) (N := N) (E := E) (M := M'') hL hP hN hE
      have rs : mRow w h H x y (mTab w h H x y n) n (e1 + 1) = mst w h H x y (mRow w h H x y (mTab w h H x y n) n e1) n e1 := rfl
      rw [rs]
      refine ⟨trivial, EM T x y (mRow w h H x y (mTab w h H x y n) n e1) L P (some (.int N)) (some q) (some (.int E)) (some (.int (H e1 n))), M'', ?_, wp_of _ st ⟨_, .inl rfl, rfl, _, _, rfl⟩⟩
      generalize H e1 n = hv
      generalize mRow w h H x y (mTab w h H x y n) n e1 = acc
      simp [seqS, ifS, retS, raiseF, raiseS, consA, nilA, binD, callD, nameD, cD, bindE_v, thenS_v, bindE_x, thenS_x, unD, parS, asgS, tupD, int2F, eq_int, ne_int, intF0, negF, notF, nilS, brD, fnD, addE, subE, ix0, ix1, dropS, asgG, tupG, consG, nameG, nilG, lstD, andD, orD, tstD, ownS, appS, len_tup, len_lst, tup_tup, wipeE, set1, set2, typ_int, typ_tup, typ_non, typ_lst, isF, chainD, asT, truD, len_row, typ_row]
    · obtain ⟨rfl, a8, a9, rfl⟩ := hi
      (rw [List.length_map, List.length_range])
      exact ⟨_, .inl rfl, rfl, _, _, _, _, rfl⟩
  · obtain ⟨rfl, a6, a7, a8, a9, rfl⟩ := hi
    (rw [List.length_map, List.length_range])
    show Wp _ (fun f M'' => f = .rt (.int (mTab w h H x y h)) ∧ _)
    generalize mTab w h H x y h = z
    exact wp_of (.rt (.int z)) (M' := M') (by simp [seqS, ifS, retS, raiseF, raiseS, consA, nilA, binD, callD, nameD, cD, bindE_v, thenS_v, bindE_x, thenS_x, unD, parS, asgS, tupD, int2F, eq_int, ne_int, intF0, negF, notF, nilS, brD, fnD, addE, subE, ix0, ix1, dropS, asgG, tupG, consG, nameG, nilG, lstD, andD, orD, tstD, ownS, appS, len_tup, len_lst, tup_tup, wipeE, set1, set2, typ_int, typ_tup, typ_non, typ_lst, isF, chainD, asT, truD, len_row, typ_row]) ⟨rfl, [], by simp⟩
end K63
namespace K63
open PySem L2 DL
def fw (l : Nat) : Nat := 2 * l - 1 + l % 2
def fh (l : Nat) : Nat := 2 * l - 1
def fx (l : Nat) : Nat := l - 1 + l % 2
def fy (l : Nat) : Nat := l - 1
def flatH (x y : Nat) : Int := ((x : Int) + (y : Int)) % 2
theorem whole_int {i : Int} {M : Store} : m_is_whole [.int i] M = ok (.bl true) M := fv_rt0 (e0 := [some (.int i)]) rfl (by simp [seqS, ifS, retS, raiseF, raiseS, consA, nilA, binD, callD, nameD, cD, bindE_v, thenS_v, bindE_x, thenS_x, unD, parS, asgS, tupD, int2F, eq_int, ne_int, intF0, negF, notF, nilS, brD, fnD, addE, subE, ix0, ix1, dropS, asgG, tupG, consG, nameG, nilG, lstD, andD, orD, tstD, ownS, appS, len_tup, len_lst, tup_tup, wipeE, set1, set2, typ_int, typ_tup, typ_non, typ_lst, isF, chainD, asT, truD, len_row, typ_row, den_is_whole]) rfl
abbrev frD (l : Nat) : D := .tup [.int (fw l : Nat), .int (fh l : Nat), .int (fx l : Nat), .int (fy l : Nat)]
theorem frame_ok {l : Nat} (h1 : 1 ≤ l) (h6 : l ≤ 6) (M : Store) : m_frame [.int (l : Int)] M = ok (frD l) M := by
  obtain ⟨L, hL⟩ : ∃ z : Int, z = (l : Int) := ⟨_, rfl⟩
  have e1 : ((fw l : Nat) : Int) = 2 * L - 1 + L % 2 := by unfold fw; omega
  have e2 : ((fh l : Nat) : Int) = 2 * L - 1 := by unfold fh; omega
  have e3 : ((fx l : Nat) : Int) = L - 1 + L % 2 := by unfold fx; omega
  have e4 : ((fy l : Nat) : Int) = L - 1 := by unfold fy; omega
  show m_frame [.int (l : Int)] M = ok (.tup [.int ((fw l : Nat) : Int), .int ((fh l : Nat) : Int), .int ((fx l : Nat) : Int), .int ((fy l : Nat) : Int)]) M
  rw [e1, e2, e3, e4, ← hL]
  have m1 : ∀ M, mulF (.int 2) (.int L) M = ok (.int (2 * L)) M := fun M => mulB (k := 2) (l := 4) (by unfold Bd; decide) (by unfold Bd; omega) (by decide)
  have f1 : ∀ M, fmodF (.int L) (.int 2) M = ok (.int (L % 2)) M := fun M => fmd (by decide)
  have ch := chain_le (da := cD (.int 1)) (db := nameD 0) (dc := cD (.int 6)) (e := [some (.int L)]) (M := M) (i := 1) (j := L) (k := 6) rfl rfl rfl
  rw [decide_eq_true (by omega : (1 : Int) ≤ L), decide_eq_true (by omega : L ≤ 6)] at ch
  have s1 : ifS (orD (unD notF (tstD (fnD m_is_whole 1 [] (consA (nameD 0) (nilA))))) (unD notF (chainD leF leF (cD (.int 1)) (nameD 0) (cD (.int (6)))))) (raiseS "BadRows") (nilS) [some (.int L)] M = some (.nx [some (.int L)], M) :=
    (if_f (or_v (a := false) (b := false) (by simp [seqS, ifS, retS, raiseF, raiseS, consA, nilA, binD, callD, nameD, cD, bindE_v, thenS_v, bindE_x, thenS_x, unD, parS, asgS, tupD, int2F, eq_int, ne_int, intF0, negF, notF, nilS, brD, fnD, addE, subE, ix0, ix1, dropS, asgG, tupG, consG, nameG, nilG, lstD, andD, orD, tstD, ownS, appS, len_tup, len_lst, tup_tup, wipeE, set1, set2, typ_int, typ_tup, typ_non, typ_lst, isF, chainD, asT, truD, len_row, typ_row, whole_int]) fun _ => not_v ch)).trans rfl
  refine fv_rt0 (e0 := [some (.int L)]) rfl ?_ rfl
  unfold den_frame
  rw [seq_nx s1]
  by_cases c : L % 2 = 0
  · rw [c, Int.add_zero]
    exact seq_rt ((if_t (by simp [seqS, ifS, retS, raiseF, raiseS, consA, nilA, binD, callD, nameD, cD, bindE_v, thenS_v, bindE_x, thenS_x, unD, parS, asgS, tupD, int2F, eq_int, ne_int, intF0, negF, notF, nilS, brD, fnD, addE, subE, ix0, ix1, dropS, asgG, tupG, consG, nameG, nilG, lstD, andD, orD, tstD, ownS, appS, len_tup, len_lst, tup_tup, wipeE, set1, set2, typ_int, typ_tup, typ_non, typ_lst, isF, chainD, asT, truD, len_row, typ_row, f1, c])).trans (by simp [seqS, ifS, retS, raiseF, raiseS, consA, nilA, binD, callD, nameD, cD, bindE_v, thenS_v, bindE_x, thenS_x, unD, parS, asgS, tupD, int2F, eq_int, ne_int, intF0, negF, notF, nilS, brD, fnD, addE, subE, ix0, ix1, dropS, asgG, tupG, consG, nameG, nilG, lstD, andD, orD, tstD, ownS, appS, len_tup, len_lst, tup_tup, wipeE, set1, set2, typ_int, typ_tup, typ_non, typ_lst, isF, chainD, asT, truD, len_row, typ_row, m1]))
  · have c1 : L % 2 = 1 := by omega
    rw [c1, show L - 1 + 1 = L by omega, show 2 * L - 1 + 1 = 2 * L by omega]
    rw [seq_nx (e' := [some (.int L)]) (M' := M) ((if_f (by simp [seqS, ifS, retS, raiseF, raiseS, consA, nilA, binD, callD, nameD, cD, bindE_v, thenS_v, bindE_x, thenS_x, unD, parS, asgS, tupD, int2F, eq_int, ne_int, intF0, negF, notF, nilS, brD, fnD, addE, subE, ix0, ix1, dropS, asgG, tupG, consG, nameG, nilG, lstD, andD, orD, tstD, ownS, appS, len_tup, len_lst, tup_tup, wipeE, set1, set2, typ_int, typ_tup, typ_non, typ_lst, isF, chainD, asT, truD, len_row, typ_row, f1, c])).trans rfl)]
    simp [seqS, ifS, retS, raiseF, raiseS, consA, nilA, binD, callD, nameD, cD, bindE_v, thenS_v, bindE_x, thenS_x, unD, parS, asgS, tupD, int2F, eq_int, ne_int, intF0, negF, notF, nilS, brD, fnD, addE, subE, ix0, ix1, dropS, asgG, tupG, consG, nameG, nilG, lstD, andD, orD, tstD, ownS, appS, len_tup, len_lst, tup_tup, wipeE, set1, set2, typ_int, typ_tup, typ_non, typ_lst, isF, chainD, asT, truD, len_row, typ_row, m1]
theorem law_flat_ok {w h : Nat} (hw : w ≤ 13) (hh : h ≤ 13) (M : Store) : m__law_flat [.int (w : Int), .int (h : Int)] M = ok (tabD w h (hD flatH)) M := by
  obtain ⟨W, hW⟩ : ∃ z : Int, z = (w : Int) := ⟨_, rfl⟩
  obtain ⟨H, hH⟩ : ∃ z : Int, z = (h : Int) := ⟨_, rfl⟩
  rw [← hW, ← hH]
  refine fv_wp (e0 := [some (.int W), some (.int H), none, none, none]) rfl ?_ (nl_tab fun _ _ => rfl)
  unfold den__law_flat
  refine wp_nx (e' := [some (.int W), some (.int H), some (.loc M.length), none, none]) (M' := M ++ [.lst []]) (by simp [seqS, ifS, retS, raiseF, raiseS, consA, nilA, binD, callD, nameD, cD, bindE_v, thenS_v, bindE_x, thenS_x, unD, parS, asgS, tupD, int2F, eq_int, ne_int, intF0, negF, notF, nilS, brD, fnD, addE, subE, ix0, ix1, dropS, asgG, tupG, consG, nameG, nilG, lstD, andD, orD, tstD, ownS, appS, len_tup, len_lst, tup_tup, wipeE, set1, set2, typ_int, typ_tup, typ_non, typ_lst, isF, chainD, asT, truD, len_row, typ_row]) ?_
  refine wp_for_nx ((List.range h).map fun (i : Nat) => D.int (i : Int)) (fun y e M' => ∃ a3 a4, e = [some (.int W), some (.int H), some (.loc M.length), a3, a4] ∧ M' = M ++ [.lst ((List.range y).map fun r => rowD w fun x => hD flatH x r)]) (it_r1 (by show ok (D.int H) _ = _; rw [hH]) (by omega)) (fun y d e M' hd hi => ?_) (fun _ _ _ => trivial) ⟨_, _, rfl, rfl⟩ (fun e' M' hi => ?_)
  · obtain ⟨a3, a4, rfl, rfl⟩ := hi
    obtain ⟨hy, rfl⟩ := map_getR hd
    obtain ⟨Y, hY⟩ : ∃ z : Int, z = (y : Int) := ⟨_, rfl⟩
    obtain ⟨M1, hM1⟩ : ∃ x, x = (M ++ [Ob.lst ((List.range y).map fun r => rowD w fun x => hD flatH x r)]) := ⟨_, rfl⟩
    have g1 : M1[M.length]? = some (.lst ((List.range y).map fun r => rowD w fun x => hD flatH x r)) := by
      rw [hM1]
      exact get_mid
    have tc := tupcompR (n := w) (f := fun x => hD flatH x y) (g := fun x => D.int (x : Int)) (i := 4) (e := [some (.int W), some (.int H), some (.loc M.length), some (.int Y), a4]) (de := binD fmodF (binD addF (nameD 4) (nameD 3)) (cD (.int 2))) (di := rng1 (consA (nameD 0) nilA)) (fun M => it_r1 (by show ok (D.int W) _ = _; rw [hW]) (by omega)) (by omega) (fun x hx M => by
      show _ = ok (D.int (((x : Int) + (y : Int)) % 2)) M
      rw [← hY]
      obtain ⟨X, hX⟩ : ∃ z : Int, z = (x : Int) := ⟨_, rfl⟩
      rw [← hX]
      have q : ∀ M, fmodF (.int (X + Y)) (.int 2) M = ok (.int ((X + Y) % 2)) M := fun M => fmd (by decide)
      simp [seqS, ifS, retS, raiseF, raiseS, consA, nilA, binD, callD, nameD, cD, bindE_v, thenS_v, bindE_x, thenS_x, unD, parS, asgS, tupD, int2F, eq_int, ne_int, intF0, negF, notF, nilS, brD, fnD, addE, subE, ix0, ix1, dropS, asgG, tupG, consG, nameG, nilG, lstD, andD, orD, tstD, ownS, appS, len_tup, len_lst, tup_tup, wipeE, set1, set2, typ_int, typ_tup, typ_non, typ_lst, isF, chainD, asT, truD, len_row, typ_row, q]) (fun _ _ => rfl) M1
    rw [← hM1, ← hY]
    refine ⟨trivial, [some (.int W), some (.int H), some (.loc M.length), some (.int Y), a4], M1, by simp [seqS, ifS, retS, raiseF, raiseS, consA, nilA, binD, callD, nameD, cD, bindE_v, thenS_v, bindE_x, thenS_x, unD, parS, asgS, tupD, int2F, eq_int, ne_int, intF0, negF, notF, nilS, brD, fnD, addE, subE, ix0, ix1, dropS, asgG, tupG, consG, nameG, nilG, lstD, andD, orD, tstD, ownS, appS, len_tup, len_lst, tup_tup, wipeE, set1, set2, typ_int, typ_tup, typ_non, typ_lst, isF, chainD, asT, truD, len_row, typ_row], ?_⟩
    refine wp_of _ (app_ok (n := M.length) rfl tc g1 (by simp; omega)) ⟨_, .inl rfl, _, _, rfl, ?_⟩
    rw [hM1, set_mid, show (rowD w fun x => hD flatH x y) = (fun r => rowD w fun x => hD flatH x r) y from rfl, range_snoc]
  · obtain ⟨a3, a4, rfl, rfl⟩ := hi
    (rw [List.length_map, List.length_range])
    have t := tup_loc (M := M ++ [.lst ((List.range h).map fun r => rowD w fun x => hD flatH x r)]) (n := M.length) get_mid (by simp; omega)
    refine wp_of (.rt (tabD w h (hD flatH))) (M' := M ++ [.lst ((List.range h).map fun r => rowD w fun x => hD flatH x r)]) ?_ ⟨rfl, _, rfl⟩
    simp [seqS, ifS, retS, raiseF, raiseS, consA, nilA, binD, callD, nameD, cD, bindE_v, thenS_v, bindE_x, thenS_x, unD, parS, asgS, tupD, int2F, eq_int, ne_int, intF0, negF, notF, nilS, brD, fnD, addE, subE, ix0, ix1, dropS, asgG, tupG, consG, nameG, nilG, lstD, andD, orD, tstD, ownS, appS, len_tup, len_lst, tup_tup, wipeE, set1, set2, typ_int, typ_tup, typ_non, typ_lst, isF, chainD, asT, truD, len_row, typ_row, t]
    rfl
/-- no smaller field has such a spot -/
def lessOk (l w h : Nat) : Bool := (List.range h).all fun y => (List.range w).all fun x => !(decide (((x : Int) + (y : Int) - (l : Int)) % 2 = 0)) || decide (mostF w h flatH (x : Int) (y : Int) < (l : Int))
theorem frames_fine : ∀ l : Nat, l < 7 → 1 ≤ l → (l : Int) ≤ mostF (fw l) (fh l) flatH (fx l : Nat) (fy l : Nat) ∧ lessOk l (fw l - 1) (fh l) = true ∧ lessOk l (fw l) (fh l - 1) = true := by decide +kernel
end K63
namespace K63
open PySem L2 DL
theorem neG_str2 {x : Str} {M : Store} : neF (.str x) (.str x) M = ok (.bl false) M := by
  rw [ne_str, decide_eq_true rfl]
  rfl
theorem okW_small {i : Int} (h : i.natAbs < 1000) : okW (.int i) = true := okW_int (k := 10) (Nat.lt_of_lt_of_le h (by decide)) (by decide)
theorem repr_fr {l : Nat} (h6 : l ≤ 6) (M : Store) : reprGF [.lst [frD l, frD l]] M = ok (.str (rpr (.lst [frD l, frD l]))) M := by
  have e : okW (frD l) = true := by
    show (okW (.int (fw l : Nat)) && (okW (.int (fh l : Nat)) && (okW (.int (fx l : Nat)) && (okW (.int (fy l : Nat)) && true)))) = true
    rw [okW_small (by unfold fw; omega), okW_small (by unfold fh; omega), okW_small (by unfold fx; omega), okW_small (by unfold fy; omega)]
    rfl
  exact reprG_w (by
    show (okW (frD l) && (okW (frD l) && true)) = true
    rw [e]
    rfl) (by show 4 + 1 + (4 + 1 + 0) ≤ 6000; decide) (by show (2 : Nat) ≤ 60; decide)
theorem less_in {l w h x y : Nat} (k : lessOk l w h = true) (hx : x < w) (hy : y < h) (c : ((x : Int) + (y : Int) - (l : Int)) % 2 = 0) : mostF w h flatH (x : Int) (y : Int) < (l : Int) := by
  have k1 := List.all_eq_true.mp k y (List.mem_range.mpr hy)
  have k2 := List.all_eq_true.mp k1 x (List.mem_range.mpr hx)
  rw [decide_eq_true c] at k2
  simpa using k2
theorem frame_right {l : Nat} (h1 : 1 ≤ l) (h6 : l ≤ 6) (M : Store) : m__law_frame_right [.int (l : Int)] M = ok (.bl true) M := by
  obtain ⟨L, hL⟩ : ∃ z : Int, z = (l : Int) := ⟨_, rfl⟩
  obtain ⟨W, hW⟩ : ∃ z : Int, z = ((fw l : Nat) : Int) := ⟨_, rfl⟩
  obtain ⟨H, hH⟩ : ∃ z : Int, z = ((fh l : Nat) : Int) := ⟨_, rfl⟩
  obtain ⟨X, hX⟩ : ∃ z : Int, z = ((fx l : Nat) : Int) := ⟨_, rfl⟩
  obtain ⟨Y, hY⟩ : ∃ z : Int, z = ((fy l : Nat) : Int) := ⟨_, rfl⟩
  have e1 : 2 * L - 1 + L % 2 = W := by rw [hW]; unfold fw; omega
  have e2 : 2 * L - 1 = H := by rw [hH]; unfold fh; omega
  have e3 : L - 1 + L % 2 = X := by rw [hX]; unfold fx; omega
  have e4 : L - 1 = Y := by rw [hY]; unfold fy; omega
  have e1' : H + L % 2 = W := by omega
  have e3' : Y + L % 2 = X := by omega
  have b1 : fw l ≤ 12 := by unfold fw; omega
  have b2 : fh l ≤ 11 := by unfold fh; omega
  have m1 : ∀ M, mulF (.int 2) (.int L) M = ok (.int (2 * L)) M := fun M => mulB (k := 2) (l := 4) (by unfold Bd; decide) (by unfold Bd; omega) (by decide)
  have f1 : ∀ M, fmodF (.int L) (.int 2) M = ok (.int (L % 2)) M := fun M => fmd (by decide)
  have fr := frame_ok h1 h6
  have rp := repr_fr h6
  rw [← hL] at fr ⊢
  have hF : frD l = .tup [.int W, .int H, .int X, .int Y] := by rw [hW, hH, hX, hY]
  rw [hF] at fr rp
  obtain ⟨p1, p2, p3⟩ := frames_fine l (by omega) h1
  have fl := fun M => law_flat_ok (w := fw l) (h := fh l) (by omega) (by omega) M
  rw [← hW, ← hH] at fl
  have mo := fun M => most_ok (w := fw l) (h := fh l) (H := flatH) (x := X) (y := Y) (M := M) (by unfold fh; omega)
  obtain ⟨mv, hmv⟩ : ∃ z, z = mostF (fw l) (fh l) flatH X Y := ⟨_, rfl⟩
  rw [← hX, ← hY, ← hmv, ← hL] at p1
  rw [← hmv] at mo
  have nlt : ¬ mv < L := by omega
  have par : (X + Y - L) % 2 = 0 := by rw [← e3, ← e4]; omega
  have f2 : ∀ M, fmodF (.int (X + Y - L)) (.int 2) M = ok (.int 0) M := fun M => by rw [fmd (by decide), par]
  obtain ⟨RP, hRP⟩ : ∃ x, x = rpr (.lst [.tup [.int W, .int H, .int X, .int Y], .tup [.int W, .int H, .int X, .int Y]]) := ⟨_, rfl⟩
  rw [← hRP] at rp
  have ns := fun M => neG_str2 (x := RP) (M := M)
  obtain ⟨T, hT⟩ : ∃ T, T = tabD (fw l) (fh l) (hD flatH) := ⟨_, rfl⟩
  rw [← hT] at fl mo
  let DU : D := .tup [.int W, .int H, .int X, .int Y]
  have i2 : ∀ M, ixF DU (.int 2) M = ok (.int X) M := fun M => ix_tup rfl
  have i3 : ∀ M, ixF DU (.int 3) M = ok (.int Y) M := fun M => ix_tup rfl
  let E : Option D → Option D → Option D → Option D → Option D → DL.Env := fun a4 a5 a6 a7 a8 => [some (.int L), some (.int W), some (.int H), some DU, a4, a5, a6, a7, a8]
  have turn : ∀ (w h : Nat) (a4 a5 a6 a7 a8 : Option D) (M : Store), w ≤ 13 → h ≤ 13 → lessOk l w h = true → Wp ((seqS (asgS 6 (fnD m__law_flat 2 [] (consA (nameD 4) (consA (nameD 5) (nilA))))) (forI (nameG 7) (rng1 (consA (nameD 5) (nilA))) (forI (nameG 8) (rng1 (consA (nameD 4) (nilA))) (ifS (andD (binD (eqF) (binD fmodF (binD subF (binD addF (nameD 8) (nameD 7)) (nameD 0)) (cD (.int 2))) (cD (.int 0))) (binD (geF) (fnD m__law_most 3 [] (consA (nameD 6) (consA (nameD 8) (consA (nameD 7) (nilA))))) (nameD 0))) (retS (cD (.bl false))) (nilS))))) (E (some (.int (w : Int))) (some (.int (h : Int))) a6 a7 a8) M) (fun f M' => M' = M ∧ ∃ a6 a7 a8, f = .nx (E (some (.int (w : Int))) (some (.int (h : Int))) a6 a7 a8)) := by
    intro w h a4 a5 a6 a7 a8 M hw hh lo
    have fl := law_flat_ok hw hh
    obtain ⟨wi, hwi⟩ : ∃ z : Int, z = (w : Int) := ⟨_, rfl⟩
    obtain ⟨hi, hhi⟩ : ∃ z : Int, z = (h : Int) := ⟨_, rfl⟩
    rw [← hwi, ← hhi] at fl ⊢
    have mo : ∀ x y M, 0 < h → m__law_most [tabD w h (hD flatH), .int x, .int y] M = ok (.int (mostF w h flatH x y)) M := fun x y M h0 => most_ok h0
    obtain ⟨T2, hT2⟩ : ∃ T, T = tabD w h (hD flatH) := ⟨_, rfl⟩
    rw [← hT2] at fl mo
    refine wp_nx (e' := E (some (.int wi)) (some (.int hi)) (some T2) a7 a8) (M' := M) (by simp [seqS, ifS, retS, raiseF, raiseS, consA, nilA, binD, callD, nameD, cD, bindE_v, thenS_v, bindE_x, thenS_x, unD, parS, asgS, tupD, int2F, eq_int, ne_int, intF0, negF, notF, nilS, brD, fnD, addE, subE, ix0, ix1, dropS, asgG, tupG, consG, nameG, nilG, lstD, andD, orD, tstD, ownS, appS, len_tup, len_lst, tup_tup, wipeE, set1, set2, typ_int, typ_tup, typ_non, typ_lst, isF, chainD, asT, truD, len_row, typ_row, fl, E]) ?_
    refine wp_for ((List.range h).map fun (i : Nat) => D.int (i : Int)) (fun y e M' => M' = M ∧ ∃ a7 a8, e = E (some (.int wi)) (some (.int hi)) (some T2) a7 a8) (it_r1 (by show ok (D.int hi) _ = _; rw [hhi]) (by omega)) (fun y d e M' hd hi' => ?_) (fun _ _ _ => trivial) ⟨rfl, _, _, rfl⟩ (fun e' M' hi' => ?_)
    · obtain ⟨rfl, a7, a8, rfl⟩ := hi'
      obtain ⟨hy, rfl⟩ := map_getR hd
      obtain ⟨yi, hyi⟩ : ∃ z : Int, z = (y : Int) := ⟨_, rfl⟩
      rw [← hyi]
      refine ⟨trivial, E (some (.int wi)) (some (.int hi)) (some T2) (some (.int yi)) a8, M', by simp [seqS, ifS, retS, raiseF, raiseS, consA, nilA, binD, callD, nameD, cD, bindE_v, thenS_v, bindE_x, thenS_x, unD, parS, asgS, tupD, int2F, eq_int, ne_int, intF0, negF, notF, nilS, brD, fnD, addE, subE, ix0, ix1, dropS, asgG, tupG, consG, nameG, nilG, lstD, andD, orD, tstD, ownS, appS, len_tup, len_lst, tup_tup, wipeE, set1, set2, typ_int, typ_tup, typ_non, typ_lst, isF, chainD, asT, truD, len_row, typ_row, E], ?_⟩
      refine wp_for ((List.range w).map fun (i : Nat) => D.int (i : Int)) (fun x e M'' => M'' = M' ∧ ∃ a8, e = E (some (.int wi)) (some (.int hi)) (some T2) (some (.int yi)) a8) (it_r1 (by show ok (D.int wi) _ = _; rw [hwi]) (by omega)) (fun x d e M'' hd hi' => ?_) (fun _ _ _ => trivial) ⟨rfl, _, rfl⟩ (fun e' M'' hi' => ?_)
      · obtain ⟨rfl, a8, rfl⟩ := hi'
        obtain ⟨hx, rfl⟩ := map_getR hd
        obtain ⟨xi, hxi⟩ : ∃ z : Int, z = (x : Int) := ⟨_, rfl⟩
        have m2 := fun M => mo xi yi M (by omega)
        obtain ⟨v, hv⟩ : ∃ v, v = mostF w h flatH xi yi := ⟨_, rfl⟩
        rw [← hv] at m2
        rw [← hxi]
        have fm : ∀ M, fmodF (.int (xi + yi - L)) (.int 2) M = ok (.int ((xi + yi - L) % 2)) M := fun M => fmd (by decide)
        refine ⟨trivial, E (some (.int wi)) (some (.int hi)) (some T2) (some (.int yi)) (some (.int xi)), M'', by simp [seqS, ifS, retS, raiseF, raiseS, consA, nilA, binD, callD, nameD, cD, bindE_v, thenS_v, bindE_x, thenS_x, unD, parS, asgS, tupD, int2F, eq_int, ne_int, intF0, negF, notF, nilS, brD, fnD, addE, subE, ix0, ix1, dropS, asgG, tupG, consG, nameG, nilG, lstD, andD, orD, tstD, ownS, appS, len_tup, len_lst, tup_tup, wipeE, set1, set2, typ_int, typ_tup, typ_non, typ_lst, isF, chainD, asT, truD, len_row, typ_row, E], ?_⟩
        refine wp_of (M' := M'') (.nx (E (some (.int wi)) (some (.int hi)) (some T2) (some (.int yi)) (some (.int xi)))) ?_ ⟨_, .inl rfl, rfl, _, rfl⟩
        by_cases c : (xi + yi - L) % 2 = 0
        · have lt := less_in lo hx hy (by rw [← hxi, ← hyi, ← hL]; exact c)
          rw [← hxi, ← hyi, ← hv, ← hL] at lt
          have c2 : ¬ L ≤ v := by omega
          exact (if_f (and_v (a := true) (b := false) (by simp [seqS, ifS, retS, raiseF, raiseS, consA, nilA, binD, callD, nameD, cD, bindE_v, thenS_v, bindE_x, thenS_x, unD, parS, asgS, tupD, int2F, eq_int, ne_int, intF0, negF, notF, nilS, brD, fnD, addE, subE, ix0, ix1, dropS, asgG, tupG, consG, nameG, nilG, lstD, andD, orD, tstD, ownS, appS, len_tup, len_lst, tup_tup, wipeE, set1, set2, typ_int, typ_tup, typ_non, typ_lst, isF, chainD, asT, truD, len_row, typ_row, fm, c, E]) fun _ => by simp [seqS, ifS, retS, raiseF, raiseS, consA, nilA, binD, callD, nameD, cD, bindE_v, thenS_v, bindE_x, thenS_x, unD, parS, asgS, tupD, int2F, eq_int, ne_int, intF0, negF, notF, nilS, brD, fnD, addE, subE, ix0, ix1, dropS, asgG, tupG, consG, nameG, nilG, lstD, andD, orD, tstD, ownS, appS, len_tup, len_lst, tup_tup, wipeE, set1, set2, typ_int, typ_tup, typ_non, typ_lst, isF, chainD, asT, truD, len_row, typ_row, m2, ge_int, c2, E])).trans rfl
        · exact (if_f (and_v (a := false) (b := false) (by simp [seqS, ifS, retS, raiseF, raiseS, consA, nilA, binD, callD, nameD, cD, bindE_v, thenS_v, bindE_x, thenS_x, unD, parS, asgS, tupD, int2F, eq_int, ne_int, intF0, negF, notF, nilS, brD, fnD, addE, subE, ix0, ix1, dropS, asgG, tupG, consG, nameG, nilG, lstD, andD, orD, tstD, ownS, appS, len_tup, len_lst, tup_tup, wipeE, set1, set2, typ_int, typ_tup, typ_non, typ_lst, isF, chainD, asT, truD, len_row, typ_row, fm, c, E]) fun z => nomatch z)).trans rfl
      · obtain ⟨rfl, a8, rfl⟩ := hi'
        exact ⟨_, .inl rfl, rfl, _, _, rfl⟩
    · obtain ⟨rfl, a7, a8, rfl⟩ := hi'
      exact ⟨rfl, _, _, _, rfl⟩
  refine fv_wp (e0 := [some (.int L), none, none, none, none, none, none, none, none]) rfl ?_ rfl
  unfold den__law_frame_right
  refine wp_nx (e' := [some (.int L), some (.int W), some (.int H), none, none, none, none, none, none]) (M' := M) (by simp [seqS, ifS, retS, raiseF, raiseS, consA, nilA, binD, callD, nameD, cD, bindE_v, thenS_v, bindE_x, thenS_x, unD, parS, asgS, tupD, int2F, eq_int, ne_int, intF0, negF, notF, nilS, brD, fnD, addE, subE, ix0, ix1, dropS, asgG, tupG, consG, nameG, nilG, lstD, andD, orD, tstD, ownS, appS, len_tup, len_lst, tup_tup, wipeE, set1, set2, typ_int, typ_tup, typ_non, typ_lst, isF, chainD, asT, truD, len_row, typ_row, m1, f1, e1', e2]) ?_
  refine wp_nx (e' := E none none none none none) (M' := M) (by simp [seqS, ifS, retS, raiseF, raiseS, consA, nilA, binD, callD, nameD, cD, bindE_v, thenS_v, bindE_x, thenS_x, unD, parS, asgS, tupD, int2F, eq_int, ne_int, intF0, negF, notF, nilS, brD, fnD, addE, subE, ix0, ix1, dropS, asgG, tupG, consG, nameG, nilG, lstD, andD, orD, tstD, ownS, appS, len_tup, len_lst, tup_tup, wipeE, set1, set2, typ_int, typ_tup, typ_non, typ_lst, isF, chainD, asT, truD, len_row, typ_row, f1, e3', e4, E, DU]) ?_
  refine wp_nx (e' := E none none none none none) (M' := M) ((if_f (by simp [seqS, ifS, retS, raiseF, raiseS, consA, nilA, binD, callD, nameD, cD, bindE_v, thenS_v, bindE_x, thenS_x, unD, parS, asgS, tupD, int2F, eq_int, ne_int, intF0, negF, notF, nilS, brD, fnD, addE, subE, ix0, ix1, dropS, asgG, tupG, consG, nameG, nilG, lstD, andD, orD, tstD, ownS, appS, len_tup, len_lst, tup_tup, wipeE, set1, set2, typ_int, typ_tup, typ_non, typ_lst, isF, chainD, asT, truD, len_row, typ_row, fnKD, pk, fr, rp, ns, E, DU])).trans rfl) ?_
  refine wp_nx (e' := E none none none none none) (M' := M) ((if_f (or_v (a := false) (b := false) (by simp [seqS, ifS, retS, raiseF, raiseS, consA, nilA, binD, callD, nameD, cD, bindE_v, thenS_v, bindE_x, thenS_x, unD, parS, asgS, tupD, int2F, eq_int, ne_int, intF0, negF, notF, nilS, brD, fnD, addE, subE, ix0, ix1, dropS, asgG, tupG, consG, nameG, nilG, lstD, andD, orD, tstD, ownS, appS, len_tup, len_lst, tup_tup, wipeE, set1, set2, typ_int, typ_tup, typ_non, typ_lst, isF, chainD, asT, truD, len_row, typ_row, fl, i2, i3, mo, lt_int, nlt, E]) fun _ => by simp [seqS, ifS, retS, raiseF, raiseS, consA, nilA, binD, callD, nameD, cD, bindE_v, thenS_v, bindE_x, thenS_x, unD, parS, asgS, tupD, int2F, eq_int, ne_int, intF0, negF, notF, nilS, brD, fnD, addE, subE, ix0, ix1, dropS, asgG, tupG, consG, nameG, nilG, lstD, andD, orD, tstD, ownS, appS, len_tup, len_lst, tup_tup, wipeE, set1, set2, typ_int, typ_tup, typ_non, typ_lst, isF, chainD, asT, truD, len_row, typ_row, i2, i3, f2, E])).trans rfl) ?_
  have w1 : 1 ≤ fw l := by unfold fw; omega
  have hh1 : 1 ≤ fh l := by unfold fh; omega
  have q1 : ((fw l - 1 : Nat) : Int) = W - 1 := by omega
  have q2 : ((fh l - 1 : Nat) : Int) = H - 1 := by omega
  let items : List D := [.tup [.int ((fw l - 1 : Nat) : Int), .int ((fh l : Nat) : Int)], .tup [.int ((fw l : Nat) : Int), .int ((fh l - 1 : Nat) : Int)]]
  have it : itD (tupD (consA (tupD (consA (binD subF (nameD 1) (cD (.int 1))) (consA (nameD 2) (nilA)))) (consA (tupD (consA (nameD 1) (consA (binD subF (nameD 2) (cD (.int 1))) (nilA)))) (nilA)))) (E none none none none none) M = ok (items, fun _ => True) M := it_tup (by
    show _ = ok (D.tup [.tup [.int ((fw l - 1 : Nat) : Int), .int ((fh l : Nat) : Int)], .tup [.int ((fw l : Nat) : Int), .int ((fh l - 1 : Nat) : Int)]]) M
    rw [q1, q2, ← hW, ← hH]
    simp [seqS, ifS, retS, raiseF, raiseS, consA, nilA, binD, callD, nameD, cD, bindE_v, thenS_v, bindE_x, thenS_x, unD, parS, asgS, tupD, int2F, eq_int, ne_int, intF0, negF, notF, nilS, brD, fnD, addE, subE, ix0, ix1, dropS, asgG, tupG, consG, nameG, nilG, lstD, andD, orD, tstD, ownS, appS, len_tup, len_lst, tup_tup, wipeE, set1, set2, typ_int, typ_tup, typ_non, typ_lst, isF, chainD, asT, truD, len_row, typ_row, E])
  refine wp_for_nx items (fun _ e M' => M' = M ∧ ∃ a4 a5 a6 a7 a8, e = E a4 a5 a6 a7 a8) it (fun j d e M' hd hi => ?_) (fun _ _ _ => trivial) ⟨rfl, _, _, _, _, _, rfl⟩ (fun e' M' hi => ?_)
  · obtain ⟨rfl, a4, a5, a6, a7, a8, rfl⟩ := hi
    have dm := List.mem_of_getElem? hd
    have go : ∀ (w h : Nat), w ≤ 13 → h ≤ 13 → lessOk l w h = true → d = .tup [.int (w : Int), .int (h : Int)] → True ∧ ∃ e1 M1, tupG 2 (consG (nameG 4) (consG (nameG 5) nilG)) d (E a4 a5 a6 a7 a8) M' = some (.nx e1, M1) ∧ Wp ((seqS (asgS 6 (fnD m__law_flat 2 [] (consA (nameD 4) (consA (nameD 5) (nilA))))) (forI (nameG 7) (rng1 (consA (nameD 5) (nilA))) (forI (nameG 8) (rng1 (consA (nameD 4) (nilA))) (ifS (andD (binD (eqF) (binD fmodF (binD subF (binD addF (nameD 8) (nameD 7)) (nameD 0)) (cD (.int 2))) (cD (.int 0))) (binD (geF) (fnD m__law_most 3 [] (consA (nameD 6) (consA (nameD 8) (consA (nameD 7) (nilA))))) (nameD 0))) (retS (cD (.bl false))) (nilS))))) e1 M1) fun f M2 => ∃ e2, (f = .nx e2 ∨ f = .ct e2) ∧ M2 = M' ∧ ∃ a4 a5 a6 a7 a8, e2 = E a4 a5 a6 a7 a8 := fun w h hw hh lo hde => by
      subst hde
      refine ⟨trivial, E (some (.int (w : Int))) (some (.int (h : Int))) a6 a7 a8, M', by
        generalize (w : Int) = wi
        generalize (h : Int) = hi
        simp [seqS, ifS, retS, raiseF, raiseS, consA, nilA, binD, callD, nameD, cD, bindE_v, thenS_v, bindE_x, thenS_x, unD, parS, asgS, tupD, int2F, eq_int, ne_int, intF0, negF, notF, nilS, brD, fnD, addE, subE, ix0, ix1, dropS, asgG, tupG, consG, nameG, nilG, lstD, andD, orD, tstD, ownS, appS, len_tup, len_lst, tup_tup, wipeE, set1, set2, typ_int, typ_tup, typ_non, typ_lst, isF, chainD, asT, truD, len_row, typ_row, E], ?_⟩
      obtain ⟨f, M2, k1, rfl, b6, b7, b8, rfl⟩ := turn w h a4 a5 a6 a7 a8 M' hw hh lo
      exact ⟨_, _, k1, _, .inl rfl, rfl, _, _, _, _, _, rfl⟩
    simp only [items, List.mem_cons, List.not_mem_nil, or_false] at dm
    rcases dm with hde | hde
    · exact go _ _ (by omega) (by omega) p2 hde
    · exact go _ _ (by omega) (by omega) p3 hde
  · obtain ⟨rfl, a4, a5, a6, a7, a8, rfl⟩ := hi
    exact wp_of (.rt (.bl true)) (M' := M') (by simp [seqS, ifS, retS, raiseF, raiseS, consA, nilA, binD, callD, nameD, cD, bindE_v, thenS_v, bindE_x, thenS_x, unD, parS, asgS, tupD, int2F, eq_int, ne_int, intF0, negF, notF, nilS, brD, fnD, addE, subE, ix0, ix1, dropS, asgG, tupG, consG, nameG, nilG, lstD, andD, orD, tstD, ownS, appS, len_tup, len_lst, tup_tup, wipeE, set1, set2, typ_int, typ_tup, typ_non, typ_lst, isF, chainD, asT, truD, len_row, typ_row, E]) ⟨rfl, [], by simp⟩
end K63
namespace K63
open PySem L2 DL
def sx (l i j : Nat) : Nat := l % 2 + i + j
def sy (l i j : Nat) : Nat := l - 1 + i - j
def pW (f : Nat → Nat → Rat) (a b : Nat) (v : Rat) : Nat → Nat → Rat := fun x y => if x = a ∧ y = b then v else f x y
def pRow (l : Nat) (A : Mx) (r : Nat) (f : Nat → Nat → Rat) : Nat → Nat → Nat → Rat
  | 0 => f
  | c + 1 => pW (pRow l A r f c) (sx l r c) (sy l r c) (A r c)
def pTab (l : Nat) (A : Mx) : Nat → Nat → Nat → Rat
  | 0 => fun _ _ => 1
  | r + 1 => pRow l A r (pTab l A r) l
theorem pRow_is {l : Nat} {A : Mx} {r : Nat} {f : Nat → Nat → Rat} (hr : r < l) (hf : ∀ x y, f x y = 1 ∨ ∃ i j, i < l ∧ j < l ∧ f x y = A i j) : ∀ c, c ≤ l → ∀ x y, pRow l A r f c x y = 1 ∨ ∃ i j, i < l ∧ j < l ∧ pRow l A r f c x y = A i j
  | 0, _, x, y => hf x y
  | c + 1, h, x, y => by
    show pW (pRow l A r f c) (sx l r c) (sy l r c) (A r c) x y = 1 ∨ ∃ i j, i < l ∧ j < l ∧ pW (pRow l A r f c) (sx l r c) (sy l r c) (A r c) x y = A i j
    unfold pW
    by_cases q : x = sx l r c ∧ y = sy l r c
    · rw [if_pos q]
      exact .inr ⟨r, c, hr, by omega, rfl⟩
    · rw [if_neg q]
      exact pRow_is hr hf c (by omega) x y
theorem pTab_is {l : Nat} {A : Mx} : ∀ r, r ≤ l → ∀ x y, pTab l A r x y = 1 ∨ ∃ i j, i < l ∧ j < l ∧ pTab l A r x y = A i j
  | 0, _, _, _ => .inl rfl
  | r + 1, h, x, y => pRow_is (by omega) (pTab_is r (by omega)) l (Nat.le_refl _) x y
theorem pRow_old {l : Nat} {A : Mx} {r i j : Nat} {f : Nat → Nat → Rat} (hi : i < l) (hj : j < l) (hr : r < l) (hne : i ≠ r) : ∀ c, c ≤ l → pRow l A r f c (sx l i j) (sy l i j) = f (sx l i j) (sy l i j)
  | 0, _ => rfl
  | c + 1, h => by
    show (if sx l i j = sx l r c ∧ sy l i j = sy l r c then A r c else pRow l A r f c (sx l i j) (sy l i j)) = _
    rw [if_neg (by unfold sx sy; omega)]
    exact pRow_old hi hj hr hne c (by omega)
theorem pRow_new {l : Nat} {A : Mx} {r j : Nat} {f : Nat → Nat → Rat} (hr : r < l) : ∀ c, c ≤ l → j < c → pRow l A r f c (sx l r j) (sy l r j) = A r j
  | c + 1, h, hj => by
    show (if sx l r j = sx l r c ∧ sy l r j = sy l r c then A r c else pRow l A r f c (sx l r j) (sy l r j)) = _
    by_cases q : j = c
    · rw [q, if_pos ⟨rfl, rfl⟩]
    · rw [if_neg (by unfold sx sy; omega)]
      exact pRow_new hr c (by omega) (by omega)
theorem pTab_at {l : Nat} {A : Mx} {i j : Nat} (hi : i < l) (hj : j < l) : ∀ r, r ≤ l → i < r → pTab l A r (sx l i j) (sy l i j) = A i j
  | r + 1, h, hir => by
    by_cases q : i = r
    · subst q
      exact pRow_new hi l (Nat.le_refl _) hj
    · show pRow l A r (pTab l A r) l (sx l i j) (sy l i j) = _
      rw [pRow_old hi hj (by omega) q l (Nat.le_refl _)]
      exact pTab_at hi hj r (by omega) (by omega)
/-- rows as own lists, one behind another -/
structure Rws (M : Store) (w h wd : Nat) (B : Nat → Nat → Rat) : Prop where
  a : M[w]? = some (.lst ((List.range h).map fun y => D.loc (w + 1 + y)))
  r : ∀ y, y < h → M[w + 1 + y]? = some (.lst ((List.range wd).map fun x => qD (B x y)))
theorem Rws.put {M : Store} {w h wd a b : Nat} {B : Nat → Nat → Rat} {v : Rat} (rw' : Rws M w h wd B) (ha : a < wd) (hb : b < h) : Rws (M.set (w + 1 + b) (.lst (((List.range wd).map fun x => qD (B x b)).set a (qD v)))) w h wd (pW B a b v) := by
  refine ⟨?_, fun y hy => ?_⟩
  · rw [List.getElem?_set_ne (by omega)]
    exact rw'.a
  · by_cases q : y = b
    · subst q
      rw [List.getElem?_set_self (get_lt (rw'.r y hy)), map_set ha]
      refine congrArg (fun l => some (Ob.lst l)) (List.map_congr_left fun x _ => ?_)
      unfold pW
      by_cases c : x = a
      · rw [if_pos c, if_pos ⟨c, rfl⟩]
      · rw [if_neg c, if_neg (fun z => c z.1)]
    · rw [List.getElem?_set_ne (by omega), rw'.r y hy]
      refine congrArg (fun l => some (Ob.lst l)) (List.map_congr_left fun x _ => ?_)
      unfold pW
      rw [if_neg (fun z => q z.2)]
section
variable {i1 i2 i3 i4 i5 i6 : Nat}
def Keep (is : List Nat) (e e' : DL.Env) : Prop := e'.length = e.length ∧ ∀ k, k ∉ is → e'[k]? = e[k]?
theorem Keep.refl {is : List Nat} {e : DL.Env} : Keep is e e := ⟨rfl, fun _ _ => rfl⟩
theorem Keep.trans {is : List Nat} {e e1 e2 : DL.Env} (a : Keep is e e1) (b : Keep is e1 e2) : Keep is e e2 := ⟨b.1.trans a.1, fun k h => (b.2 k h).trans (a.2 k h)⟩
theorem Keep.set {is : List Nat} {e e1 : DL.Env} {i : Nat} {d : Option D} (a : Keep is e e1) (h : i ∈ is) : Keep is e (e1.set i d) := ⟨by rw [List.length_set]; exact a.1, fun k hk => by
  rw [List.getElem?_set_ne (fun (z : i = k) => hk (by rw [← z]; exact h))]
  exact a.2 k hk⟩
abbrev spR (l r : Nat) : Nat → D := fun c => .tup [.int (sx l r c : Nat), .int (sy l r c : Nat)]
theorem put_row {e : DL.Env} {M M0 : Store} {w h wd l r : Nat} {A : Mx} {B : Nat → Nat → Rat} (d1 : i1 ≠ i2) (d2 : i1 ≠ i3) (d3 : i2 ≠ i3) (d6 : i6 ∉ [i1, i2, i3]) (l1 : i1 < e.length) (l2 : i2 < e.length) (l3 : i3 < e.length)
    (h4 : e[i4]? = some (some (rowD l (spR l r)))) (h5 : e[i5]? = some (some (rowD l fun c => qD (A r c)))) (h6 : e[i6]? = some (some (.loc w))) (rs : Rws M w h wd B) (hr : r < l) (hl : l ≤ 6) (bx : ∀ c, c < l → sx l r c < wd) (by' : ∀ c, c < l → sy l r c < h) (m : M.take M0.length = M0) (hw : M0.length ≤ w) :
    Wp (forI (tupG 2 (consG (tupG 2 (consG (nameG i1) (consG (nameG i2) (nilG)))) (consG (nameG i3) (nilG)))) (zipD (consA (nameD i4) (consA (nameD i5) nilA))) (asgG (nameD i3) (subG (binD ixF (nameD i6) (nameD i2)) (nameD i1))) e M) (fun f M' => ∃ e', f = .nx e' ∧ Keep [i1, i2, i3] e e' ∧ Rws M' w h wd (pRow l A r B l) ∧ M'.take M0.length = M0) := by
  refine wp_for ((List.range l).map fun c => .tup [spR l r c, qD (A r c)]) (fun c e' M' => Keep [i1, i2, i3] e e' ∧ Rws M' w h wd (pRow l A r B c) ∧ M'.take M0.length = M0) (zip_rowsR (by
    unfold nameD
    rw [h4]) (by
    unfold nameD
    rw [h5])) (fun c d e' M' hd hi => ?_) (fun _ _ _ => trivial) ⟨Keep.refl, rs, m⟩ (fun e' M' hi => ?_)
  · obtain ⟨kp, rs', m'⟩ := hi
    obtain ⟨hc, rfl⟩ := map_getR hd
    have hx := bx c hc
    have hy := by' c hc
    obtain ⟨X, hX⟩ : ∃ z : Int, z = (sx l r c : Nat) := ⟨_, rfl⟩
    obtain ⟨Y, hY⟩ : ∃ z : Int, z = (sy l r c : Nat) := ⟨_, rfl⟩
    obtain ⟨V, hV⟩ : ∃ z, z = qD (A r c) := ⟨_, rfl⟩
    have el := kp.1
    have k2 : Keep [i1, i2, i3] e (((e'.set i1 (some (.int X))).set i2 (some (.int Y))).set i3 (some V)) := ((kp.set (by simp)).set (by simp)).set (by simp)
    obtain ⟨e2, he2⟩ : ∃ e2, e2 = (((e'.set i1 (some (.int X))).set i2 (some (.int Y))).set i3 (some V)) := ⟨_, rfl⟩
    have g1 : e2[i1]? = some (some (.int X)) := by
      rw [he2, List.getElem?_set_ne d2.symm, List.getElem?_set_ne d1.symm, List.getElem?_set_self (by omega)]
    have g2 : e2[i2]? = some (some (.int Y)) := by
      rw [he2, List.getElem?_set_ne d3.symm, List.getElem?_set_self (by rw [List.length_set]; omega)]
    have g3 : e2[i3]? = some (some V) := by
      rw [he2, List.getElem?_set_self (by rw [List.length_set, List.length_set]; omega)]
    rw [← he2] at k2
    have g6 : e2[i6]? = some (some (.loc w)) := (k2.2 _ d6).trans h6
    refine ⟨trivial, e2, M', ?_, ?_⟩
    · show tupG 2 _ (.tup [.tup [.int (sx l r c : Nat), .int (sy l r c : Nat)], qD (A r c)]) e' M' = _
      rw [← hX, ← hY, ← hV, he2]
      simp [tupG, consG, nilG, nameG]
    · have ev : nameD i3 e2 M' = ok V M' := by
        unfold nameD
        rw [g3]
      have eo : binD ixF (nameD i6) (nameD i2) e2 M' = ok (.loc (w + 1 + sy l r c)) M' := by
        have a1 : nameD i6 e2 M' = ok (.loc w) M' := by
          unfold nameD
          rw [g6]
        have a2 : nameD i2 e2 M' = ok (.int Y) M' := by
          unfold nameD
          rw [g2]
        rw [bin_v a1 a2, hY]
        exact ix_loc rs'.a (at_nat (get_mapR hy))
      have ei : nameD i1 e2 M' = ok (.int X) M' := by
        unfold nameD
        rw [g1]
      refine wp_of (.nx e2) ?_ ⟨_, .inl rfl, k2, rs'.put (v := A r c) hx hy, ?_⟩
      · unfold asgG
        rw [ev, thenS_v, ← hV]
        exact subG_at eo ei hX (rs'.r _ hy) (by simp; omega)
      · rw [List.take_set_of_le (by omega)]
        exact m'
  · obtain ⟨kp, rs', m'⟩ := hi
    rw [List.length_map, List.length_range] at rs'
    exact ⟨e', rfl, kp, rs', m'⟩
theorem put_all {e : DL.Env} {M M0 : Store} {w h wd l : Nat} {A : Mx} {di : DenI} {b : DenS} {P : Flw → Store → Prop} (d1 : i1 ≠ i2) (d2 : i1 ≠ i3) (d3 : i2 ≠ i3) (d45 : i4 ≠ i5) (d6 : i6 ∉ [i1, i2, i3, i4, i5]) (l1 : i1 < e.length) (l2 : i2 < e.length) (l3 : i3 < e.length) (l4 : i4 < e.length) (l5 : i5 < e.length)
    (hdi : di e M = ok ((List.range l).map fun r => .tup [rowD l (spR l r), rowD l fun c => qD (A r c)], fun _ => True) M) (h6 : e[i6]? = some (some (.loc w))) (rs : Rws M w h wd fun _ _ => 1) (hl : l ≤ 6) (bx : ∀ r c, r < l → c < l → sx l r c < wd) (by' : ∀ r c, r < l → c < l → sy l r c < h) (m : M.take M0.length = M0) (hw : M0.length ≤ w)
    (k : ∀ e' M', Keep [i1, i2, i3, i4, i5] e e' → Rws M' w h wd (pTab l A l) → M'.take M0.length = M0 → Wp (b e' M') P) :
    Wp (seqS (forI (tupG 2 (consG (nameG i4) (consG (nameG i5) (nilG)))) di (forI (tupG 2 (consG (tupG 2 (consG (nameG i1) (consG (nameG i2) (nilG)))) (consG (nameG i3) (nilG)))) (zipD (consA (nameD i4) (consA (nameD i5) nilA))) (asgG (nameD i3) (subG (binD ixF (nameD i6) (nameD i2)) (nameD i1))))) b e M) P := by
  refine wp_for_nx _ (fun r e' M' => Keep [i1, i2, i3, i4, i5] e e' ∧ Rws M' w h wd (pTab l A r) ∧ M'.take M0.length = M0) hdi (fun r d e' M' hd hi => ?_) (fun _ _ _ => trivial) ⟨Keep.refl, rs, m⟩ (fun e' M' hi => ?_)
  · obtain ⟨kp, rs', m'⟩ := hi
    obtain ⟨hr, rfl⟩ := map_getR hd
    have el := kp.1
    obtain ⟨RA, hRA⟩ : ∃ z, z = rowD l (spR l r) := ⟨_, rfl⟩
    obtain ⟨RB, hRB⟩ : ∃ z, z = rowD l fun c => qD (A r c) := ⟨_, rfl⟩
    have k2 : Keep [i1, i2, i3, i4, i5] e ((e'.set i4 (some RA)).set i5 (some RB)) := (kp.set (by simp)).set (by simp)
    have g4 : ((e'.set i4 (some RA)).set i5 (some RB))[i4]? = some (some RA) := by
      rw [List.getElem?_set_ne d45.symm, List.getElem?_set_self (by omega)]
    have g5 : ((e'.set i4 (some RA)).set i5 (some RB))[i5]? = some (some RB) := List.getElem?_set_self (by rw [List.length_set]; omega)
    have g6 : ((e'.set i4 (some RA)).set i5 (some RB))[i6]? = some (some (.loc w)) := (k2.2 _ d6).trans h6
    have pr := put_row (i1 := i1) (i2 := i2) (i3 := i3) (i4 := i4) (i5 := i5) (i6 := i6) (e := (e'.set i4 (some RA)).set i5 (some RB)) (M0 := M0) (A := A) (r := r) (l := l) d1 d2 d3 (fun z => d6 (by simp at z ⊢; omega)) (by rw [k2.1]; exact l1) (by rw [k2.1]; exact l2) (by rw [k2.1]; exact l3) (by rw [g4, hRA]) (by rw [g5, hRB]) g6 rs' hr hl (bx r · hr) (by' r · hr) m' hw
    obtain ⟨f, M2, q1, e3, rfl, kp3, rs3, m3⟩ := pr
    refine ⟨trivial, (e'.set i4 (some RA)).set i5 (some RB), M', ?_, .nx e3, M2, q1, e3, .inl rfl, ?_, rs3, m3⟩
    · rw [hRA, hRB]
      simp [tupG, consG, nilG, nameG]
    · refine k2.trans ⟨kp3.1, fun k hk => kp3.2 k fun z => hk ?_⟩
      simp at z ⊢
      omega
  · obtain ⟨kp, rs', m'⟩ := hi
    rw [List.length_map, List.length_range] at rs'
    exact k e' M' kp rs' m'
/-- the rows told as a table -/
theorem tab_of {e : DL.Env} {M : Store} {w h wd i : Nat} {B : Nat → Nat → Rat} (rs : Rws M w h wd B) (he : e[i6]? = some (some (.loc w))) (hi : i < e.length) (hh : h ≤ 100) (hwd : wd ≤ 100) :
    callD tupcF (consA (cutE (compD (set1 i) (cD (.bl true)) (callD tupcF (consA (nameD i) nilA)) [i] (itD (nameD i6)))) nilA) e M = ok (tabD wd h fun x y => qD (B x y)) M := by
  have hc := compC_at (M := M) (set := set1 i) (vs := [i]) (dt := cD (.bl true)) (de := callD tupcF (consA (nameD i) nilA)) (di := itD (nameD i6)) (e := e) (chk := fun M' => M'[w]? = some (.lst ((List.range h).map fun y => D.loc (w + 1 + y)))) (g := fun y => D.loc (w + 1 + y)) (f := fun y => rowD wd fun x => qD (B x y)) (p := fun _ => true) (List.range h) (by
    unfold itD nameD
    rw [he]
    show itemsF (.loc w) M = _
    unfold itemsF
    dsimp only
    rw [rs.a]) (fun acc => by
    rw [List.getElem?_append_left (get_lt rs.a)]
    exact rs.a) (by simp; omega) (fun y hy => ⟨e.set i (some (.loc (w + 1 + y))), by
      show some ((e.set i none).set i _) = _
      rw [List.set_set], fun _ => rfl, fun _ acc => ?_⟩) (fun _ _ => nl_mono _ _ (nl_row fun _ _ => rfl))
  · rw [List.filter_eq_self.mpr (fun _ _ => rfl)] at hc
    show bindE (bindE (cutE _ e M) fun d M1 => bindE (ok [] M1) fun ds M2 => ok (d :: ds) M2) tupcF = _
    rw [hc]
    exact tup_row (by omega)
  · have hy' := List.mem_range.mp hy
    have g : (e.set i (some (D.loc (w + 1 + y))))[i]? = some (some (.loc (w + 1 + y))) := List.getElem?_set_self hi
    have t := tup_loc (M := M ++ [Ob.lst acc]) (n := w + 1 + y) (by
      rw [List.getElem?_append_left (get_lt (rs.r y hy'))]
      exact rs.r y hy') (by simp; omega)
    show bindE (bindE (nameD i (e.set i (some (.loc (w + 1 + y)))) (M ++ [Ob.lst acc])) fun d M1 => bindE (ok [] M1) fun ds M2 => ok (d :: ds) M2) tupcF = _
    unfold nameD
    rw [g]
    exact t
end
end K63
namespace K63
open PySem L2 DL
abbrev aimD (l : Nat) : D := .tup [.int (fx l : Nat), .int (fy l : Nat), .int (l : Int)]
abbrev sqD' (l : Nat) : D := rowD l fun r => rowD l (spR l r)
theorem nl_sq {l : Nat} : nlD 0 (sqD' l) = true := nl_row fun _ _ => nl_row fun _ _ => rfl
theorem square_ok {l : Nat} (h1 : 1 ≤ l) (h6 : l ≤ 6) (M : Store) : m_square_of [aimD l] M = ok (sqD' l) M := by
  obtain ⟨L, hL⟩ : ∃ z : Int, z = (l : Int) := ⟨_, rfl⟩
  obtain ⟨X, hX⟩ : ∃ z : Int, z = ((fx l : Nat) : Int) := ⟨_, rfl⟩
  obtain ⟨Y, hY⟩ : ∃ z : Int, z = ((fy l : Nat) : Int) := ⟨_, rfl⟩
  have e3 : X = L - 1 + L % 2 := by rw [hX]; unfold fx; omega
  have e4 : Y = L - 1 := by rw [hY]; unfold fy; omega
  show m_square_of [.tup [.int ((fx l : Nat) : Int), .int ((fy l : Nat) : Int), .int (l : Int)]] M = _
  rw [← hX, ← hY, ← hL]
  refine fv_rt0 (e0 := [some (.tup [.int X, .int Y, .int L]), none, none, none, none, none]) rfl ?_ nl_sq
  unfold den_square_of
  rw [seq_nx (e' := [some (.tup [.int X, .int Y, .int L]), some (.int X), some (.int Y), some (.int L), none, none]) (M' := M) (by simp [seqS, ifS, retS, raiseF, raiseS, consA, nilA, binD, callD, nameD, cD, bindE_v, thenS_v, bindE_x, thenS_x, unD, parS, asgS, tupD, int2F, eq_int, ne_int, intF0, negF, notF, nilS, brD, fnD, addE, subE, ix0, ix1, dropS, asgG, tupG, consG, nameG, nilG, lstD, andD, orD, tstD, ownS, appS, len_tup, len_lst, tup_tup, wipeE, set1, set2, typ_int, typ_tup, typ_non, typ_lst, isF, chainD, asT, truD, len_row, typ_row])]
  have t := tupcompR (n := l) (f := fun r => rowD l (spR l r)) (g := fun i => D.int (i : Int)) (i := 4) (e := [some (.tup [.int X, .int Y, .int L]), some (.int X), some (.int Y), some (.int L), none, none]) (de := callD (tupcF) (consA (cutE (compD (set1 5) (cD (.bl true)) (tupD (consA (binD addF (binD subF (binD addF (binD addF (nameD 1) (nameD 4)) (nameD 5)) (nameD 3)) (cD (.int 1))) (consA (binD subF (binD addF (nameD 2) (nameD 4)) (nameD 5)) (nilA)))) [5] (rng1 (consA (nameD 3) (nilA))))) (nilA))) (di := rng1 (consA (nameD 3) nilA)) (fun M => it_r1 (by show ok (D.int L) _ = _; rw [hL]) (by omega)) (by omega) (fun i hi M => ?_) (fun _ _ => nl_row fun _ _ => rfl) M
  · show retS _ _ M = _
    unfold retS
    rw [t]
    rfl
  · obtain ⟨I, hI⟩ : ∃ z : Int, z = (i : Int) := ⟨_, rfl⟩
    rw [← hI]
    exact tupcompR (n := l) (f := spR l i) (g := fun j => D.int (j : Int)) (i := 5) (e := [some (.tup [.int X, .int Y, .int L]), some (.int X), some (.int Y), some (.int L), some (.int I), none]) (de := tupD (consA (binD addF (binD subF (binD addF (binD addF (nameD 1) (nameD 4)) (nameD 5)) (nameD 3)) (cD (.int 1))) (consA (binD subF (binD addF (nameD 2) (nameD 4)) (nameD 5)) (nilA)))) (di := rng1 (consA (nameD 3) nilA)) (fun M => it_r1 (by show ok (D.int L) _ = _; rw [hL]) (by omega)) (by omega) (fun j hj M => by
      obtain ⟨J, hJ⟩ : ∃ z : Int, z = (j : Int) := ⟨_, rfl⟩
      have q1 : ((sx l i j : Nat) : Int) = X + I + J - L + 1 := by unfold sx; omega
      have q2 : ((sy l i j : Nat) : Int) = Y + I - J := by unfold sy; omega
      show _ = ok (D.tup [.int ((sx l i j : Nat) : Int), .int ((sy l i j : Nat) : Int)]) M
      rw [q1, q2, ← hJ]
      simp [seqS, ifS, retS, raiseF, raiseS, consA, nilA, binD, callD, nameD, cD, bindE_v, thenS_v, bindE_x, thenS_x, unD, parS, asgS, tupD, int2F, eq_int, ne_int, intF0, negF, notF, nilS, brD, fnD, addE, subE, ix0, ix1, dropS, asgG, tupG, consG, nameG, nilG, lstD, andD, orD, tstD, ownS, appS, len_tup, len_lst, tup_tup, wipeE, set1, set2, typ_int, typ_tup, typ_non, typ_lst, isF, chainD, asT, truD, len_row, typ_row]) (fun _ _ => rfl) M
theorem law_square_ok {l : Nat} (h1 : 1 ≤ l) (h6 : l ≤ 6) (M : Store) : m__law_square [aimD l, .int 0] M = ok (sqD' l) M := by
  obtain ⟨L, hL⟩ : ∃ z : Int, z = (l : Int) := ⟨_, rfl⟩
  obtain ⟨X, hX⟩ : ∃ z : Int, z = ((fx l : Nat) : Int) := ⟨_, rfl⟩
  obtain ⟨Y, hY⟩ : ∃ z : Int, z = ((fy l : Nat) : Int) := ⟨_, rfl⟩
  have e3 : X = L - 1 + L % 2 := by rw [hX]; unfold fx; omega
  have e4 : Y = L - 1 := by rw [hY]; unfold fy; omega
  show m__law_square [.tup [.int ((fx l : Nat) : Int), .int ((fy l : Nat) : Int), .int (l : Int)], .int 0] M = _
  rw [← hX, ← hY, ← hL]
  let E : Option D → Option D → DL.Env := fun a6 a7 => [some (.tup [.int X, .int Y, .int L]), some (.int 0), some (.int X), some (.int Y), some (.int L), some (.loc M.length), a6, a7]
  refine fv_wp (e0 := [some (.tup [.int X, .int Y, .int L]), some (.int 0), none, none, none, none, none, none]) rfl ?_ nl_sq
  unfold den__law_square
  refine wp_nx (e' := E none none) (M' := M ++ [.lst []]) (by simp [seqS, ifS, retS, raiseF, raiseS, consA, nilA, binD, callD, nameD, cD, bindE_v, thenS_v, bindE_x, thenS_x, unD, parS, asgS, tupD, int2F, eq_int, ne_int, intF0, negF, notF, nilS, brD, fnD, addE, subE, ix0, ix1, dropS, asgG, tupG, consG, nameG, nilG, lstD, andD, orD, tstD, ownS, appS, len_tup, len_lst, tup_tup, wipeE, set1, set2, typ_int, typ_tup, typ_non, typ_lst, isF, chainD, asT, truD, len_row, typ_row, lstOD, E]) ?_
  refine wp_for_nx ((List.range l).map fun (i : Nat) => D.int (i : Int)) (fun r e M' => ∃ a6 a7, e = E a6 a7 ∧ M' = M ++ [.lst ((List.range r).map fun r => rowD l (spR l r))]) (it_r1 (by
    rw [show (l : Int) = L - 0 by omega]
    generalize M ++ [Ob.lst []] = Mx
    simp [seqS, ifS, retS, raiseF, raiseS, consA, nilA, binD, callD, nameD, cD, bindE_v, thenS_v, bindE_x, thenS_x, unD, parS, asgS, tupD, int2F, eq_int, ne_int, intF0, negF, notF, nilS, brD, fnD, addE, subE, ix0, ix1, dropS, asgG, tupG, consG, nameG, nilG, lstD, andD, orD, tstD, ownS, appS, len_tup, len_lst, tup_tup, wipeE, set1, set2, typ_int, typ_tup, typ_non, typ_lst, isF, chainD, asT, truD, len_row, typ_row, E]) (by omega)) (fun r d e M' hd hi => ?_) (fun _ _ _ => trivial) ⟨_, _, rfl, rfl⟩ (fun e' M' hi => ?_)
  · obtain ⟨a6, a7, rfl, rfl⟩ := hi
    obtain ⟨hr, rfl⟩ := map_getR hd
    obtain ⟨I, hI⟩ : ∃ z : Int, z = (r : Int) := ⟨_, rfl⟩
    obtain ⟨M1, hM1⟩ : ∃ x, x = (M ++ [Ob.lst ((List.range r).map fun r => rowD l (spR l r))]) := ⟨_, rfl⟩
    have g1 : M1[M.length]? = some (.lst ((List.range r).map fun r => rowD l (spR l r))) := by
      rw [hM1]
      exact get_mid
    rw [← hM1, ← hI]
    refine ⟨trivial, E (some (.int I)) a7, M1, by simp [seqS, ifS, retS, raiseF, raiseS, consA, nilA, binD, callD, nameD, cD, bindE_v, thenS_v, bindE_x, thenS_x, unD, parS, asgS, tupD, int2F, eq_int, ne_int, intF0, negF, notF, nilS, brD, fnD, addE, subE, ix0, ix1, dropS, asgG, tupG, consG, nameG, nilG, lstD, andD, orD, tstD, ownS, appS, len_tup, len_lst, tup_tup, wipeE, set1, set2, typ_int, typ_tup, typ_non, typ_lst, isF, chainD, asT, truD, len_row, typ_row, E], ?_⟩
    refine wp_of _ (app_ok (n := M.length) (d := rowD l (spR l r)) rfl (tupcompR (n := l) (f := spR l r) (g := fun j => D.int (j : Int)) (i := 7) (e := E (some (.int I)) a7) (de := tupD (consA (binD addF (binD addF (binD subF (binD addF (binD addF (nameD 2) (nameD 6)) (nameD 7)) (nameD 4)) (cD (.int 1))) (nameD 1)) (consA (binD subF (binD addF (nameD 3) (nameD 6)) (nameD 7)) (nilA)))) (di := rng1 (consA (binD subF (nameD 4) (nameD 1)) nilA)) (fun M => it_r1 (by
      rw [show (l : Int) = L - 0 by omega]
      simp [seqS, ifS, retS, raiseF, raiseS, consA, nilA, binD, callD, nameD, cD, bindE_v, thenS_v, bindE_x, thenS_x, unD, parS, asgS, tupD, int2F, eq_int, ne_int, intF0, negF, notF, nilS, brD, fnD, addE, subE, ix0, ix1, dropS, asgG, tupG, consG, nameG, nilG, lstD, andD, orD, tstD, ownS, appS, len_tup, len_lst, tup_tup, wipeE, set1, set2, typ_int, typ_tup, typ_non, typ_lst, isF, chainD, asT, truD, len_row, typ_row, E]) (by omega)) (by omega) (fun j hj M => by
      obtain ⟨J, hJ⟩ : ∃ z : Int, z = (j : Int) := ⟨_, rfl⟩
      have q1 : ((sx l r j : Nat) : Int) = X + I + J - L + 1 := by unfold sx; omega
      have q2 : ((sy l r j : Nat) : Int) = Y + I - J := by unfold sy; omega
      show _ = ok (D.tup [.int ((sx l r j : Nat) : Int), .int ((sy l r j : Nat) : Int)]) M
      rw [q1, q2, ← hJ]
      simp [seqS, ifS, retS, raiseF, raiseS, consA, nilA, binD, callD, nameD, cD, bindE_v, thenS_v, bindE_x, thenS_x, unD, parS, asgS, tupD, int2F, eq_int, ne_int, intF0, negF, notF, nilS, brD, fnD, addE, subE, ix0, ix1, dropS, asgG, tupG, consG, nameG, nilG, lstD, andD, orD, tstD, ownS, appS, len_tup, len_lst, tup_tup, wipeE, set1, set2, typ_int, typ_tup, typ_non, typ_lst, isF, chainD, asT, truD, len_row, typ_row, E]) (fun _ _ => rfl) M1) g1 (by simp; omega)) ⟨_, .inl rfl, _, _, rfl, ?_⟩
    rw [hM1, set_mid, show (rowD l (spR l r)) = (fun r => rowD l (spR l r)) r from rfl, range_snoc]
  · obtain ⟨a6, a7, rfl, rfl⟩ := hi
    (rw [List.length_map, List.length_range])
    have t := tup_loc (M := M ++ [.lst ((List.range l).map fun r => rowD l (spR l r))]) (n := M.length) get_mid (by simp; omega)
    refine wp_of (.rt (sqD' l)) (M' := M ++ [.lst ((List.range l).map fun r => rowD l (spR l r))]) ?_ ⟨rfl, _, rfl⟩
    simp [seqS, ifS, retS, raiseF, raiseS, consA, nilA, binD, callD, nameD, cD, bindE_v, thenS_v, bindE_x, thenS_x, unD, parS, asgS, tupD, int2F, eq_int, ne_int, intF0, negF, notF, nilS, brD, fnD, addE, subE, ix0, ix1, dropS, asgG, tupG, consG, nameG, nilG, lstD, andD, orD, tstD, ownS, appS, len_tup, len_lst, tup_tup, wipeE, set1, set2, typ_int, typ_tup, typ_non, typ_lst, isF, chainD, asT, truD, len_row, typ_row, t, E]
    rfl
theorem app_gt {M X : Store} {i : Nat} {o : Ob} (h : M[i]? = some o) : (M ++ X)[i]? = some o := by
  rw [List.getElem?_append_left (get_lt h)]
  exact h
abbrev wTab (l : Nat) (A : Mx) : D := tabD (fw l) (fh l) fun x y => qD (pTab l A l x y)
abbrev dueD (l : Nat) (A : Mx) : D := .tup [tabD (fw l) (fh l) (hD flatH), wTab l A]
theorem nl_due {l : Nat} {A : Mx} : nlD 0 (dueD l A) = true := by
  show (nlD 0 (tabD (fw l) (fh l) (hD flatH)) && (nlD 0 (wTab l A) && true)) = true
  rw [nl_tab fun _ _ => rfl, show nlD 0 (wTab l A) = true from nl_row fun _ _ => nl_row fun _ _ => rfl]
  rfl
theorem sq_lt {l r c : Nat} (h1 : 1 ≤ l) (hr : r < l) (hc : c < l) : sx l r c < fw l ∧ sy l r c < fh l := by
  unfold sx sy fw fh
  omega
theorem framed_ok {l : Nat} {A : Mx} (h1 : 1 ≤ l) (h6 : l ≤ 6) (M : Store) : m__law_framed [gridD l A] M = ok (dueD l A) M := by
  obtain ⟨L, hL⟩ : ∃ z : Int, z = (l : Int) := ⟨_, rfl⟩
  obtain ⟨W, hW⟩ : ∃ z : Int, z = ((fw l : Nat) : Int) := ⟨_, rfl⟩
  obtain ⟨H, hH⟩ : ∃ z : Int, z = ((fh l : Nat) : Int) := ⟨_, rfl⟩
  obtain ⟨X, hX⟩ : ∃ z : Int, z = ((fx l : Nat) : Int) := ⟨_, rfl⟩
  obtain ⟨Y, hY⟩ : ∃ z : Int, z = ((fy l : Nat) : Int) := ⟨_, rfl⟩
  have e1 : W = 2 * L - 1 + L % 2 := by rw [hW]; unfold fw; omega
  have e2 : 2 * L - 1 = H := by rw [hH]; unfold fh; omega
  have e1' : H + L % 2 = W := by omega
  have e4 : L - 1 = Y := by rw [hY]; unfold fy; omega
  have e3' : Y + L % 2 = X := by rw [hX, hY]; unfold fx fy; omega
  have b1 : fw l ≤ 12 := by unfold fw; omega
  have b2 : fh l ≤ 11 := by unfold fh; omega
  have m1 : ∀ M, mulF (.int 2) (.int L) M = ok (.int (2 * L)) M := fun M => mulB (k := 2) (l := 4) (by unfold Bd; decide) (by unfold Bd; omega) (by decide)
  have f1 : ∀ M, fmodF (.int L) (.int 2) M = ok (.int (L % 2)) M := fun M => fmd (by decide)
  have fl := fun M => law_flat_ok (w := fw l) (h := fh l) (by omega) (by omega) M
  rw [← hW, ← hH] at fl
  have sq : ∀ M, m__law_square [.tup [.int X, .int Y, .int L], .int 0] M = ok (sqD' l) M := fun M => by
    rw [hX, hY, hL]
    exact law_square_ok h1 h6 M
  have ln : ∀ M, lenF [gridD l A] M = ok (.int L) M := fun M => by rw [hL]; exact len_row
  obtain ⟨G, hG⟩ : ∃ G, G = gridD l A := ⟨_, rfl⟩
  obtain ⟨S, hS⟩ : ∃ G, G = sqD' l := ⟨_, rfl⟩
  rw [← hG] at ln ⊢
  rw [← hS] at sq
  let rows : Nat → Store := fun y => M ++ .lst ((List.range y).map fun k => D.loc (M.length + 1 + k)) :: ((List.range y).map fun _ => Ob.lst (List.replicate (fw l) (qD 1)))
  have lr : ∀ y, (rows y).length = M.length + 1 + y := fun y => by
    simp [rows]
    omega
  have key : Wp (den__law_framed [some G, none, none, none, none, none, none, none, none, none, none] M) (fun f M' => f = .rt (dueD l A) ∧ ∃ X, M' = M ++ X) := by
    unfold den__law_framed
    refine wp_nx (e' := [some G, some (.int L), none, none, none, none, none, none, none, none, none]) (M' := M) (by simp [seqS, ifS, retS, raiseF, raiseS, consA, nilA, binD, callD, nameD, cD, bindE_v, thenS_v, bindE_x, thenS_x, unD, parS, asgS, tupD, int2F, eq_int, ne_int, intF0, negF, notF, nilS, brD, fnD, addE, subE, ix0, ix1, dropS, asgG, tupG, consG, nameG, nilG, lstD, andD, orD, tstD, ownS, appS, len_tup, len_lst, tup_tup, wipeE, set1, set2, typ_int, typ_tup, typ_non, typ_lst, isF, chainD, asT, truD, len_row, typ_row, ln]) ?_
    refine wp_nx (e' := [some G, some (.int L), some (.int W), some (.int H), none, none, none, none, none, none, none]) (M' := M) (by simp [seqS, ifS, retS, raiseF, raiseS, consA, nilA, binD, callD, nameD, cD, bindE_v, thenS_v, bindE_x, thenS_x, unD, parS, asgS, tupD, int2F, eq_int, ne_int, intF0, negF, notF, nilS, brD, fnD, addE, subE, ix0, ix1, dropS, asgG, tupG, consG, nameG, nilG, lstD, andD, orD, tstD, ownS, appS, len_tup, len_lst, tup_tup, wipeE, set1, set2, typ_int, typ_tup, typ_non, typ_lst, isF, chainD, asT, truD, len_row, typ_row, m1, f1, e2, e1']) ?_
    refine wp_nx (e' := [some G, some (.int L), some (.int W), some (.int H), some (.loc M.length), none, none, none, none, none, none]) (M' := M ++ [.lst []]) (by simp [seqS, ifS, retS, raiseF, raiseS, consA, nilA, binD, callD, nameD, cD, bindE_v, thenS_v, bindE_x, thenS_x, unD, parS, asgS, tupD, int2F, eq_int, ne_int, intF0, negF, notF, nilS, brD, fnD, addE, subE, ix0, ix1, dropS, asgG, tupG, consG, nameG, nilG, lstD, andD, orD, tstD, ownS, appS, len_tup, len_lst, tup_tup, wipeE, set1, set2, typ_int, typ_tup, typ_non, typ_lst, isF, chainD, asT, truD, len_row, typ_row]) ?_
    refine wp_for_nx ((List.range (fh l)).map fun (i : Nat) => D.int (i : Int)) (fun y e M' => ∃ a5, e = [some G, some (.int L), some (.int W), some (.int H), some (.loc M.length), a5, none, none, none, none, none] ∧ M' = rows y) (it_r1 (by show ok (D.int H) _ = _; rw [hH]) (by omega)) (fun y d e M' hd hi => ?_) (fun _ _ _ => trivial) ⟨_, rfl, rfl⟩ (fun e' M' hi => ?_)
    · obtain ⟨a5, rfl, rfl⟩ := hi
      obtain ⟨hy, rfl⟩ := map_getR hd
      have g1 : (rows y)[M.length]? = some (.lst ((List.range y).map fun k => D.loc (M.length + 1 + k))) := get_mid
      have mo : ∀ M, mulOwnF (.lst [.tup [.int 1, .int 1]]) (.int W) M = ok (.loc M.length) (M ++ [.lst (List.replicate (fw l) (qD 1))]) := fun M => by
        rw [hW]
        exact mulOwn_v (by omega)
      have st := app_ok2 (dob := nameD 4) (da := binD mulOwnF (lstD (consA (tupD (consA (cD (.int 1)) (consA (cD (.int 1)) (nilA)))) (nilA))) (nameD 2)) (e := [some G, some (.int L), some (.int W), some (.int H), some (.loc M.length), some (.int (y : Int)), none, none, none, none, none]) (M := rows y) (n := M.length) rfl (show _ = ok (.loc (rows y).length) (rows y ++ [.lst (List.replicate (fw l) (qD 1))]) by
        generalize rows y = Mx
        generalize (y : Int) = yi
        simp [seqS, ifS, retS, raiseF, raiseS, consA, nilA, binD, callD, nameD, cD, bindE_v, thenS_v, bindE_x, thenS_x, unD, parS, asgS, tupD, int2F, eq_int, ne_int, intF0, negF, notF, nilS, brD, fnD, addE, subE, ix0, ix1, dropS, asgG, tupG, consG, nameG, nilG, lstD, andD, orD, tstD, ownS, appS, len_tup, len_lst, tup_tup, wipeE, set1, set2, typ_int, typ_tup, typ_non, typ_lst, isF, chainD, asT, truD, len_row, typ_row, mo]) (app_gt g1) (by simp; omega) (isL_at g1)
      refine ⟨trivial, _, rows y, rfl, wp_of _ st ⟨_, .inl rfl, _, rfl, ?_⟩⟩
      rw [lr]
      show (M ++ _ :: _ ++ [_]).set M.length _ = M ++ _ :: _
      rw [List.append_assoc, List.cons_append, set_mid, show (D.loc (M.length + 1 + y)) = (fun k => D.loc (M.length + 1 + k)) y from rfl, range_snoc]
      rw [List.range_succ, List.map_append, List.map_append]
      rfl
    · obtain ⟨a5, rfl, rfl⟩ := hi
      (rw [List.length_map, List.length_range])
      have rs : Rws (rows (fh l)) M.length (fh l) (fw l) fun _ _ => 1 := by
        refine ⟨get_mid, fun y hy => ?_⟩
        show (M ++ _ :: _)[M.length + 1 + y]? = _
        rw [List.getElem?_append_right (by omega), show M.length + 1 + y - M.length = y + 1 by omega, List.getElem?_cons_succ, get_mapR hy, List.map_const', List.length_range]
      have tk : (rows (fh l)).take M.length = M := by
        show (M ++ _).take M.length = M
        exact List.take_left' rfl
      obtain ⟨M1, hM1⟩ : ∃ x, x = rows (fh l) := ⟨_, rfl⟩
      rw [← hM1] at rs tk ⊢
      refine wp_nx (e' := [some G, some (.int L), some (.int W), some (.int H), some (.loc M.length), a5, some S, none, none, none, none]) (M' := M1) (by simp [seqS, ifS, retS, raiseF, raiseS, consA, nilA, binD, callD, nameD, cD, bindE_v, thenS_v, bindE_x, thenS_x, unD, parS, asgS, tupD, int2F, eq_int, ne_int, intF0, negF, notF, nilS, brD, fnD, addE, subE, ix0, ix1, dropS, asgG, tupG, consG, nameG, nilG, lstD, andD, orD, tstD, ownS, appS, len_tup, len_lst, tup_tup, wipeE, set1, set2, typ_int, typ_tup, typ_non, typ_lst, isF, chainD, asT, truD, len_row, typ_row, e4, f1, e3', sq]) ?_
      refine put_all (i1 := 9) (i2 := 5) (i3 := 10) (i4 := 7) (i5 := 8) (i6 := 4) (l := l) (A := A) (M0 := M) (w := M.length) (h := fh l) (wd := fw l) (by decide) (by decide) (by decide) (by decide) (by decide) (by simp) (by simp) (by simp) (by simp) (by simp) (zip_rowsR (by rw [hS]; rfl) (by rw [hG]; rfl)) rfl rs h6 (fun r c hr hc => (sq_lt h1 hr hc).1) (fun r c hr hc => (sq_lt h1 hr hc).2) tk (Nat.le_refl _) (fun e' M2 kp rs2 tk2 => ?_)
      have g2 : e'[2]? = some (some (.int W)) := kp.2 2 (by decide)
      have g3 : e'[3]? = some (some (.int H)) := kp.2 3 (by decide)
      have g4 : e'[4]? = some (some (.loc M.length)) := kp.2 4 (by decide)
      have el : e'.length = 11 := kp.1
      have tb := tab_of (i6 := 4) (e := e') (i := 8) rs2 g4 (by omega) (by omega) (by omega)
      refine wp_of (.rt (dueD l A)) (M' := M2) ?_ ⟨rfl, M2.drop M.length, by
        have q := (List.take_append_drop M.length M2).symm
        rw [tk2] at q
        exact q⟩
      have ev : callD tupcF (consA (cutE (compD (set1 8) (cD (.bl true)) (callD (tupcF) (consA (nameD 8) (nilA))) [8] (itD (nameD 4)))) (nilA)) e' M2 = ok (wTab l A) M2 := tb
      unfold retS
      have ev2 : tupD (consA (fnD m__law_flat 2 [] (consA (nameD 2) (consA (nameD 3) (nilA)))) (consA (callD (tupcF) (consA (cutE (compD (set1 8) (cD (.bl true)) (callD (tupcF) (consA (nameD 8) (nilA))) [8] (itD (nameD 4)))) (nilA))) (nilA))) e' M2 = ok (dueD l A) M2 := by
        have a1 : fnD m__law_flat 2 [] (consA (nameD 2) (consA (nameD 3) (nilA))) e' M2 = ok (tabD (fw l) (fh l) (hD flatH)) M2 := by
          generalize tabD (fw l) (fh l) (hD flatH) = T at *
          simp [seqS, ifS, retS, raiseF, raiseS, consA, nilA, binD, callD, nameD, cD, bindE_v, thenS_v, bindE_x, thenS_x, unD, parS, asgS, tupD, int2F, eq_int, ne_int, intF0, negF, notF, nilS, brD, fnD, addE, subE, ix0, ix1, dropS, asgG, tupG, consG, nameG, nilG, lstD, andD, orD, tstD, ownS, appS, len_tup, len_lst, tup_tup, wipeE, set1, set2, typ_int, typ_tup, typ_non, typ_lst, isF, chainD, asT, truD, len_row, typ_row, g2, g3, fl]
        unfold tupD
        show bindE (bindE (fnD m__law_flat 2 [] (consA (nameD 2) (consA (nameD 3) (nilA))) e' M2) fun d M1 => bindE (bindE (callD tupcF _ e' M1) fun d M1 => bindE (ok [] M1) fun ds M2 => ok (d :: ds) M2) fun ds M2 => ok (d :: ds) M2) _ = _
        rw [a1, bindE_v, ev, bindE_v, bindE_v, bindE_v, bindE_v]
        rfl
      rw [ev2]
      rfl
  obtain ⟨f, M', h1', rfl, X', rfl⟩ := key
  exact fv_rt (e0 := [some G, none, none, none, none, none, none, none, none, none, none]) X' rfl h1' nl_due
end K63
namespace K63
open PySem L2 DL
theorem neednum_ok {i l m : Int} {M : Store} (h1 : l ≤ i) (h2 : i ≤ m) : m_need_number [.int i, .int l, .int m] M = ok .non M := by
  refine fv_nx (e0 := [some (.int i), some (.int l), some (.int m)]) (e' := [some (.int i), some (.int l), some (.int m)]) [] rfl ?_
  unfold den_need_number
  have ch := chain_le (da := nameD 1) (db := nameD 0) (dc := nameD 2) (e := [some (.int i), some (.int l), some (.int m)]) (M := M) (i := l) (j := i) (k := m) rfl rfl rfl
  rw [decide_eq_true h1, decide_eq_true h2] at ch
  rw [List.append_nil]
  exact (if_f (or_v (a := false) (b := false) (by simp [seqS, ifS, retS, raiseF, raiseS, consA, nilA, binD, callD, nameD, cD, bindE_v, thenS_v, bindE_x, thenS_x, unD, parS, asgS, tupD, int2F, eq_int, ne_int, intF0, negF, notF, nilS, brD, fnD, addE, subE, ix0, ix1, dropS, asgG, tupG, consG, nameG, nilG, lstD, andD, orD, tstD, ownS, appS, len_tup, len_lst, tup_tup, wipeE, set1, set2, typ_int, typ_tup, typ_non, typ_lst, isF, chainD, asT, truD, len_row, typ_row, whole_int]) fun _ => not_v ch)).trans rfl
theorem flath_ok {w h : Nat} (hw : w ≤ 11) (hh : h ≤ 11) (M : Store) : m__flat_heights [szD w h] M = ok (tabD w h (hD flatH)) M := by
  refine fv_rt0 (e0 := [some (szD w h)]) rfl ?_ (nl_tab fun _ _ => rfl)
  have r : RowsOk (szD w h) (fun u M' => (binD fmodF (binD addF (binD ixF (nameD 1) (cD (.int 0))) (binD ixF (nameD 1) (cD (.int 1)))) (cD (.int 2))) ([some (szD w h)] ++ [some u]) M') w h (hD flatH) :=
    ⟨rfl, hw, hh, fun _ _ _ _ => rfl, fun x y M hx hy => by
      obtain ⟨X, hX⟩ : ∃ z : Int, z = (x : Int) := ⟨_, rfl⟩
      obtain ⟨Y, hY⟩ : ∃ z : Int, z = (y : Int) := ⟨_, rfl⟩
      show _ = ok (D.int (((x : Int) + (y : Int)) % 2)) M
      rw [← hX, ← hY]
      have q : ∀ M, fmodF (.int (X + Y)) (.int 2) M = ok (.int ((X + Y) % 2)) M := fun M => fmd (by decide)
      generalize szD w h = S
      simp [seqS, ifS, retS, raiseF, raiseS, consA, nilA, binD, callD, nameD, cD, bindE_v, thenS_v, bindE_x, thenS_x, unD, parS, asgS, tupD, int2F, eq_int, ne_int, intF0, negF, notF, nilS, brD, fnD, addE, subE, ix0, ix1, dropS, asgG, tupG, consG, nameG, nilG, lstD, andD, orD, tstD, ownS, appS, len_tup, len_lst, tup_tup, wipeE, set1, set2, typ_int, typ_tup, typ_non, typ_lst, isF, chainD, asT, truD, len_row, typ_row, q]⟩
  have q := gd_rows_is r M
  unfold den__flat_heights retS lam1D
  show thenS (bindE (ok (szD w h) M) _) _ _ = _
  rw [bindE_v, q]
  rfl
theorem flat_ok {w h : Nat} (hw1 : 1 ≤ w) (hh1 : 1 ≤ h) (hw : w ≤ 11) (hh : h ≤ 11) (M : Store) : m_flat [.int (w : Int), .int (h : Int)] M = ok (.tup [tabD w h (hD flatH), tabD w h fun _ _ => qD 1]) M := by
  have n1 : ∀ M, m_need_number [.int (w : Int), .int 1, .int 11] M = ok .non M := fun M => neednum_ok (by omega) (by omega)
  have n2 : ∀ M, m_need_number [.int (h : Int), .int 1, .int 11] M = ok .non M := fun M => neednum_ok (by omega) (by omega)
  have fh := flath_ok hw hh
  have r : RowsOk (szD w h) (fun u M' => (tupD (consA (cD (.int 1)) (consA (cD (.int 1)) (nilA)))) ([some (.int (w : Int)), some (.int (h : Int))] ++ [some u]) M') w h (fun _ _ => qD 1) :=
    ⟨rfl, hw, hh, fun _ _ _ _ => rfl, fun x y M hx hy => rfl⟩
  have q := gd_rows_is r
  have fh' : ∀ M, m__flat_heights [.tup [.int (w : Int), .int (h : Int)]] M = ok (tabD w h (hD flatH)) M := fh
  have q' : ∀ M, lam1D gd_rows_by (tupD (consA (nameD 0) (consA (nameD 1) (nilA)))) (tupD (consA (cD (.int 1)) (consA (cD (.int 1)) (nilA)))) [some (.int (w : Int)), some (.int (h : Int))] M = ok (tabD w h fun _ _ => qD 1) M := fun M => by
    unfold lam1D
    show bindE (ok (szD w h) M) _ = _
    rw [bindE_v, q]
    rfl
  refine fv_rt0 (e0 := [some (.int (w : Int)), some (.int (h : Int))]) rfl ?_ (by
    show (nlD 0 (tabD w h (hD flatH)) && (nlD 0 (tabD w h fun _ _ => qD 1) && true)) = true
    rw [nl_tab fun _ _ => rfl, nl_tab fun _ _ => rfl]
    rfl)
  unfold den_flat
  obtain ⟨wi, hwi⟩ : ∃ z : Int, z = (w : Int) := ⟨_, rfl⟩
  obtain ⟨hi, hhi⟩ : ∃ z : Int, z = (h : Int) := ⟨_, rfl⟩
  rw [← hwi] at n1 fh' q' ⊢
  rw [← hhi] at n2 fh' q' ⊢
  generalize tabD w h (hD flatH) = T1 at *
  generalize (tabD w h fun _ _ => qD 1) = T2 at *
  rw [seq_nx (e' := [some (.int wi), some (.int hi)]) (M' := M) (by simp [seqS, ifS, retS, raiseF, raiseS, consA, nilA, binD, callD, nameD, cD, bindE_v, thenS_v, bindE_x, thenS_x, unD, parS, asgS, tupD, int2F, eq_int, ne_int, intF0, negF, notF, nilS, brD, fnD, addE, subE, ix0, ix1, dropS, asgG, tupG, consG, nameG, nilG, lstD, andD, orD, tstD, ownS, appS, len_tup, len_lst, tup_tup, wipeE, set1, set2, typ_int, typ_tup, typ_non, typ_lst, isF, chainD, asT, truD, len_row, typ_row, n1])]
  rw [seq_nx (e' := [some (.int wi), some (.int hi)]) (M' := M) (by simp [seqS, ifS, retS, raiseF, raiseS, consA, nilA, binD, callD, nameD, cD, bindE_v, thenS_v, bindE_x, thenS_x, unD, parS, asgS, tupD, int2F, eq_int, ne_int, intF0, negF, notF, nilS, brD, fnD, addE, subE, ix0, ix1, dropS, asgG, tupG, consG, nameG, nilG, lstD, andD, orD, tstD, ownS, appS, len_tup, len_lst, tup_tup, wipeE, set1, set2, typ_int, typ_tup, typ_non, typ_lst, isF, chainD, asT, truD, len_row, typ_row, n2])]
  simp [seqS, ifS, retS, raiseF, raiseS, consA, nilA, binD, callD, nameD, cD, bindE_v, thenS_v, bindE_x, thenS_x, unD, parS, asgS, tupD, int2F, eq_int, ne_int, intF0, negF, notF, nilS, brD, fnD, addE, subE, ix0, ix1, dropS, asgG, tupG, consG, nameG, nilG, lstD, andD, orD, tstD, ownS, appS, len_tup, len_lst, tup_tup, wipeE, set1, set2, typ_int, typ_tup, typ_non, typ_lst, isF, chainD, asT, truD, len_row, typ_row, fh', q']
theorem nonought_ok {l : Nat} {A : Mx} (hA : ∀ i j, i < l → j < l → A i j ≠ 0) (M : Store) : m_need_no_nought [gridD l A] M = ok .non M := by
  have it : ∀ (e : DL.Env) M, e[0]? = some (some (gridD l A)) → itD (nameD 0) e M = ok ((List.range l).map fun i => rowD l fun j => qD (A i j), fun _ => True) M := fun e M he => it_row (by
    unfold nameD
    rw [he])
  obtain ⟨Q, hQ⟩ : ∃ Q : Nat → D, Q = fun i => rowD l fun j => qD (A i j) := ⟨_, rfl⟩
  have hQ' : ∀ i, (rowD l fun j => qD (A i j)) = Q i := fun i => by rw [hQ]
  have it1 : ∀ i (e : DL.Env) M, e[1]? = some (some (Q i)) → itD (nameD 1) e M = ok ((List.range l).map fun j => qD (A i j), fun _ => True) M := fun i e M he => it_row (by
    unfold nameD
    rw [he, ← hQ'])
  obtain ⟨R, hR⟩ : ∃ R, R = gridD l A := ⟨_, rfl⟩
  rw [← hR] at it ⊢
  simp only [hQ'] at it
  refine fv_wpn (e0 := [some R, none, none, none]) rfl ?_
  unfold den_need_no_nought
  refine wp_for ((List.range l).map fun i => Q i) (fun _ e M' => M' = M ∧ ∃ b c d, e = [some R, b, c, d]) (it _ _ rfl) (fun j d e M' hd hi => ?_) (fun _ _ _ => trivial) ⟨rfl, _, _, _, rfl⟩ (fun e' M' hi => ?_)
  · obtain ⟨rfl, b, c, d', rfl⟩ := hi
    obtain ⟨hj, rfl⟩ := map_getR hd
    refine ⟨trivial, [some R, some (Q j), c, d'], M', by simp [seqS, ifS, retS, raiseF, raiseS, consA, nilA, binD, callD, nameD, cD, bindE_v, thenS_v, bindE_x, thenS_x, unD, parS, asgS, tupD, int2F, eq_int, ne_int, intF0, negF, notF, nilS, brD, fnD, addE, subE, ix0, ix1, dropS, asgG, tupG, consG, nameG, nilG, lstD, andD, orD, tstD, ownS, appS, len_tup, len_lst, tup_tup, wipeE, set1, set2, typ_int, typ_tup, typ_non, typ_lst, isF, chainD, asT, truD, len_row, typ_row], ?_⟩
    refine wp_for ((List.range l).map fun c => qD (A j c)) (fun _ e M'' => M'' = M' ∧ ∃ c d, e = [some R, some (Q j), c, d]) (it1 j _ _ rfl) (fun k d e M'' hd hi => ?_) (fun _ _ _ => trivial) ⟨rfl, _, _, rfl⟩ (fun e' M'' hi => ?_)
    · obtain ⟨rfl, c, d', rfl⟩ := hi
      obtain ⟨hk, rfl⟩ := map_getR hd
      have nz : ¬ (A j k).num = 0 := fun z => hA j k hj hk (Rat.num_eq_zero.mp z)
      show True ∧ ∃ e1 M1, tupG 2 (consG (nameG 2) (consG (nameG 3) nilG)) (.tup [.int (A j k).num, .int ((A j k).den : Int)]) _ _ = _ ∧ _
      generalize (A j k).num = nn at *
      generalize ((A j k).den : Int) = dd at *
      generalize Q j = q at *
      refine ⟨trivial, [some R, some q, some (.int nn), some (.int dd)], M'', by simp [seqS, ifS, retS, raiseF, raiseS, consA, nilA, binD, callD, nameD, cD, bindE_v, thenS_v, bindE_x, thenS_x, unD, parS, asgS, tupD, int2F, eq_int, ne_int, intF0, negF, notF, nilS, brD, fnD, addE, subE, ix0, ix1, dropS, asgG, tupG, consG, nameG, nilG, lstD, andD, orD, tstD, ownS, appS, len_tup, len_lst, tup_tup, wipeE, set1, set2, typ_int, typ_tup, typ_non, typ_lst, isF, chainD, asT, truD, len_row, typ_row], ?_⟩
      exact wp_of (M' := M'') (.nx [some R, some q, some (.int nn), some (.int dd)]) (by simp [seqS, ifS, retS, raiseF, raiseS, consA, nilA, binD, callD, nameD, cD, bindE_v, thenS_v, bindE_x, thenS_x, unD, parS, asgS, tupD, int2F, eq_int, ne_int, intF0, negF, notF, nilS, brD, fnD, addE, subE, ix0, ix1, dropS, asgG, tupG, consG, nameG, nilG, lstD, andD, orD, tstD, ownS, appS, len_tup, len_lst, tup_tup, wipeE, set1, set2, typ_int, typ_tup, typ_non, typ_lst, isF, chainD, asT, truD, len_row, typ_row, nz]) ⟨_, .inl rfl, rfl, _, _, rfl⟩
    · obtain ⟨rfl, c, d', rfl⟩ := hi
      exact ⟨_, .inl rfl, rfl, _, _, _, rfl⟩
  · obtain ⟨rfl, b, c, d', rfl⟩ := hi
    exact ⟨⟨_, rfl⟩, [], by simp⟩
theorem fieldby_ok {l : Nat} {A : Mx} (h1 : 1 ≤ l) (h6 : l ≤ 6) (hA : ∀ i j, i < l → j < l → A i j ≠ 0) (M : Store) : m_field_by [gridD l A] M = ok (dueD l A) M := by
  have a1 : ∀ M, m_need_rows [gridD l A, .int 1, .int 6] M = ok .non M := fun M => needrows_ok (by omega) (by omega)
  have a2 : ∀ M, m_need_no_nought [gridD l A] M = ok .non M := nonought_ok hA
  have b1 : fw l ≤ 12 := by unfold fw; omega
  have b1' : fw l ≤ 11 ∨ l = 6 ∧ fw l ≤ 11 := by unfold fw; omega
  have b1 : fw l ≤ 11 := by rcases b1' with z | z; exact z; exact z.2
  have b2 : fh l ≤ 11 := by unfold fh; omega
  have c1 : 1 ≤ fw l := by unfold fw; omega
  have c2 : 1 ≤ fh l := by unfold fh; omega
  have fr : ∀ M, m_frame [.int (l : Int)] M = ok (frD l) M := frame_ok h1 h6
  have ft := flat_ok c1 c2 b1 b2
  have sq : ∀ M, m_square_of [aimD l] M = ok (sqD' l) M := square_ok h1 h6
  have ln : ∀ M, lenF [gridD l A] M = ok (.int (l : Int)) M := fun M => len_row
  obtain ⟨L, hL⟩ : ∃ z : Int, z = (l : Int) := ⟨_, rfl⟩
  obtain ⟨W, hW⟩ : ∃ z : Int, z = ((fw l : Nat) : Int) := ⟨_, rfl⟩
  obtain ⟨H, hH⟩ : ∃ z : Int, z = ((fh l : Nat) : Int) := ⟨_, rfl⟩
  obtain ⟨X, hX⟩ : ∃ z : Int, z = ((fx l : Nat) : Int) := ⟨_, rfl⟩
  obtain ⟨Y, hY⟩ : ∃ z : Int, z = ((fy l : Nat) : Int) := ⟨_, rfl⟩
  have fr' : ∀ M, m_frame [.int L] M = ok (.tup [.int W, .int H, .int X, .int Y]) M := fun M => by
    rw [hL, hW, hH, hX, hY]
    exact fr M
  have sq' : ∀ M, m_square_of [.tup [.int X, .int Y, .int L]] M = ok (sqD' l) M := fun M => by
    rw [hX, hY, hL]
    exact sq M
  rw [← hL] at ln
  rw [← hW, ← hH] at ft
  obtain ⟨G, hG⟩ : ∃ G, G = gridD l A := ⟨_, rfl⟩
  obtain ⟨T1, hT1⟩ : ∃ G, G = tabD (fw l) (fh l) (hD flatH) := ⟨_, rfl⟩
  obtain ⟨T2, hT2⟩ : ∃ G, G = tabD (fw l) (fh l) fun _ _ => qD 1 := ⟨_, rfl⟩
  rw [← hG] at a1 a2 ln ⊢
  rw [← hT1, ← hT2] at ft
  have key : Wp (den_field_by [some G, none, none, none, none, none, none, none, none, none, none, none, none, none] M) (fun f M' => f = .rt (dueD l A) ∧ ∃ X, M' = M ++ X) := by
    unfold den_field_by
    refine wp_nx (e' := [some G, none, none, none, none, none, none, none, none, none, none, none, none, none]) (M' := M) (by simp [seqS, ifS, retS, raiseF, raiseS, consA, nilA, binD, callD, nameD, cD, bindE_v, thenS_v, bindE_x, thenS_x, unD, parS, asgS, tupD, int2F, eq_int, ne_int, intF0, negF, notF, nilS, brD, fnD, addE, subE, ix0, ix1, dropS, asgG, tupG, consG, nameG, nilG, lstD, andD, orD, tstD, ownS, appS, len_tup, len_lst, tup_tup, wipeE, set1, set2, typ_int, typ_tup, typ_non, typ_lst, isF, chainD, asT, truD, len_row, typ_row, a1]) ?_
    refine wp_nx (e' := [some G, none, none, none, none, none, none, none, none, none, none, none, none, none]) (M' := M) (by simp [seqS, ifS, retS, raiseF, raiseS, consA, nilA, binD, callD, nameD, cD, bindE_v, thenS_v, bindE_x, thenS_x, unD, parS, asgS, tupD, int2F, eq_int, ne_int, intF0, negF, notF, nilS, brD, fnD, addE, subE, ix0, ix1, dropS, asgG, tupG, consG, nameG, nilG, lstD, andD, orD, tstD, ownS, appS, len_tup, len_lst, tup_tup, wipeE, set1, set2, typ_int, typ_tup, typ_non, typ_lst, isF, chainD, asT, truD, len_row, typ_row, a2]) ?_
    refine wp_nx (e' := [some G, some (.int W), some (.int H), some (.int X), some (.int Y), none, none, none, none, none, none, none, none, none]) (M' := M) (by simp [seqS, ifS, retS, raiseF, raiseS, consA, nilA, binD, callD, nameD, cD, bindE_v, thenS_v, bindE_x, thenS_x, unD, parS, asgS, tupD, int2F, eq_int, ne_int, intF0, negF, notF, nilS, brD, fnD, addE, subE, ix0, ix1, dropS, asgG, tupG, consG, nameG, nilG, lstD, andD, orD, tstD, ownS, appS, len_tup, len_lst, tup_tup, wipeE, set1, set2, typ_int, typ_tup, typ_non, typ_lst, isF, chainD, asT, truD, len_row, typ_row, ln, fr']) ?_
    refine wp_nx (e' := [some G, some (.int W), some (.int H), some (.int X), some (.int Y), some T1, some T2, none, none, none, none, none, none, none]) (M' := M) (by simp [seqS, ifS, retS, raiseF, raiseS, consA, nilA, binD, callD, nameD, cD, bindE_v, thenS_v, bindE_x, thenS_x, unD, parS, asgS, tupD, int2F, eq_int, ne_int, intF0, negF, notF, nilS, brD, fnD, addE, subE, ix0, ix1, dropS, asgG, tupG, consG, nameG, nilG, lstD, andD, orD, tstD, ownS, appS, len_tup, len_lst, tup_tup, wipeE, set1, set2, typ_int, typ_tup, typ_non, typ_lst, isF, chainD, asT, truD, len_row, typ_row, ft]) ?_
    have co := comp_own (M := M) (set := set1 9) (vs := [9]) (e := [some G, some (.int W), some (.int H), some (.int X), some (.int Y), some T1, some T2, none, none, none, none, none, none, none]) (di := itD (nameD 6)) (de := callD (lstcOF) (consA (nameD 9) (nilA))) (n := fh l) (g := fun _ => rowD (fw l) fun _ => qD 1) (f := fun _ => (List.range (fw l)).map fun _ => qD 1) (it_row (by
      show ok T2 M = _
      rw [hT2])) (by omega) (fun k => ⟨_, rfl, fun M' => rfl⟩)
    obtain ⟨M1, hM1⟩ : ∃ x, x = (M ++ .lst ((List.range (fh l)).map fun k => D.loc (M.length + 1 + k)) :: ((List.range (fh l)).map fun _ => Ob.lst ((List.range (fw l)).map fun _ => qD 1))) := ⟨_, rfl⟩
    rw [← hM1] at co
    have rs : Rws M1 M.length (fh l) (fw l) fun _ _ => 1 := by
      rw [hM1]
      refine ⟨get_mid, fun y hy => ?_⟩
      rw [List.getElem?_append_right (by omega), show M.length + 1 + y - M.length = y + 1 by omega, List.getElem?_cons_succ, get_mapR hy]
    have tk : M1.take M.length = M := by
      rw [hM1]
      exact List.take_left' rfl
    refine wp_nx (e' := [some G, some (.int W), some (.int H), some (.int X), some (.int Y), some T1, some T2, some (.loc M.length), none, none, none, none, none, none]) (M' := M1) (by
      unfold asgS
      rw [co]
      rfl) ?_
    refine put_all (i1 := 10) (i2 := 11) (i3 := 12) (i4 := 8) (i5 := 9) (i6 := 7) (l := l) (A := A) (M0 := M) (w := M.length) (h := fh l) (wd := fw l) (by decide) (by decide) (by decide) (by decide) (by decide) (by simp) (by simp) (by simp) (by simp) (by simp) (zip_rowsR (f1 := fun r => rowD l (spR l r)) (f2 := fun r => rowD l fun c => qD (A r c)) (by
      show _ = ok (sqD' l) M1
      generalize sqD' l = S at *
      simp [seqS, ifS, retS, raiseF, raiseS, consA, nilA, binD, callD, nameD, cD, bindE_v, thenS_v, bindE_x, thenS_x, unD, parS, asgS, tupD, int2F, eq_int, ne_int, intF0, negF, notF, nilS, brD, fnD, addE, subE, ix0, ix1, dropS, asgG, tupG, consG, nameG, nilG, lstD, andD, orD, tstD, ownS, appS, len_tup, len_lst, tup_tup, wipeE, set1, set2, typ_int, typ_tup, typ_non, typ_lst, isF, chainD, asT, truD, len_row, typ_row, ln, sq']) (by rw [hG]; rfl)) rfl rs h6 (fun r c hr hc => (sq_lt h1 hr hc).1) (fun r c hr hc => (sq_lt h1 hr hc).2) tk (Nat.le_refl _) (fun e' M2 kp rs2 tk2 => ?_)
    have g5 : e'[5]? = some (some T1) := kp.2 5 (by decide)
    have g7 : e'[7]? = some (some (.loc M.length)) := kp.2 7 (by decide)
    have el : e'.length = 14 := kp.1
    have tb := tab_of (i6 := 7) (e := e') (i := 13) rs2 g7 (by omega) (by omega) (by omega)
    refine wp_of (.rt (dueD l A)) (M' := M2) ?_ ⟨rfl, M2.drop M.length, by
      have q := (List.take_append_drop M.length M2).symm
      rw [tk2] at q
      exact q⟩
    have ev : callD tupcF (consA (cutE (compD (set1 13) (cD (.bl true)) (callD (tupcF) (consA (nameD 13) (nilA))) [13] (itD (nameD 7)))) (nilA)) e' M2 = ok (wTab l A) M2 := tb
    have ev2 : tupD (consA (nameD 5) (consA (callD (tupcF) (consA (cutE (compD (set1 13) (cD (.bl true)) (callD (tupcF) (consA (nameD 13) (nilA))) [13] (itD (nameD 7)))) (nilA))) (nilA))) e' M2 = ok (dueD l A) M2 := by
      have a1 : nameD 5 e' M2 = ok T1 M2 := by
        unfold nameD
        rw [g5]
      unfold tupD
      show bindE (bindE (nameD 5 e' M2) fun d M1 => bindE (bindE (callD tupcF _ e' M1) fun d M1 => bindE (ok [] M1) fun ds M2 => ok (d :: ds) M2) fun ds M2 => ok (d :: ds) M2) _ = _
      rw [a1, bindE_v, ev, bindE_v, bindE_v, bindE_v, bindE_v, hT1]
      rfl
    unfold retS
    rw [ev2]
    rfl
  obtain ⟨f, M', h1', rfl, X', rfl⟩ := key
  exact fv_rt (e0 := [some G, none, none, none, none, none, none, none, none, none, none, none, none, none]) X' rfl h1' nl_due
end K63
namespace K63
open PySem L2 DL
abbrev wP (l : Nat) (A : Mx) : Nat → Nat → Int × Int := fun x y => ((pTab l A l x y).num, ((pTab l A l x y).den : Int))
theorem due_eq {l : Nat} {A : Mx} : dueD l A = fieldD (fw l) (fh l) flatH (wP l A) := rfl
theorem pTab_ne {l : Nat} {A : Mx} (hA : ∀ i j, i < l → j < l → A i j ≠ 0) (x y : Nat) : pTab l A l x y ≠ 0 := by
  rcases pTab_is (A := A) l (Nat.le_refl _) x y with q | ⟨i, j, hi, hj, q⟩
  · rw [q]
    decide
  · rw [q]
    exact hA i j hi hj
theorem flat01 (x y : Nat) : flatH x y = 0 ∨ flatH x y = 1 := by
  unfold flatH
  omega
theorem due_vf {l : Nat} {A : Mx} (h1 : 1 ≤ l) (h6 : l ≤ 6) (hA : ∀ i j, i < l → j < l → A i j ≠ 0) : VF (fw l) (fh l) flatH (wP l A) where
  w1 := by unfold fw; omega
  w2 := by unfold fw; omega
  h1 := by unfold fh; omega
  h2 := by unfold fh; omega
  par := fun x y _ _ => by unfold flatH; omega
  sx := fun x y _ _ => by unfold flatH; omega
  sy := fun x y _ _ => by unfold flatH; omega
  rim := fun x y _ _ _ => by
    rcases flat01 x y with z | z <;> rw [z] <;> decide
  wor := fun x y _ _ => by
    have dp := (pTab l A l x y).den_pos
    refine ⟨?_, (pTab l A l x y).reduced, fun z => pTab_ne hA x y (Rat.num_eq_zero.mp z)⟩
    show (1 : Int) ≤ ((pTab l A l x y).den : Int)
    omega
section
variable {l : Nat} {A : Mx} {M : Store}
theorem due_need (h1 : 1 ≤ l) (h6 : l ≤ 6) (hA : ∀ i j, i < l → j < l → A i j ≠ 0) (M : Store) : m_need_field [dueD l A] M = ok .non M := by
  rw [due_eq]
  exact need_ok (due_vf h1 h6 hA)
theorem isfield_ok (h1 : 1 ≤ l) (h6 : l ≤ 6) (hA : ∀ i j, i < l → j < l → A i j ≠ 0) (M : Store) : m_is_field [dueD l A] M = ok (.bl true) M := by
  have nd := due_need h1 h6 hA
  obtain ⟨R, hR⟩ : ∃ R, R = dueD l A := ⟨_, rfl⟩
  rw [← hR] at nd ⊢
  refine fv_rt0 (e0 := [some R]) rfl ?_ rfl
  unfold den_is_field
  rw [seq_nx (e' := [some R]) (M' := M) (by
    have : dropS (fnD m_need_field 1 [] (consA (nameD 0) (nilA))) [some R] M = some (.nx [some R], M) := by simp [seqS, ifS, retS, raiseF, raiseS, consA, nilA, binD, callD, nameD, cD, bindE_v, thenS_v, bindE_x, thenS_x, unD, parS, asgS, tupD, int2F, eq_int, ne_int, intF0, negF, notF, nilS, brD, fnD, addE, subE, ix0, ix1, dropS, asgG, tupG, consG, nameG, nilG, lstD, andD, orD, tstD, ownS, appS, len_tup, len_lst, tup_tup, wipeE, set1, set2, typ_int, typ_tup, typ_non, typ_lst, isF, chainD, asT, truD, len_row, typ_row, nd]
    unfold tryS0
    rw [this])]
  rfl
theorem flatrows_ok {w h : Nat} (hw : 1 ≤ w) (hw2 : w ≤ 100) (M : Store) : m_is_flat_rows [tabD w h (hD flatH)] M = ok (.bl true) M := by
  have it : ∀ (e : DL.Env) M, e[0]? = some (some (tabD w h (hD flatH))) → itD (nameD 0) e M = ok ((List.range h).map fun y => rowD w fun x => hD flatH x y, fun _ => True) M := fun e M he => it_row (by
    unfold nameD
    rw [he])
  have mm : ∀ y, ∃ a b : Int, 0 ≤ a ∧ b ≤ 1 ∧ (∀ M, minLTF [rowD w fun x => hD flatH x y] M = ok (.int a) M) ∧ ∀ M, maxLTF [rowD w fun x => hD flatH x y] M = ok (.int b) M := fun y => by
    obtain ⟨n, ns, hn⟩ : ∃ n ns, (List.range w).map (fun x => flatH x y) = n :: ns := by
      cases hc : (List.range w).map (fun x => flatH x y) with
      | nil =>
        have := congrArg List.length hc
        simp at this
        omega
      | cons n ns => exact ⟨n, ns, rfl⟩
    have b01 : ∀ z ∈ n :: ns, z = 0 ∨ z = 1 := fun z hz => by
      rw [← hn] at hz
      obtain ⟨x, _, rfl⟩ := List.mem_map.mp hz
      exact flat01 x y
    have io : intsOf ((List.range w).map fun x => hD flatH x y) = some (n :: ns) := by
      rw [← hn]
      have := ints_map (xs := (List.range w).map fun x => flatH x y)
      rw [List.map_map] at this
      exact this
    refine ⟨mnI n ns, mxI n ns, ?_, ?_, fun M => ?_, fun M => ?_⟩
    · rcases b01 _ (mnI_mem n ns) with z | z <;> rw [z] <;> decide
    · rcases b01 _ (mxI_mem n ns) with z | z <;> rw [z] <;> decide
    · show (match intsOf ((List.range w).map fun x => hD flatH x y) with
        | some (n :: ns) => ok (D.int (mnI n ns)) M
        | _ => none) = _
      rw [io]
    · show (match intsOf ((List.range w).map fun x => hD flatH x y) with
        | some (n :: ns) => ok (D.int (mxI n ns)) M
        | _ => none) = _
      rw [io]
  obtain ⟨Q, hQ⟩ : ∃ Q : Nat → D, Q = fun y => rowD w fun x => hD flatH x y := ⟨_, rfl⟩
  have hQ' : ∀ y, (rowD w fun x => hD flatH x y) = Q y := fun y => by rw [hQ]
  obtain ⟨R, hR⟩ : ∃ R, R = tabD w h (hD flatH) := ⟨_, rfl⟩
  rw [← hR] at it ⊢
  simp only [hQ'] at it mm
  refine fv_wp (e0 := [some R, none]) rfl ?_ rfl
  unfold den_is_flat_rows
  refine wp_for_nx ((List.range h).map fun i => Q i) (fun _ e M' => M' = M ∧ ∃ b, e = [some R, b]) (it _ _ rfl) (fun j d e M' hd hi => ?_) (fun _ _ _ => trivial) ⟨rfl, _, rfl⟩ (fun e' M' hi => ?_)
  · obtain ⟨rfl, b, rfl⟩ := hi
    obtain ⟨hj, rfl⟩ := map_getR hd
    obtain ⟨a, b', ha, hb, q1, q2⟩ := mm j
    generalize Q j = q at *
    have n1 : ¬ a < 0 := by omega
    have n2 : ¬ 1 < b' := by omega
    refine ⟨trivial, [some R, some q], M', by simp [seqS, ifS, retS, raiseF, raiseS, consA, nilA, binD, callD, nameD, cD, bindE_v, thenS_v, bindE_x, thenS_x, unD, parS, asgS, tupD, int2F, eq_int, ne_int, intF0, negF, notF, nilS, brD, fnD, addE, subE, ix0, ix1, dropS, asgG, tupG, consG, nameG, nilG, lstD, andD, orD, tstD, ownS, appS, len_tup, len_lst, tup_tup, wipeE, set1, set2, typ_int, typ_tup, typ_non, typ_lst, isF, chainD, asT, truD, len_row, typ_row], ?_⟩
    exact wp_of (M' := M') (.nx [some R, some q]) ((if_f (or_v (a := false) (b := false) (by simp [seqS, ifS, retS, raiseF, raiseS, consA, nilA, binD, callD, nameD, cD, bindE_v, thenS_v, bindE_x, thenS_x, unD, parS, asgS, tupD, int2F, eq_int, ne_int, intF0, negF, notF, nilS, brD, fnD, addE, subE, ix0, ix1, dropS, asgG, tupG, consG, nameG, nilG, lstD, andD, orD, tstD, ownS, appS, len_tup, len_lst, tup_tup, wipeE, set1, set2, typ_int, typ_tup, typ_non, typ_lst, isF, chainD, asT, truD, len_row, typ_row, q1, lt_int, n1]) fun _ => by simp [seqS, ifS, retS, raiseF, raiseS, consA, nilA, binD, callD, nameD, cD, bindE_v, thenS_v, bindE_x, thenS_x, unD, parS, asgS, tupD, int2F, eq_int, ne_int, intF0, negF, notF, nilS, brD, fnD, addE, subE, ix0, ix1, dropS, asgG, tupG, consG, nameG, nilG, lstD, andD, orD, tstD, ownS, appS, len_tup, len_lst, tup_tup, wipeE, set1, set2, typ_int, typ_tup, typ_non, typ_lst, isF, chainD, asT, truD, len_row, typ_row, q2, gt_int, n2])).trans rfl) ⟨_, .inl rfl, rfl, _, rfl⟩
  · obtain ⟨rfl, b, rfl⟩ := hi
    exact wp_of (.rt (.bl true)) (M' := M') (by simp [seqS, ifS, retS, raiseF, raiseS, consA, nilA, binD, callD, nameD, cD, bindE_v, thenS_v, bindE_x, thenS_x, unD, parS, asgS, tupD, int2F, eq_int, ne_int, intF0, negF, notF, nilS, brD, fnD, addE, subE, ix0, ix1, dropS, asgG, tupG, consG, nameG, nilG, lstD, andD, orD, tstD, ownS, appS, len_tup, len_lst, tup_tup, wipeE, set1, set2, typ_int, typ_tup, typ_non, typ_lst, isF, chainD, asT, truD, len_row, typ_row]) ⟨rfl, [], by simp⟩
theorem needflat_ok (h1 : 1 ≤ l) (h6 : l ≤ 6) (hA : ∀ i j, i < l → j < l → A i j ≠ 0) (M : Store) : m_need_flat [dueD l A] M = ok .non M := by
  have nd := due_need h1 h6 hA
  have fl := fun M => flatrows_ok (w := fw l) (h := fh l) (by unfold fw; omega) (by unfold fw; omega) M
  have i0 : ∀ M, ixF (dueD l A) (.int 0) M = ok (tabD (fw l) (fh l) (hD flatH)) M := fun M => ix0 _ _ _
  obtain ⟨R, hR⟩ : ∃ R, R = dueD l A := ⟨_, rfl⟩
  rw [← hR] at nd i0 ⊢
  generalize tabD (fw l) (fh l) (hD flatH) = T at *
  refine fv_nx (e0 := [some R]) (e' := [some R]) [] rfl ?_
  unfold den_need_flat
  rw [seq_nx (e' := [some R]) (M' := M) (by simp [seqS, ifS, retS, raiseF, raiseS, consA, nilA, binD, callD, nameD, cD, bindE_v, thenS_v, bindE_x, thenS_x, unD, parS, asgS, tupD, int2F, eq_int, ne_int, intF0, negF, notF, nilS, brD, fnD, addE, subE, ix0, ix1, dropS, asgG, tupG, consG, nameG, nilG, lstD, andD, orD, tstD, ownS, appS, len_tup, len_lst, tup_tup, wipeE, set1, set2, typ_int, typ_tup, typ_non, typ_lst, isF, chainD, asT, truD, len_row, typ_row, nd]), List.append_nil]
  exact (if_f (by simp [seqS, ifS, retS, raiseF, raiseS, consA, nilA, binD, callD, nameD, cD, bindE_v, thenS_v, bindE_x, thenS_x, unD, parS, asgS, tupD, int2F, eq_int, ne_int, intF0, negF, notF, nilS, brD, fnD, addE, subE, ix0, ix1, dropS, asgG, tupG, consG, nameG, nilG, lstD, andD, orD, tstD, ownS, appS, len_tup, len_lst, tup_tup, wipeE, set1, set2, typ_int, typ_tup, typ_non, typ_lst, isF, chainD, asT, truD, len_row, typ_row, i0, fl])).trans rfl
theorem chain_lt {da db dc : DenE} {e : DL.Env} {M : Store} {i j k : Int} (ha : da e M = ok (.int i) M) (hb : db e M = ok (.int j) M) (hc : dc e M = ok (.int k) M) : chainD leF ltF da db dc e M = ok (.bl (decide (i ≤ j) && decide (j < k))) M := by
  unfold chainD
  rw [ha, bindE_v, hb, bindE_v]
  show bindE (ok (D.bl (decide (i ≤ j))) M) _ = _
  rw [bindE_v]
  by_cases c : i ≤ j
  · rw [decide_eq_true c]
    dsimp only
    rw [hc, bindE_v, Bool.true_and]
    rfl
  · rw [decide_eq_false c]
    rfl
theorem target_ok (h1 : 1 ≤ l) (h6 : l ≤ 6) (M : Store) : m_need_target_on [tabD (fw l) (fh l) (hD flatH), aimD l] M = ok .non M := by
  have w1 : 1 ≤ fw l := by unfold fw; omega
  have hh1 : 1 ≤ fh l := by unfold fh; omega
  have xl : fx l < fw l := by unfold fx fw; omega
  have yl : fy l < fh l := by unfold fy fh; omega
  obtain ⟨L, hL⟩ : ∃ z : Int, z = (l : Int) := ⟨_, rfl⟩
  obtain ⟨W, hW⟩ : ∃ z : Int, z = ((fw l : Nat) : Int) := ⟨_, rfl⟩
  obtain ⟨H, hH⟩ : ∃ z : Int, z = ((fh l : Nat) : Int) := ⟨_, rfl⟩
  obtain ⟨X, hX⟩ : ∃ z : Int, z = ((fx l : Nat) : Int) := ⟨_, rfl⟩
  obtain ⟨Y, hY⟩ : ∃ z : Int, z = ((fy l : Nat) : Int) := ⟨_, rfl⟩
  have e3 : X = L - 1 + L % 2 := by rw [hX]; unfold fx; omega
  have e4 : Y = L - 1 := by rw [hY]; unfold fy; omega
  have e1 : W = 2 * L - 1 + L % 2 := by rw [hW]; unfold fw; omega
  have e2 : H = 2 * L - 1 := by rw [hH]; unfold fh; omega
  show m_need_target_on [_, .tup [.int ((fx l : Nat) : Int), .int ((fy l : Nat) : Int), .int (l : Int)]] M = _
  have r1 : ∀ M, ixF (tabD (fw l) (fh l) (hD flatH)) (.int Y) M = ok (rowD (fw l) fun x => hD flatH x (fy l)) M := fun M => ix_rowI hY yl
  have r2 : ∀ M, ixF (tabD (fw l) (fh l) (hD flatH)) (.int 0) M = ok (rowD (fw l) fun x => hD flatH x 0) M := fun M => ix_row0 hh1
  have r3 : ∀ M, ixF (tabD (fw l) (fh l) (hD flatH)) (.int (-1)) M = ok (rowD (fw l) fun x => hD flatH x (fh l - 1)) M := fun M => ix_tup (at_last (n := fh l - 1) (by rw [List.length_map, List.length_range]; omega) (get_mapR (by omega)))
  have s1 : ∀ y M, ixF (rowD (fw l) fun x => hD flatH x y) (.int X) M = ok (.int (flatH (fx l) y)) M := fun y M => ix_rowI hX xl
  have s2 : ∀ y M, ixF (rowD (fw l) fun x => hD flatH x y) (.int 0) M = ok (.int (flatH 0 y)) M := fun y M => ix_row0 w1
  have s3 : ∀ y M, ixF (rowD (fw l) fun x => hD flatH x y) (.int (-1)) M = ok (.int (flatH (fw l - 1) y)) M := fun y M => ix_tup (at_last (n := fw l - 1) (by rw [List.length_map, List.length_range]; omega) (get_mapR (by omega)))
  have ln1 : ∀ M, lenF [tabD (fw l) (fh l) (hD flatH)] M = ok (.int H) M := fun M => by rw [hH]; exact len_row
  have ln2 : ∀ y M, lenF [rowD (fw l) fun x => hD flatH x y] M = ok (.int W) M := fun y M => by rw [hW]; exact len_row
  obtain ⟨v1, hv1⟩ : ∃ z, z = flatH (fx l) (fy l) := ⟨_, rfl⟩
  obtain ⟨v2, hv2⟩ : ∃ z, z = flatH 0 (fy l) := ⟨_, rfl⟩
  obtain ⟨v3, hv3⟩ : ∃ z, z = flatH (fw l - 1) (fy l) := ⟨_, rfl⟩
  obtain ⟨v4, hv4⟩ : ∃ z, z = flatH (fx l) 0 := ⟨_, rfl⟩
  obtain ⟨v5, hv5⟩ : ∃ z, z = flatH (fx l) (fh l - 1) := ⟨_, rfl⟩
  have c1 : v1 = L % 2 := by rw [hv1]; unfold flatH; omega
  have c2 : v2 = (L - 1) % 2 := by rw [hv2]; unfold flatH; omega
  have c3 : v3 = 1 := by rw [hv3]; unfold flatH; omega
  have c4 : v4 = (L - 1 + L % 2) % 2 := by rw [hv4]; unfold flatH; omega
  have c5 : v5 = (L - 1 + L % 2 + 2 * L - 2) % 2 := by rw [hv5]; unfold flatH; omega
  have a1 := s1 (fy l)
  have a2 := s2 (fy l)
  have a3 := s3 (fy l)
  have a4 := s1 0
  have a5 := s1 (fh l - 1)
  have a6 := ln2 (fy l)
  have a7 := ln2 0
  rw [← hv1] at a1
  rw [← hv2] at a2
  rw [← hv3] at a3
  rw [← hv4] at a4
  rw [← hv5] at a5
  clear s1 s2 s3 ln2
  rw [← hX, ← hY, ← hL]
  obtain ⟨R, hR⟩ : ∃ R, R = tabD (fw l) (fh l) (hD flatH) := ⟨_, rfl⟩
  rw [← hR] at r1 r2 r3 ln1 ⊢
  generalize (rowD (fw l) fun x => hD flatH x (fy l)) = Q1 at *
  generalize (rowD (fw l) fun x => hD flatH x 0) = Q2 at *
  generalize (rowD (fw l) fun x => hD flatH x (fh l - 1)) = Q3 at *
  let E : Option D → DL.Env := fun a => [some R, some (.tup [.int X, .int Y, .int L]), some (.int X), some (.int Y), some (.int L), a]
  refine fv_nx (e0 := [some R, some (.tup [.int X, .int Y, .int L]), none, none, none, none]) (e' := E (some Q1)) [] rfl ?_
  rw [List.append_nil]
  unfold den_need_target_on
  have n1 : ¬ L < v1 := by omega
  have n2 : ¬ (L - v1) % 2 = 1 := by omega
  have n3 : ¬ v2 + X < L := by omega
  have n4 : ¬ v3 + W - 1 - X < L := by omega
  have n5 : ¬ v4 + Y < L := by omega
  have n6 : ¬ v5 + H - 1 - Y < L := by omega
  have fm : ∀ M, fmodF (.int (L - v1)) (.int 2) M = ok (.int ((L - v1) % 2)) M := fun M => fmd (by decide)
  rw [seq_nx (e' := [some R, some (.tup [.int X, .int Y, .int L]), none, none, none, none]) (M' := M) (by simp [seqS, ifS, retS, raiseF, raiseS, consA, nilA, binD, callD, nameD, cD, bindE_v, thenS_v, bindE_x, thenS_x, unD, parS, asgS, tupD, int2F, eq_int, ne_int, intF0, negF, notF, nilS, brD, fnD, addE, subE, ix0, ix1, dropS, asgG, tupG, consG, nameG, nilG, lstD, andD, orD, tstD, ownS, appS, len_tup, len_lst, tup_tup, wipeE, set1, set2, typ_int, typ_tup, typ_non, typ_lst, isF, chainD, asT, truD, len_row, typ_row])]
  rw [seq_nx (e' := E none) (M' := M) (by simp [seqS, ifS, retS, raiseF, raiseS, consA, nilA, binD, callD, nameD, cD, bindE_v, thenS_v, bindE_x, thenS_x, unD, parS, asgS, tupD, int2F, eq_int, ne_int, intF0, negF, notF, nilS, brD, fnD, addE, subE, ix0, ix1, dropS, asgG, tupG, consG, nameG, nilG, lstD, andD, orD, tstD, ownS, appS, len_tup, len_lst, tup_tup, wipeE, set1, set2, typ_int, typ_tup, typ_non, typ_lst, isF, chainD, asT, truD, len_row, typ_row, E])]
  rw [seq_nx (e' := E none) (M' := M) (by simp [seqS, ifS, retS, raiseF, raiseS, consA, nilA, binD, callD, nameD, cD, bindE_v, thenS_v, bindE_x, thenS_x, unD, parS, asgS, tupD, int2F, eq_int, ne_int, intF0, negF, notF, nilS, brD, fnD, addE, subE, ix0, ix1, dropS, asgG, tupG, consG, nameG, nilG, lstD, andD, orD, tstD, ownS, appS, len_tup, len_lst, tup_tup, wipeE, set1, set2, typ_int, typ_tup, typ_non, typ_lst, isF, chainD, asT, truD, len_row, typ_row, E])]
  have k1 := chain_lt (da := cD (.int 0)) (db := nameD 3) (dc := callD (lenF) (consA (nameD 0) (nilA))) (e := E none) (M := M) (i := 0) (j := Y) (k := H) rfl rfl (by simp [seqS, ifS, retS, raiseF, raiseS, consA, nilA, binD, callD, nameD, cD, bindE_v, thenS_v, bindE_x, thenS_x, unD, parS, asgS, tupD, int2F, eq_int, ne_int, intF0, negF, notF, nilS, brD, fnD, addE, subE, ix0, ix1, dropS, asgG, tupG, consG, nameG, nilG, lstD, andD, orD, tstD, ownS, appS, len_tup, len_lst, tup_tup, wipeE, set1, set2, typ_int, typ_tup, typ_non, typ_lst, isF, chainD, asT, truD, len_row, typ_row, E, ln1])
  have k2 := chain_lt (da := cD (.int 0)) (db := nameD 2) (dc := callD (lenF) (consA (binD ixF (nameD 0) (cD (.int 0))) (nilA))) (e := E none) (M := M) (i := 0) (j := X) (k := W) rfl rfl (by simp [seqS, ifS, retS, raiseF, raiseS, consA, nilA, binD, callD, nameD, cD, bindE_v, thenS_v, bindE_x, thenS_x, unD, parS, asgS, tupD, int2F, eq_int, ne_int, intF0, negF, notF, nilS, brD, fnD, addE, subE, ix0, ix1, dropS, asgG, tupG, consG, nameG, nilG, lstD, andD, orD, tstD, ownS, appS, len_tup, len_lst, tup_tup, wipeE, set1, set2, typ_int, typ_tup, typ_non, typ_lst, isF, chainD, asT, truD, len_row, typ_row, E, r2, a7])
  rw [decide_eq_true (by omega : (0 : Int) ≤ Y), decide_eq_true (by omega : Y < H)] at k1
  rw [decide_eq_true (by omega : (0 : Int) ≤ X), decide_eq_true (by omega : X < W)] at k2
  rw [seq_nx (e' := E none) (M' := M) ((if_f (or_v (a := false) (b := false) (not_v k1) fun _ => not_v k2)).trans rfl)]
  rw [seq_nx (e' := E (some Q1)) (M' := M) (by simp [seqS, ifS, retS, raiseF, raiseS, consA, nilA, binD, callD, nameD, cD, bindE_v, thenS_v, bindE_x, thenS_x, unD, parS, asgS, tupD, int2F, eq_int, ne_int, intF0, negF, notF, nilS, brD, fnD, addE, subE, ix0, ix1, dropS, asgG, tupG, consG, nameG, nilG, lstD, andD, orD, tstD, ownS, appS, len_tup, len_lst, tup_tup, wipeE, set1, set2, typ_int, typ_tup, typ_non, typ_lst, isF, chainD, asT, truD, len_row, typ_row, E, r1])]
  rw [seq_nx (e' := E (some Q1)) (M' := M) ((if_f (or_v (a := false) (b := false) (by simp [seqS, ifS, retS, raiseF, raiseS, consA, nilA, binD, callD, nameD, cD, bindE_v, thenS_v, bindE_x, thenS_x, unD, parS, asgS, tupD, int2F, eq_int, ne_int, intF0, negF, notF, nilS, brD, fnD, addE, subE, ix0, ix1, dropS, asgG, tupG, consG, nameG, nilG, lstD, andD, orD, tstD, ownS, appS, len_tup, len_lst, tup_tup, wipeE, set1, set2, typ_int, typ_tup, typ_non, typ_lst, isF, chainD, asT, truD, len_row, typ_row, E, a1, lt_int, n1]) fun _ => by simp [seqS, ifS, retS, raiseF, raiseS, consA, nilA, binD, callD, nameD, cD, bindE_v, thenS_v, bindE_x, thenS_x, unD, parS, asgS, tupD, int2F, eq_int, ne_int, intF0, negF, notF, nilS, brD, fnD, addE, subE, ix0, ix1, dropS, asgG, tupG, consG, nameG, nilG, lstD, andD, orD, tstD, ownS, appS, len_tup, len_lst, tup_tup, wipeE, set1, set2, typ_int, typ_tup, typ_non, typ_lst, isF, chainD, asT, truD, len_row, typ_row, E, a1, fm, n2])).trans rfl)]
  rw [seq_nx (e' := E (some Q1)) (M' := M) ((if_f (or_v (a := false) (b := false) (by simp [seqS, ifS, retS, raiseF, raiseS, consA, nilA, binD, callD, nameD, cD, bindE_v, thenS_v, bindE_x, thenS_x, unD, parS, asgS, tupD, int2F, eq_int, ne_int, intF0, negF, notF, nilS, brD, fnD, addE, subE, ix0, ix1, dropS, asgG, tupG, consG, nameG, nilG, lstD, andD, orD, tstD, ownS, appS, len_tup, len_lst, tup_tup, wipeE, set1, set2, typ_int, typ_tup, typ_non, typ_lst, isF, chainD, asT, truD, len_row, typ_row, E, a2, gt_int, n3]) fun _ => by simp [seqS, ifS, retS, raiseF, raiseS, consA, nilA, binD, callD, nameD, cD, bindE_v, thenS_v, bindE_x, thenS_x, unD, parS, asgS, tupD, int2F, eq_int, ne_int, intF0, negF, notF, nilS, brD, fnD, addE, subE, ix0, ix1, dropS, asgG, tupG, consG, nameG, nilG, lstD, andD, orD, tstD, ownS, appS, len_tup, len_lst, tup_tup, wipeE, set1, set2, typ_int, typ_tup, typ_non, typ_lst, isF, chainD, asT, truD, len_row, typ_row, E, a3, a6, gt_int, n4])).trans rfl)]
  exact (if_f (or_v (a := false) (b := false) (by simp [seqS, ifS, retS, raiseF, raiseS, consA, nilA, binD, callD, nameD, cD, bindE_v, thenS_v, bindE_x, thenS_x, unD, parS, asgS, tupD, int2F, eq_int, ne_int, intF0, negF, notF, nilS, brD, fnD, addE, subE, ix0, ix1, dropS, asgG, tupG, consG, nameG, nilG, lstD, andD, orD, tstD, ownS, appS, len_tup, len_lst, tup_tup, wipeE, set1, set2, typ_int, typ_tup, typ_non, typ_lst, isF, chainD, asT, truD, len_row, typ_row, E, r2, a4, gt_int, n5]) fun _ => by simp [seqS, ifS, retS, raiseF, raiseS, consA, nilA, binD, callD, nameD, cD, bindE_v, thenS_v, bindE_x, thenS_x, unD, parS, asgS, tupD, int2F, eq_int, ne_int, intF0, negF, notF, nilS, brD, fnD, addE, subE, ix0, ix1, dropS, asgG, tupG, consG, nameG, nilG, lstD, andD, orD, tstD, ownS, appS, len_tup, len_lst, tup_tup, wipeE, set1, set2, typ_int, typ_tup, typ_non, typ_lst, isF, chainD, asT, truD, len_row, typ_row, E, r3, a5, ln1, gt_int, n6])).trans rfl
end
end K63
namespace K63
open PySem L2 DL
section
variable {l : Nat} {A : Mx} {M : Store}
theorem needsq_ok (h1 : 1 ≤ l) (h6 : l ≤ 6) (hA : ∀ i j, i < l → j < l → A i j ≠ 0) (M : Store) : m_need_square [dueD l A, aimD l] M = ok .non M := by
  have nf := needflat_ok h1 h6 hA
  have tg := target_ok h1 h6
  have i0 : ∀ M, ixF (dueD l A) (.int 0) M = ok (tabD (fw l) (fh l) (hD flatH)) M := fun M => ix0 _ _ _
  have i2 : ∀ M, ixF (aimD l) (.int 2) M = ok (.int (l : Int)) M := fun M => ix_tup rfl
  have n1 : ¬ (l : Int) < 1 := by omega
  generalize (l : Int) = L at *
  generalize aimD l = B at *
  generalize dueD l A = R at *
  generalize tabD (fw l) (fh l) (hD flatH) = T at *
  refine fv_nx (e0 := [some R, some B]) (e' := [some R, some B]) [] rfl ?_
  rw [List.append_nil]
  unfold den_need_square
  rw [seq_nx (e' := [some R, some B]) (M' := M) (by simp [seqS, ifS, retS, raiseF, raiseS, consA, nilA, binD, callD, nameD, cD, bindE_v, thenS_v, bindE_x, thenS_x, unD, parS, asgS, tupD, int2F, eq_int, ne_int, intF0, negF, notF, nilS, brD, fnD, addE, subE, ix0, ix1, dropS, asgG, tupG, consG, nameG, nilG, lstD, andD, orD, tstD, ownS, appS, len_tup, len_lst, tup_tup, wipeE, set1, set2, typ_int, typ_tup, typ_non, typ_lst, isF, chainD, asT, truD, len_row, typ_row, nf]), seq_nx (e' := [some R, some B]) (M' := M) (by simp [seqS, ifS, retS, raiseF, raiseS, consA, nilA, binD, callD, nameD, cD, bindE_v, thenS_v, bindE_x, thenS_x, unD, parS, asgS, tupD, int2F, eq_int, ne_int, intF0, negF, notF, nilS, brD, fnD, addE, subE, ix0, ix1, dropS, asgG, tupG, consG, nameG, nilG, lstD, andD, orD, tstD, ownS, appS, len_tup, len_lst, tup_tup, wipeE, set1, set2, typ_int, typ_tup, typ_non, typ_lst, isF, chainD, asT, truD, len_row, typ_row, i0, tg])]
  exact (if_f (by simp [seqS, ifS, retS, raiseF, raiseS, consA, nilA, binD, callD, nameD, cD, bindE_v, thenS_v, bindE_x, thenS_x, unD, parS, asgS, tupD, int2F, eq_int, ne_int, intF0, negF, notF, nilS, brD, fnD, addE, subE, ix0, ix1, dropS, asgG, tupG, consG, nameG, nilG, lstD, andD, orD, tstD, ownS, appS, len_tup, len_lst, tup_tup, wipeE, set1, set2, typ_int, typ_tup, typ_non, typ_lst, isF, chainD, asT, truD, len_row, typ_row, i2, lt_int, n1])).trans rfl
theorem worthsat_ok (h1 : 1 ≤ l) (h6 : l ≤ 6) (M : Store) : m__worths_at [dueD l A, sqD' l] M = ok (gridD l A) M := by
  have i1 : ∀ M, ixF (dueD l A) (.int 1) M = ok (wTab l A) M := fun M => ix1 _ _ _ _
  have at' : ∀ r c M, r < l → c < l → m_at [wTab l A, spR l r c] M = ok (qD (A r c)) M := fun r c M hr hc => by
    have q := at_ok (w := fw l) (h := fh l) (f := fun x y => qD (pTab l A l x y)) (M := M) (x := sx l r c) (y := sy l r c) (fun _ _ _ _ => rfl) (sq_lt h1 hr hc).1 (sq_lt h1 hr hc).2
    rw [pTab_at hr hc l (Nat.le_refl _) hr] at q
    exact q
  obtain ⟨R, hR⟩ : ∃ R, R = dueD l A := ⟨_, rfl⟩
  obtain ⟨T, hT⟩ : ∃ R, R = wTab l A := ⟨_, rfl⟩
  obtain ⟨S, hS⟩ : ∃ R, R = sqD' l := ⟨_, rfl⟩
  rw [← hR, ← hT] at i1
  rw [← hT] at at'
  rw [← hR, ← hS]
  refine fv_rt0 (e0 := [some R, some S, none, none]) rfl ?_ nl_grid
  unfold den__worths_at
  have t := tupcompR (n := l) (f := fun r => rowD l fun c => qD (A r c)) (g := fun r => rowD l (spR l r)) (i := 2) (e := [some R, some S, none, none]) (de := (callD (tupcF) (consA (cutE (compD (set1 3) (cD (.bl true)) (fnD m_at 2 [] (consA (binD ixF (nameD 0) (cD (.int 1))) (consA (nameD 3) (nilA)))) [3] (itD (nameD 2)))) (nilA)))) (di := itD (nameD 1)) (fun M => it_row (by show ok S M = _; rw [hS])) (by omega) (fun r hr M => ?_) (fun _ _ => nl_row fun _ _ => rfl) M
  · unfold retS
    rw [t]
    rfl
  · obtain ⟨Q, hQ⟩ : ∃ Q, Q = rowD l (spR l r) := ⟨_, rfl⟩
    rw [← hQ]
    exact tupcompR (n := l) (f := fun c => qD (A r c)) (g := spR l r) (i := 3) (e := [some R, some S, some Q, none]) (de := (fnD m_at 2 [] (consA (binD ixF (nameD 0) (cD (.int 1))) (consA (nameD 3) (nilA))))) (di := itD (nameD 2)) (fun M => it_row (by show ok Q M = _; rw [hQ])) (by omega) (fun c hc M => by
      have q := fun M => at' r c M hr hc
      generalize spR l r c = sp at *
      generalize qD (A r c) = v at *
      simp [seqS, ifS, retS, raiseF, raiseS, consA, nilA, binD, callD, nameD, cD, bindE_v, thenS_v, bindE_x, thenS_x, unD, parS, asgS, tupD, int2F, eq_int, ne_int, intF0, negF, notF, nilS, brD, fnD, addE, subE, ix0, ix1, dropS, asgG, tupG, consG, nameG, nilG, lstD, andD, orD, tstD, ownS, appS, len_tup, len_lst, tup_tup, wipeE, set1, set2, typ_int, typ_tup, typ_non, typ_lst, isF, chainD, asT, truD, len_row, typ_row, i1, q]) (fun _ _ => rfl) M
theorem sqw_st {R B S G : D} {M : Store} (ns : ∀ M, m_need_square [R, B] M = ok .non M) (so : ∀ M, m_square_of [B] M = ok S M) (wa : ∀ M, m__worths_at [R, S] M = ok G M) (ng : nlD 0 G = true) : m_square_worths [R, B] M = ok G M := by
  refine fv_rt0 (e0 := [some R, some B]) rfl ?_ ng
  unfold den_square_worths
  rw [seq_nx (e' := [some R, some B]) (M' := M) (by simp [seqS, ifS, retS, raiseF, raiseS, consA, nilA, binD, callD, nameD, cD, bindE_v, thenS_v, bindE_x, thenS_x, unD, parS, asgS, tupD, int2F, eq_int, ne_int, intF0, negF, notF, nilS, brD, fnD, addE, subE, ix0, ix1, dropS, asgG, tupG, consG, nameG, nilG, lstD, andD, orD, tstD, ownS, appS, len_tup, len_lst, tup_tup, wipeE, set1, set2, typ_int, typ_tup, typ_non, typ_lst, isF, chainD, asT, truD, len_row, typ_row, ns])]
  simp [seqS, ifS, retS, raiseF, raiseS, consA, nilA, binD, callD, nameD, cD, bindE_v, thenS_v, bindE_x, thenS_x, unD, parS, asgS, tupD, int2F, eq_int, ne_int, intF0, negF, notF, nilS, brD, fnD, addE, subE, ix0, ix1, dropS, asgG, tupG, consG, nameG, nilG, lstD, andD, orD, tstD, ownS, appS, len_tup, len_lst, tup_tup, wipeE, set1, set2, typ_int, typ_tup, typ_non, typ_lst, isF, chainD, asT, truD, len_row, typ_row, so, wa]
theorem sqworths_ok (h1 : 1 ≤ l) (h6 : l ≤ 6) (hA : ∀ i j, i < l → j < l → A i j ≠ 0) (M : Store) : m_square_worths [dueD l A, aimD l] M = ok (gridD l A) M := sqw_st (needsq_ok h1 h6 hA) (square_ok h1 h6) (fun M => worthsat_ok (A := A) (M := M) h1 h6) nl_grid
/-- a nought among the entries -/
theorem nonought_bad (hz : ∃ i j, i < l ∧ j < l ∧ A i j = 0) (M : Store) : m_need_no_nought [gridD l A] M = some (.exc "BadRows" [], M) := by
  have it : ∀ (e : DL.Env) M, e[0]? = some (some (gridD l A)) → itD (nameD 0) e M = ok ((List.range l).map fun i => rowD l fun j => qD (A i j), fun _ => True) M := fun e M he => it_row (by
    unfold nameD
    rw [he])
  obtain ⟨Q, hQ⟩ : ∃ Q : Nat → D, Q = fun i => rowD l fun j => qD (A i j) := ⟨_, rfl⟩
  have hQ' : ∀ i, (rowD l fun j => qD (A i j)) = Q i := fun i => by rw [hQ]
  have it1 : ∀ i (e : DL.Env) M, e[1]? = some (some (Q i)) → itD (nameD 1) e M = ok ((List.range l).map fun j => qD (A i j), fun _ => True) M := fun i e M he => it_row (by
    unfold nameD
    rw [he, ← hQ'])
  obtain ⟨R, hR⟩ : ∃ R, R = gridD l A := ⟨_, rfl⟩
  rw [← hR] at it ⊢
  simp only [hQ'] at it
  have key : Wp (den_need_no_nought [some R, none, none, none] M) (fun f M' => (∃ e', f = .ex "BadRows" [] e') ∧ M' = M) := by
    unfold den_need_no_nought
    refine wp_forX ((List.range l).map fun i => Q i) (fun i e M' => M' = M ∧ (∃ b c d, e = [some R, b, c, d]) ∧ ∀ r c, r < i → c < l → A r c ≠ 0) (it _ _ rfl) (fun j d e M' hd hi => ?_) (fun _ _ _ => trivial) ⟨rfl, ⟨_, _, _, rfl⟩, fun r c hr _ => absurd hr (Nat.not_lt_zero r)⟩ (fun e' M' hi => ?_)
    · obtain ⟨rfl, ⟨b, c, d', rfl⟩, hn⟩ := hi
      obtain ⟨hj, rfl⟩ := map_getR hd
      refine ⟨trivial, [some R, some (Q j), c, d'], M', by simp [seqS, ifS, retS, raiseF, raiseS, consA, nilA, binD, callD, nameD, cD, bindE_v, thenS_v, bindE_x, thenS_x, unD, parS, asgS, tupD, int2F, eq_int, ne_int, intF0, negF, notF, nilS, brD, fnD, addE, subE, ix0, ix1, dropS, asgG, tupG, consG, nameG, nilG, lstD, andD, orD, tstD, ownS, appS, len_tup, len_lst, tup_tup, wipeE, set1, set2, typ_int, typ_tup, typ_non, typ_lst, isF, chainD, asT, truD, len_row, typ_row], ?_⟩
      refine wp_forX ((List.range l).map fun c => qD (A j c)) (fun k e M'' => M'' = M' ∧ (∃ c d, e = [some R, some (Q j), c, d]) ∧ ∀ c, c < k → A j c ≠ 0) (it1 j _ _ rfl) (fun k d e M'' hd hi => ?_) (fun _ _ _ => trivial) ⟨rfl, ⟨_, _, rfl⟩, fun c hc => absurd hc (Nat.not_lt_zero c)⟩ (fun e' M'' hi => ?_)
      · obtain ⟨rfl, ⟨c, d', rfl⟩, hn2⟩ := hi
        obtain ⟨hk, rfl⟩ := map_getR hd
        show True ∧ ∃ e1 M1, tupG 2 (consG (nameG 2) (consG (nameG 3) nilG)) (.tup [.int (A j k).num, .int ((A j k).den : Int)]) _ _ = _ ∧ _
        obtain ⟨nn, hnn⟩ : ∃ z, z = (A j k).num := ⟨_, rfl⟩
        obtain ⟨dd, hdd⟩ : ∃ z : Int, z = ((A j k).den : Int) := ⟨_, rfl⟩
        rw [← hnn, ← hdd]
        obtain ⟨q, hq⟩ : ∃ z, z = Q j := ⟨_, rfl⟩
        rw [← hq]
        refine ⟨trivial, [some R, some q, some (.int nn), some (.int dd)], M'', by simp [seqS, ifS, retS, raiseF, raiseS, consA, nilA, binD, callD, nameD, cD, bindE_v, thenS_v, bindE_x, thenS_x, unD, parS, asgS, tupD, int2F, eq_int, ne_int, intF0, negF, notF, nilS, brD, fnD, addE, subE, ix0, ix1, dropS, asgG, tupG, consG, nameG, nilG, lstD, andD, orD, tstD, ownS, appS, len_tup, len_lst, tup_tup, wipeE, set1, set2, typ_int, typ_tup, typ_non, typ_lst, isF, chainD, asT, truD, len_row, typ_row], ?_⟩
        by_cases z : nn = 0
        · exact wp_of (M' := M'') (.ex "BadRows" [] [some R, some q, some (.int nn), some (.int dd)]) (by simp [seqS, ifS, retS, raiseF, raiseS, consA, nilA, binD, callD, nameD, cD, bindE_v, thenS_v, bindE_x, thenS_x, unD, parS, asgS, tupD, int2F, eq_int, ne_int, intF0, negF, notF, nilS, brD, fnD, addE, subE, ix0, ix1, dropS, asgG, tupG, consG, nameG, nilG, lstD, andD, orD, tstD, ownS, appS, len_tup, len_lst, tup_tup, wipeE, set1, set2, typ_int, typ_tup, typ_non, typ_lst, isF, chainD, asT, truD, len_row, typ_row, z]) (.inr ⟨rfl, .inr ⟨rfl, ⟨_, rfl⟩, rfl⟩⟩)
        · refine wp_of (M' := M'') (.nx [some R, some q, some (.int nn), some (.int dd)]) (by simp [seqS, ifS, retS, raiseF, raiseS, consA, nilA, binD, callD, nameD, cD, bindE_v, thenS_v, bindE_x, thenS_x, unD, parS, asgS, tupD, int2F, eq_int, ne_int, intF0, negF, notF, nilS, brD, fnD, addE, subE, ix0, ix1, dropS, asgG, tupG, consG, nameG, nilG, lstD, andD, orD, tstD, ownS, appS, len_tup, len_lst, tup_tup, wipeE, set1, set2, typ_int, typ_tup, typ_non, typ_lst, isF, chainD, asT, truD, len_row, typ_row, z]) (.inl ⟨_, .inl rfl, rfl, ⟨_, _, rfl⟩, fun c hc => ?_⟩)
          by_cases ck : c = k
          · rw [ck]
            intro w
            rw [w] at hnn
            exact z hnn
          · exact hn2 c (by omega)
      · obtain ⟨rfl, ⟨c, d', rfl⟩, hn2⟩ := hi
        rw [List.length_map, List.length_range] at hn2
        refine .inl ⟨_, .inl rfl, rfl, ⟨_, _, _, rfl⟩, fun r c hr hc => ?_⟩
        by_cases rj : r = j
        · rw [rj]
          exact hn2 c hc
        · exact hn r c (by omega) hc
    · obtain ⟨rfl, _, hn⟩ := hi
      rw [List.length_map, List.length_range] at hn
      obtain ⟨i, j, hi, hj, hz⟩ := hz
      exact absurd hz (hn i j hi hj)
  obtain ⟨f, M', k1, ⟨e', rfl⟩, rfl⟩ := key
  exact fv_ex (e0 := [some R, none, none, none]) [] rfl (by rw [k1, List.append_nil]) rfl
end
end K63
namespace K63
open PySem L2 DL
theorem need_no {x : D} {M : Store} (t : ∃ b, orD (binD (isF true) (callD (typF) (consA (nameD 0) (nilA))) (cD (.ty "tuple"))) (unD notF (chainD leF leF (nameD 1) (callD (lenF) (consA (nameD 0) (nilA))) (nameD 2))) [some x, some (.int 1), some (.int 6), none] M = ok (.bl b) M ∧ b = true) : m_need_rows [x, .int 1, .int 6] M = some (.exc "BadRows" [], M) := by
  obtain ⟨b, h1, rfl⟩ := t
  refine fv_ex (e0 := [some x, some (.int 1), some (.int 6), none]) (e' := [some x, some (.int 1), some (.int 6), none]) [] rfl ?_ rfl
  unfold den_need_rows
  refine seq_ex ?_
  rw [if_t h1, List.append_nil]
  rfl
/-- rows one of which is none -/
theorem need_bad {ds : List D} {b : D → Bool} (hl : ds.length ≤ 6) (h : ∀ d ∈ ds, ∀ M, m__is_row [d, .int (ds.length : Int)] M = ok (.bl (b d)) M) (hb : ∃ d ∈ ds, b d = false) (M : Store) : m_need_rows [.tup ds, .int 1, .int 6] M = some (.exc "BadRows" [], M) := by
  have l1 : 1 ≤ ds.length := by
    obtain ⟨d, hd, _⟩ := hb
    exact List.length_pos_of_mem hd
  obtain ⟨N, hN⟩ : ∃ N : Int, N = (ds.length : Int) := ⟨_, rfl⟩
  have ln : ∀ M, lenF [.tup ds] M = ok (.int N) M := fun M => by rw [hN]; rfl
  have it : ∀ (e : DL.Env) M, e[0]? = some (some (.tup ds)) → itD (nameD 0) e M = ok (ds, fun _ => True) M := fun e M he => it_tup (by
    unfold nameD
    rw [he])
  rw [← hN] at h
  obtain ⟨R, hR⟩ : ∃ R, R = D.tup ds := ⟨_, rfl⟩
  have ty : ∀ M, typF [R] M = ok (.ty "tuple") M := fun M => by rw [hR]; rfl
  rw [← hR] at ln it ⊢
  have key : Wp (den_need_rows [some R, some (.int 1), some (.int 6), none] M) (fun f M' => (∃ e', f = .ex "BadRows" [] e') ∧ M' = M) := by
    unfold den_need_rows
    have ch := chain_le (da := nameD 1) (db := callD lenF (consA (nameD 0) nilA)) (dc := nameD 2) (e := [some R, some (.int 1), some (.int 6), none]) (M := M) (i := 1) (j := N) (k := 6) (by simp [seqS, ifS, retS, raiseF, raiseS, consA, nilA, binD, callD, nameD, cD, bindE_v, thenS_v, bindE_x, thenS_x, unD, parS, asgS, tupD, int2F, eq_int, ne_int, intF0, negF, notF, nilS, brD, fnD, addE, subE, ix0, ix1, dropS, asgG, tupG, consG, nameG, nilG, lstD, andD, orD, tstD, ownS, appS, len_tup, len_lst, tup_tup, wipeE, set1, set2, typ_int, typ_tup, typ_non, typ_lst, isF, chainD, asT, truD, len_row, typ_row]) (by simp [seqS, ifS, retS, raiseF, raiseS, consA, nilA, binD, callD, nameD, cD, bindE_v, thenS_v, bindE_x, thenS_x, unD, parS, asgS, tupD, int2F, eq_int, ne_int, intF0, negF, notF, nilS, brD, fnD, addE, subE, ix0, ix1, dropS, asgG, tupG, consG, nameG, nilG, lstD, andD, orD, tstD, ownS, appS, len_tup, len_lst, tup_tup, wipeE, set1, set2, typ_int, typ_tup, typ_non, typ_lst, isF, chainD, asT, truD, len_row, typ_row, ln]) (by simp [seqS, ifS, retS, raiseF, raiseS, consA, nilA, binD, callD, nameD, cD, bindE_v, thenS_v, bindE_x, thenS_x, unD, parS, asgS, tupD, int2F, eq_int, ne_int, intF0, negF, notF, nilS, brD, fnD, addE, subE, ix0, ix1, dropS, asgG, tupG, consG, nameG, nilG, lstD, andD, orD, tstD, ownS, appS, len_tup, len_lst, tup_tup, wipeE, set1, set2, typ_int, typ_tup, typ_non, typ_lst, isF, chainD, asT, truD, len_row, typ_row])
    rw [decide_eq_true (by omega : (1 : Int) ≤ N), decide_eq_true (by omega : N ≤ 6)] at ch
    refine wp_nx (e' := [some R, some (.int 1), some (.int 6), none]) (M' := M) ((if_f (or_v (a := false) (b := false) (by simp [seqS, ifS, retS, raiseF, raiseS, consA, nilA, binD, callD, nameD, cD, bindE_v, thenS_v, bindE_x, thenS_x, unD, parS, asgS, tupD, int2F, eq_int, ne_int, intF0, negF, notF, nilS, brD, fnD, addE, subE, ix0, ix1, dropS, asgG, tupG, consG, nameG, nilG, lstD, andD, orD, tstD, ownS, appS, len_tup, len_lst, tup_tup, wipeE, set1, set2, typ_int, typ_tup, typ_non, typ_lst, isF, chainD, asT, truD, len_row, typ_row, ty]) fun _ => not_v ch)).trans rfl) ?_
    refine wp_forX ds (fun j e M' => M' = M ∧ (∃ a, e = [some R, some (.int 1), some (.int 6), a]) ∧ ∀ i, i < j → ∀ d, ds[i]? = some d → b d = true) (it _ _ rfl) (fun j d e M' hd hi => ?_) (fun _ _ _ => trivial) ⟨rfl, ⟨_, rfl⟩, fun i hi => absurd hi (Nat.not_lt_zero i)⟩ (fun e' M' hi => ?_)
    · obtain ⟨rfl, ⟨a, rfl⟩, hb'⟩ := hi
      have q := h d (List.mem_of_getElem? hd)
      refine ⟨trivial, [some R, some (.int 1), some (.int 6), some d], M', by simp [seqS, ifS, retS, raiseF, raiseS, consA, nilA, binD, callD, nameD, cD, bindE_v, thenS_v, bindE_x, thenS_x, unD, parS, asgS, tupD, int2F, eq_int, ne_int, intF0, negF, notF, nilS, brD, fnD, addE, subE, ix0, ix1, dropS, asgG, tupG, consG, nameG, nilG, lstD, andD, orD, tstD, ownS, appS, len_tup, len_lst, tup_tup, wipeE, set1, set2, typ_int, typ_tup, typ_non, typ_lst, isF, chainD, asT, truD, len_row, typ_row], ?_⟩
      cases hbd : b d with
      | true =>
        rw [hbd] at q
        refine wp_of (M' := M') (.nx [some R, some (.int 1), some (.int 6), some d]) (by simp [seqS, ifS, retS, raiseF, raiseS, consA, nilA, binD, callD, nameD, cD, bindE_v, thenS_v, bindE_x, thenS_x, unD, parS, asgS, tupD, int2F, eq_int, ne_int, intF0, negF, notF, nilS, brD, fnD, addE, subE, ix0, ix1, dropS, asgG, tupG, consG, nameG, nilG, lstD, andD, orD, tstD, ownS, appS, len_tup, len_lst, tup_tup, wipeE, set1, set2, typ_int, typ_tup, typ_non, typ_lst, isF, chainD, asT, truD, len_row, typ_row, ln, q]) (.inl ⟨_, .inl rfl, rfl, ⟨_, rfl⟩, fun i hi d' hd' => ?_⟩)
        by_cases c : i = j
        · subst c
          rw [hd] at hd'
          cases hd'
          exact hbd
        · exact hb' i (by omega) d' hd'
      | false =>
        rw [hbd] at q
        exact wp_of (M' := M') (.ex "BadRows" [] [some R, some (.int 1), some (.int 6), some d]) (by simp [seqS, ifS, retS, raiseF, raiseS, consA, nilA, binD, callD, nameD, cD, bindE_v, thenS_v, bindE_x, thenS_x, unD, parS, asgS, tupD, int2F, eq_int, ne_int, intF0, negF, notF, nilS, brD, fnD, addE, subE, ix0, ix1, dropS, asgG, tupG, consG, nameG, nilG, lstD, andD, orD, tstD, ownS, appS, len_tup, len_lst, tup_tup, wipeE, set1, set2, typ_int, typ_tup, typ_non, typ_lst, isF, chainD, asT, truD, len_row, typ_row, ln, q]) (.inr ⟨rfl, ⟨_, rfl⟩, rfl⟩)
    · obtain ⟨rfl, ⟨a, rfl⟩, hb'⟩ := hi
      obtain ⟨d, hd, hbd⟩ := hb
      obtain ⟨i, hi⟩ := List.getElem?_of_mem hd
      have := hb' i (get_lt hi) d hi
      rw [hbd] at this
      cases this
  obtain ⟨f, M', h1, ⟨e', rfl⟩, rfl⟩ := key
  exact fv_ex (e0 := [some R, some (.int 1), some (.int 6), none]) [] rfl (by rw [h1, List.append_nil]) rfl
/-- no row: another thing, or of another length -/
theorem isrow_no {x : D} {n : Int} {M : Store} (h : ∀ M, m_is_tuple_of [x, .int n] M = ok (.bl false) M) : m__is_row [x, .int n] M = ok (.bl false) M := by
  refine fv_rt0 (e0 := [some x, some (.int n), none, none, none]) rfl ?_ rfl
  unfold den__is_row
  exact seq_rt ((if_t (by simp [seqS, ifS, retS, raiseF, raiseS, consA, nilA, binD, callD, nameD, cD, bindE_v, thenS_v, bindE_x, thenS_x, unD, parS, asgS, tupD, int2F, eq_int, ne_int, intF0, negF, notF, nilS, brD, fnD, addE, subE, ix0, ix1, dropS, asgG, tupG, consG, nameG, nilG, lstD, andD, orD, tstD, ownS, appS, len_tup, len_lst, tup_tup, wipeE, set1, set2, typ_int, typ_tup, typ_non, typ_lst, isF, chainD, asT, truD, len_row, typ_row, h])).trans rfl)
noncomputable abbrev Bd1 : DenS := seqS (ifS (orD (binD (isF true) (callD (typF) (consA (nameD 2) (nilA))) (cD (.ty "tuple"))) (binD (neF) (callD (lenF) (consA (nameD 2) (nilA))) (cD (.int 2)))) (retS (cD (.bl false))) (nilS)) (seqS (asgG (nameD 2) (tupG 2 (consG (nameG 3) (consG (nameG 4) (nilG))))) (seqS (ifS (orD (binD (isF true) (callD (typF) (consA (nameD 3) (nilA))) (cD (.ty "int"))) (binD (isF true) (callD (typF) (consA (nameD 4) (nilA))) (cD (.ty "int")))) (retS (cD (.bl false))) (nilS)) (ifS (andD (binD (neF) (nameD 4) (cD (.int 1))) (orD (binD (ltF) (nameD 4) (cD (.int 1))) (binD (neF) (callD gcdF (consA (nameD 3) (consA (nameD 4) (nilA)))) (cD (.int 1))))) (retS (cD (.bl false))) (nilS))))
/-- what is no fraction ends the look at a row -/
def BadE (x : D) : Prop := ∀ (R : D) (n : Int) (a b : Option D) (M : Store), Bd1 [some R, some (.int n), some x, a, b] M = some (.rt (.bl false), M)
theorem bad_non : BadE .non := fun R n a b M => seq_rt ((if_t (by simp [seqS, ifS, retS, raiseF, raiseS, consA, nilA, binD, callD, nameD, cD, bindE_v, thenS_v, bindE_x, thenS_x, unD, parS, asgS, tupD, int2F, eq_int, ne_int, intF0, negF, notF, nilS, brD, fnD, addE, subE, ix0, ix1, dropS, asgG, tupG, consG, nameG, nilG, lstD, andD, orD, tstD, ownS, appS, len_tup, len_lst, tup_tup, wipeE, set1, set2, typ_int, typ_tup, typ_non, typ_lst, isF, chainD, asT, truD, len_row, typ_row, typ_non])).trans rfl)
theorem bad_int {i : Int} : BadE (.int i) := fun R n a b M => seq_rt ((if_t (by simp [seqS, ifS, retS, raiseF, raiseS, consA, nilA, binD, callD, nameD, cD, bindE_v, thenS_v, bindE_x, thenS_x, unD, parS, asgS, tupD, int2F, eq_int, ne_int, intF0, negF, notF, nilS, brD, fnD, addE, subE, ix0, ix1, dropS, asgG, tupG, consG, nameG, nilG, lstD, andD, orD, tstD, ownS, appS, len_tup, len_lst, tup_tup, wipeE, set1, set2, typ_int, typ_tup, typ_non, typ_lst, isF, chainD, asT, truD, len_row, typ_row, typ_int])).trans rfl)
theorem bad_str {i : Str} : BadE (.str i) := fun R n a b M => seq_rt ((if_t (by simp [seqS, ifS, retS, raiseF, raiseS, consA, nilA, binD, callD, nameD, cD, bindE_v, thenS_v, bindE_x, thenS_x, unD, parS, asgS, tupD, int2F, eq_int, ne_int, intF0, negF, notF, nilS, brD, fnD, addE, subE, ix0, ix1, dropS, asgG, tupG, consG, nameG, nilG, lstD, andD, orD, tstD, ownS, appS, len_tup, len_lst, tup_tup, wipeE, set1, set2, typ_int, typ_tup, typ_non, typ_lst, isF, chainD, asT, truD, len_row, typ_row, show ∀ M, typF [.str i] M = ok (.ty "str") M from fun M => rfl])).trans rfl)
theorem bad_lst {ds : List D} : BadE (.lst ds) := fun R n a b M => seq_rt ((if_t (by simp [seqS, ifS, retS, raiseF, raiseS, consA, nilA, binD, callD, nameD, cD, bindE_v, thenS_v, bindE_x, thenS_x, unD, parS, asgS, tupD, int2F, eq_int, ne_int, intF0, negF, notF, nilS, brD, fnD, addE, subE, ix0, ix1, dropS, asgG, tupG, consG, nameG, nilG, lstD, andD, orD, tstD, ownS, appS, len_tup, len_lst, tup_tup, wipeE, set1, set2, typ_int, typ_tup, typ_non, typ_lst, isF, chainD, asT, truD, len_row, typ_row])).trans rfl)
theorem bad_len {ds : List D} (h : ¬ (ds.length : Int) = 2) : BadE (.tup ds) := fun R n a b M => seq_rt ((if_t (by simp [seqS, ifS, retS, raiseF, raiseS, consA, nilA, binD, callD, nameD, cD, bindE_v, thenS_v, bindE_x, thenS_x, unD, parS, asgS, tupD, int2F, eq_int, ne_int, intF0, negF, notF, nilS, brD, fnD, addE, subE, ix0, ix1, dropS, asgG, tupG, consG, nameG, nilG, lstD, andD, orD, tstD, ownS, appS, len_tup, len_lst, tup_tup, wipeE, set1, set2, typ_int, typ_tup, typ_non, typ_lst, isF, chainD, asT, truD, len_row, typ_row, h])).trans rfl)
theorem bad_bl {c : Bool} {i : Int} : BadE (.tup [.bl c, .int i]) := fun R n a b M => by
  unfold Bd1
  rw [seq_nx (e' := [some R, some (.int n), some (.tup [.bl c, .int i]), a, b]) (M' := M) (by simp [seqS, ifS, retS, raiseF, raiseS, consA, nilA, binD, callD, nameD, cD, bindE_v, thenS_v, bindE_x, thenS_x, unD, parS, asgS, tupD, int2F, eq_int, ne_int, intF0, negF, notF, nilS, brD, fnD, addE, subE, ix0, ix1, dropS, asgG, tupG, consG, nameG, nilG, lstD, andD, orD, tstD, ownS, appS, len_tup, len_lst, tup_tup, wipeE, set1, set2, typ_int, typ_tup, typ_non, typ_lst, isF, chainD, asT, truD, len_row, typ_row]), seq_nx (e' := [some R, some (.int n), some (.tup [.bl c, .int i]), some (.bl c), some (.int i)]) (M' := M) (by simp [seqS, ifS, retS, raiseF, raiseS, consA, nilA, binD, callD, nameD, cD, bindE_v, thenS_v, bindE_x, thenS_x, unD, parS, asgS, tupD, int2F, eq_int, ne_int, intF0, negF, notF, nilS, brD, fnD, addE, subE, ix0, ix1, dropS, asgG, tupG, consG, nameG, nilG, lstD, andD, orD, tstD, ownS, appS, len_tup, len_lst, tup_tup, wipeE, set1, set2, typ_int, typ_tup, typ_non, typ_lst, isF, chainD, asT, truD, len_row, typ_row])]
  exact seq_rt ((if_t (by simp [seqS, ifS, retS, raiseF, raiseS, consA, nilA, binD, callD, nameD, cD, bindE_v, thenS_v, bindE_x, thenS_x, unD, parS, asgS, tupD, int2F, eq_int, ne_int, intF0, negF, notF, nilS, brD, fnD, addE, subE, ix0, ix1, dropS, asgG, tupG, consG, nameG, nilG, lstD, andD, orD, tstD, ownS, appS, len_tup, len_lst, tup_tup, wipeE, set1, set2, typ_int, typ_tup, typ_non, typ_lst, isF, chainD, asT, truD, len_row, typ_row, show ∀ M, typF [.bl c] M = ok (.ty "bool") M from fun M => rfl])).trans rfl)
theorem bad_pair {u l : Int} (h : l ≠ 1) (h2 : l < 1 ∨ Nat.gcd u.natAbs l.natAbs ≠ 1) : BadE (.tup [.int u, .int l]) := fun R n a b M => by
  unfold Bd1
  rw [seq_nx (e' := [some R, some (.int n), some (.tup [.int u, .int l]), a, b]) (M' := M) (by simp [seqS, ifS, retS, raiseF, raiseS, consA, nilA, binD, callD, nameD, cD, bindE_v, thenS_v, bindE_x, thenS_x, unD, parS, asgS, tupD, int2F, eq_int, ne_int, intF0, negF, notF, nilS, brD, fnD, addE, subE, ix0, ix1, dropS, asgG, tupG, consG, nameG, nilG, lstD, andD, orD, tstD, ownS, appS, len_tup, len_lst, tup_tup, wipeE, set1, set2, typ_int, typ_tup, typ_non, typ_lst, isF, chainD, asT, truD, len_row, typ_row]), seq_nx (e' := [some R, some (.int n), some (.tup [.int u, .int l]), some (.int u), some (.int l)]) (M' := M) (by simp [seqS, ifS, retS, raiseF, raiseS, consA, nilA, binD, callD, nameD, cD, bindE_v, thenS_v, bindE_x, thenS_x, unD, parS, asgS, tupD, int2F, eq_int, ne_int, intF0, negF, notF, nilS, brD, fnD, addE, subE, ix0, ix1, dropS, asgG, tupG, consG, nameG, nilG, lstD, andD, orD, tstD, ownS, appS, len_tup, len_lst, tup_tup, wipeE, set1, set2, typ_int, typ_tup, typ_non, typ_lst, isF, chainD, asT, truD, len_row, typ_row])]
  rw [seq_nx (e' := [some R, some (.int n), some (.tup [.int u, .int l]), some (.int u), some (.int l)]) (M' := M) (by simp [seqS, ifS, retS, raiseF, raiseS, consA, nilA, binD, callD, nameD, cD, bindE_v, thenS_v, bindE_x, thenS_x, unD, parS, asgS, tupD, int2F, eq_int, ne_int, intF0, negF, notF, nilS, brD, fnD, addE, subE, ix0, ix1, dropS, asgG, tupG, consG, nameG, nilG, lstD, andD, orD, tstD, ownS, appS, len_tup, len_lst, tup_tup, wipeE, set1, set2, typ_int, typ_tup, typ_non, typ_lst, isF, chainD, asT, truD, len_row, typ_row])]
  refine (if_t ?_).trans rfl
  by_cases c : l < 1
  · simp [seqS, ifS, retS, raiseF, raiseS, consA, nilA, binD, callD, nameD, cD, bindE_v, thenS_v, bindE_x, thenS_x, unD, parS, asgS, tupD, int2F, eq_int, ne_int, intF0, negF, notF, nilS, brD, fnD, addE, subE, ix0, ix1, dropS, asgG, tupG, consG, nameG, nilG, lstD, andD, orD, tstD, ownS, appS, len_tup, len_lst, tup_tup, wipeE, set1, set2, typ_int, typ_tup, typ_non, typ_lst, isF, chainD, asT, truD, len_row, typ_row, h, lt_int, c]
  · have c2 : ¬ ((Nat.gcd u.natAbs l.natAbs : Nat) : Int) = 1 := by
      rcases h2 with q | q
      · exact absurd q c
      · omega
    have gc : ∀ M, gcdF [.int u, .int l] M = ok (.int ((Nat.gcd u.natAbs l.natAbs : Nat) : Int)) M := fun M => gcd_ev
    generalize ((Nat.gcd u.natAbs l.natAbs : Nat) : Int) = G at *
    simp [seqS, ifS, retS, raiseF, raiseS, consA, nilA, binD, callD, nameD, cD, bindE_v, thenS_v, bindE_x, thenS_x, unD, parS, asgS, tupD, int2F, eq_int, ne_int, intF0, negF, notF, nilS, brD, fnD, addE, subE, ix0, ix1, dropS, asgG, tupG, consG, nameG, nilG, lstD, andD, orD, tstD, ownS, appS, len_tup, len_lst, tup_tup, wipeE, set1, set2, typ_int, typ_tup, typ_non, typ_lst, isF, chainD, asT, truD, len_row, typ_row, h, lt_int, c, gc, c2]
theorem good_pair (r : Rat) (R : D) (n : Int) (a b : Option D) (M : Store) : Bd1 [some R, some (.int n), some (qD r), a, b] M = some (.nx [some R, some (.int n), some (qD r), some (.int r.num), some (.int (r.den : Int))], M) := by
  have rd := r.reduced
  have dp := r.den_pos
  have gc : ∀ M, gcdF [.int r.num, .int (r.den : Int)] M = ok (.int 1) M := fun M => by
    rw [gcd_ev]
    have : Nat.gcd r.num.natAbs (r.den : Int).natAbs = 1 := rd
    rw [this]
    rfl
  show Bd1 [some R, some (.int n), some (.tup [.int r.num, .int (r.den : Int)]), a, b] M = some (.nx [some R, some (.int n), some (.tup [.int r.num, .int (r.den : Int)]), some (.int r.num), some (.int (r.den : Int))], M)
  obtain ⟨l, hl⟩ : ∃ l : Int, l = (r.den : Int) := ⟨_, rfl⟩
  have l1 : ¬ l < 1 := by omega
  rw [← hl] at gc ⊢
  generalize r.num = u at *
  unfold Bd1
  rw [seq_nx (e' := [some R, some (.int n), some (.tup [.int u, .int l]), a, b]) (M' := M) (by simp [seqS, ifS, retS, raiseF, raiseS, consA, nilA, binD, callD, nameD, cD, bindE_v, thenS_v, bindE_x, thenS_x, unD, parS, asgS, tupD, int2F, eq_int, ne_int, intF0, negF, notF, nilS, brD, fnD, addE, subE, ix0, ix1, dropS, asgG, tupG, consG, nameG, nilG, lstD, andD, orD, tstD, ownS, appS, len_tup, len_lst, tup_tup, wipeE, set1, set2, typ_int, typ_tup, typ_non, typ_lst, isF, chainD, asT, truD, len_row, typ_row]), seq_nx (e' := [some R, some (.int n), some (.tup [.int u, .int l]), some (.int u), some (.int l)]) (M' := M) (by simp [seqS, ifS, retS, raiseF, raiseS, consA, nilA, binD, callD, nameD, cD, bindE_v, thenS_v, bindE_x, thenS_x, unD, parS, asgS, tupD, int2F, eq_int, ne_int, intF0, negF, notF, nilS, brD, fnD, addE, subE, ix0, ix1, dropS, asgG, tupG, consG, nameG, nilG, lstD, andD, orD, tstD, ownS, appS, len_tup, len_lst, tup_tup, wipeE, set1, set2, typ_int, typ_tup, typ_non, typ_lst, isF, chainD, asT, truD, len_row, typ_row])]
  rw [seq_nx (e' := [some R, some (.int n), some (.tup [.int u, .int l]), some (.int u), some (.int l)]) (M' := M) (by simp [seqS, ifS, retS, raiseF, raiseS, consA, nilA, binD, callD, nameD, cD, bindE_v, thenS_v, bindE_x, thenS_x, unD, parS, asgS, tupD, int2F, eq_int, ne_int, intF0, negF, notF, nilS, brD, fnD, addE, subE, ix0, ix1, dropS, asgG, tupG, consG, nameG, nilG, lstD, andD, orD, tstD, ownS, appS, len_tup, len_lst, tup_tup, wipeE, set1, set2, typ_int, typ_tup, typ_non, typ_lst, isF, chainD, asT, truD, len_row, typ_row])]
  by_cases hc : l = 1
  · simp [seqS, ifS, retS, raiseF, raiseS, consA, nilA, binD, callD, nameD, cD, bindE_v, thenS_v, bindE_x, thenS_x, unD, parS, asgS, tupD, int2F, eq_int, ne_int, intF0, negF, notF, nilS, brD, fnD, addE, subE, ix0, ix1, dropS, asgG, tupG, consG, nameG, nilG, lstD, andD, orD, tstD, ownS, appS, len_tup, len_lst, tup_tup, wipeE, set1, set2, typ_int, typ_tup, typ_non, typ_lst, isF, chainD, asT, truD, len_row, typ_row, hc]
  · simp [seqS, ifS, retS, raiseF, raiseS, consA, nilA, binD, callD, nameD, cD, bindE_v, thenS_v, bindE_x, thenS_x, unD, parS, asgS, tupD, int2F, eq_int, ne_int, intF0, negF, notF, nilS, brD, fnD, addE, subE, ix0, ix1, dropS, asgG, tupG, consG, nameG, nilG, lstD, andD, orD, tstD, ownS, appS, len_tup, len_lst, tup_tup, wipeE, set1, set2, typ_int, typ_tup, typ_non, typ_lst, isF, chainD, asT, truD, len_row, typ_row, hc, lt_int, l1, gc]
/-- a row with something at a place that is no fraction -/
theorem isrow_bad {ds : List D} {q : Nat} {x : D} (hq : ds[q]? = some x) (hx : BadE x) (hg : ∀ j, j < q → ∃ r, ds[j]? = some (qD r)) (M : Store) : m__is_row [.tup ds, .int (ds.length : Int)] M = ok (.bl false) M := by
  obtain ⟨N, hN⟩ : ∃ N : Int, N = (ds.length : Int) := ⟨_, rfl⟩
  have t1 : ∀ M, m_is_tuple_of [.tup ds, .int N] M = ok (.bl true) M := fun M => by
    rw [tupof_tup, decide_eq_true hN.symm]
  have it : ∀ (e : DL.Env) M, e[0]? = some (some (.tup ds)) → itD (nameD 0) e M = ok (ds, fun _ => True) M := fun e M he => it_tup (by
    unfold nameD
    rw [he])
  rw [← hN]
  obtain ⟨R, hR⟩ : ∃ R, R = D.tup ds := ⟨_, rfl⟩
  rw [← hR] at t1 it ⊢
  refine fv_wp (e0 := [some R, some (.int N), none, none, none]) rfl ?_ rfl
  unfold den__is_row
  refine wp_nx (e' := [some R, some (.int N), none, none, none]) (M' := M) (by simp [seqS, ifS, retS, raiseF, raiseS, consA, nilA, binD, callD, nameD, cD, bindE_v, thenS_v, bindE_x, thenS_x, unD, parS, asgS, tupD, int2F, eq_int, ne_int, intF0, negF, notF, nilS, brD, fnD, addE, subE, ix0, ix1, dropS, asgG, tupG, consG, nameG, nilG, lstD, andD, orD, tstD, ownS, appS, len_tup, len_lst, tup_tup, wipeE, set1, set2, typ_int, typ_tup, typ_non, typ_lst, isF, chainD, asT, truD, len_row, typ_row, t1]) ?_
  refine wp_forR_nx ds (fun j e M' => M' = M ∧ j ≤ q ∧ ∃ b c d, e = [some R, some (.int N), b, c, d]) (it _ _ rfl) (fun j d e M' hd hi => ?_) (fun _ _ _ => trivial) ⟨rfl, Nat.zero_le _, _, _, _, rfl⟩ (fun e' M' hi => ?_)
  · obtain ⟨rfl, hj, b, c, d', rfl⟩ := hi
    refine ⟨trivial, [some R, some (.int N), some d, c, d'], M', by simp [seqS, ifS, retS, raiseF, raiseS, consA, nilA, binD, callD, nameD, cD, bindE_v, thenS_v, bindE_x, thenS_x, unD, parS, asgS, tupD, int2F, eq_int, ne_int, intF0, negF, notF, nilS, brD, fnD, addE, subE, ix0, ix1, dropS, asgG, tupG, consG, nameG, nilG, lstD, andD, orD, tstD, ownS, appS, len_tup, len_lst, tup_tup, wipeE, set1, set2, typ_int, typ_tup, typ_non, typ_lst, isF, chainD, asT, truD, len_row, typ_row], ?_⟩
    by_cases cj : j = q
    · subst cj
      rw [hq] at hd
      cases hd
      exact wp_of (M' := M') (.rt (.bl false)) (hx _ _ _ _ _) (.inr ⟨_, rfl, rfl, [], by simp⟩)
    · obtain ⟨r, hr⟩ := hg j (by omega)
      rw [hr] at hd
      cases hd
      exact wp_of (M' := M') (.nx _) (good_pair r R N c d' M') (.inl ⟨_, .inl rfl, rfl, by omega, _, _, _, rfl⟩)
  · obtain ⟨rfl, hj, _⟩ := hi
    have := get_lt hq
    omega
end K63
namespace K63
open PySem L2 DL
def RF (x : D) : Prop := ∀ M, m_need_rows [x, .int 1, .int 6] M = some (.exc "BadRows" [], M)
theorem rf_typ {x : D} {t : String} (h : ∀ M, typF [x] M = ok (.ty t) M) (ht : ∀ M, isF true (.ty t) (.ty "tuple") M = ok (.bl true) M) : RF x := fun M => need_no ⟨true, or_v (a := true) (b := true) (by
  show bindE (bindE (bindE (ok x M) fun d M1 => bindE (ok [] M1) fun ds M2 => ok (d :: ds) M2) typF) _ = _
  rw [bindE_v, bindE_v, bindE_v, h, bindE_v]
  exact ht M) (fun z => nomatch z), rfl⟩
theorem rf_long {ds : List D} (h : 6 < ds.length) : RF (.tup ds) := fun M => by
  refine need_no ⟨true, or_v (a := false) (b := true) (by simp [seqS, ifS, retS, raiseF, raiseS, consA, nilA, binD, callD, nameD, cD, bindE_v, thenS_v, bindE_x, thenS_x, unD, parS, asgS, tupD, int2F, eq_int, ne_int, intF0, negF, notF, nilS, brD, fnD, addE, subE, ix0, ix1, dropS, asgG, tupG, consG, nameG, nilG, lstD, andD, orD, tstD, ownS, appS, len_tup, len_lst, tup_tup, wipeE, set1, set2, typ_int, typ_tup, typ_non, typ_lst, isF, chainD, asT, truD, len_row, typ_row]) fun _ => ?_, rfl⟩
  have ch := chain_le (da := nameD 1) (db := callD lenF (consA (nameD 0) nilA)) (dc := nameD 2) (e := [some (.tup ds), some (.int 1), some (.int 6), none]) (M := M) (i := 1) (j := (ds.length : Int)) (k := 6) (by simp [seqS, ifS, retS, raiseF, raiseS, consA, nilA, binD, callD, nameD, cD, bindE_v, thenS_v, bindE_x, thenS_x, unD, parS, asgS, tupD, int2F, eq_int, ne_int, intF0, negF, notF, nilS, brD, fnD, addE, subE, ix0, ix1, dropS, asgG, tupG, consG, nameG, nilG, lstD, andD, orD, tstD, ownS, appS, len_tup, len_lst, tup_tup, wipeE, set1, set2, typ_int, typ_tup, typ_non, typ_lst, isF, chainD, asT, truD, len_row, typ_row]) (by simp [seqS, ifS, retS, raiseF, raiseS, consA, nilA, binD, callD, nameD, cD, bindE_v, thenS_v, bindE_x, thenS_x, unD, parS, asgS, tupD, int2F, eq_int, ne_int, intF0, negF, notF, nilS, brD, fnD, addE, subE, ix0, ix1, dropS, asgG, tupG, consG, nameG, nilG, lstD, andD, orD, tstD, ownS, appS, len_tup, len_lst, tup_tup, wipeE, set1, set2, typ_int, typ_tup, typ_non, typ_lst, isF, chainD, asT, truD, len_row, typ_row]) (by simp [seqS, ifS, retS, raiseF, raiseS, consA, nilA, binD, callD, nameD, cD, bindE_v, thenS_v, bindE_x, thenS_x, unD, parS, asgS, tupD, int2F, eq_int, ne_int, intF0, negF, notF, nilS, brD, fnD, addE, subE, ix0, ix1, dropS, asgG, tupG, consG, nameG, nilG, lstD, andD, orD, tstD, ownS, appS, len_tup, len_lst, tup_tup, wipeE, set1, set2, typ_int, typ_tup, typ_non, typ_lst, isF, chainD, asT, truD, len_row, typ_row])
  rw [decide_eq_true (by omega : (1 : Int) ≤ (ds.length : Int)), decide_eq_false (by omega : ¬ (ds.length : Int) ≤ 6)] at ch
  exact not_v ch
theorem rf_none0 : RF (.tup []) := fun M => by
  refine need_no ⟨true, or_v (a := false) (b := true) (by simp [seqS, ifS, retS, raiseF, raiseS, consA, nilA, binD, callD, nameD, cD, bindE_v, thenS_v, bindE_x, thenS_x, unD, parS, asgS, tupD, int2F, eq_int, ne_int, intF0, negF, notF, nilS, brD, fnD, addE, subE, ix0, ix1, dropS, asgG, tupG, consG, nameG, nilG, lstD, andD, orD, tstD, ownS, appS, len_tup, len_lst, tup_tup, wipeE, set1, set2, typ_int, typ_tup, typ_non, typ_lst, isF, chainD, asT, truD, len_row, typ_row]) fun _ => ?_, rfl⟩
  have ch := chain_le (da := nameD 1) (db := callD lenF (consA (nameD 0) nilA)) (dc := nameD 2) (e := [some (.tup []), some (.int 1), some (.int 6), none]) (M := M) (i := 1) (j := 0) (k := 6) (by simp [seqS, ifS, retS, raiseF, raiseS, consA, nilA, binD, callD, nameD, cD, bindE_v, thenS_v, bindE_x, thenS_x, unD, parS, asgS, tupD, int2F, eq_int, ne_int, intF0, negF, notF, nilS, brD, fnD, addE, subE, ix0, ix1, dropS, asgG, tupG, consG, nameG, nilG, lstD, andD, orD, tstD, ownS, appS, len_tup, len_lst, tup_tup, wipeE, set1, set2, typ_int, typ_tup, typ_non, typ_lst, isF, chainD, asT, truD, len_row, typ_row]) (by simp [seqS, ifS, retS, raiseF, raiseS, consA, nilA, binD, callD, nameD, cD, bindE_v, thenS_v, bindE_x, thenS_x, unD, parS, asgS, tupD, int2F, eq_int, ne_int, intF0, negF, notF, nilS, brD, fnD, addE, subE, ix0, ix1, dropS, asgG, tupG, consG, nameG, nilG, lstD, andD, orD, tstD, ownS, appS, len_tup, len_lst, tup_tup, wipeE, set1, set2, typ_int, typ_tup, typ_non, typ_lst, isF, chainD, asT, truD, len_row, typ_row]) (by simp [seqS, ifS, retS, raiseF, raiseS, consA, nilA, binD, callD, nameD, cD, bindE_v, thenS_v, bindE_x, thenS_x, unD, parS, asgS, tupD, int2F, eq_int, ne_int, intF0, negF, notF, nilS, brD, fnD, addE, subE, ix0, ix1, dropS, asgG, tupG, consG, nameG, nilG, lstD, andD, orD, tstD, ownS, appS, len_tup, len_lst, tup_tup, wipeE, set1, set2, typ_int, typ_tup, typ_non, typ_lst, isF, chainD, asT, truD, len_row, typ_row])
  exact not_v ch
open Classical in
theorem rf_mix {s : Nat} {ds : List D} {z : D} (hs : s ≤ 6) (hl : ds.length = s) (hg : ∀ d ∈ ds, d = z ∨ ∃ a : Nat → Rat, d = rowD s fun j => qD (a j)) (hm : z ∈ ds) (hz : ∀ M, m__is_row [z, .int (s : Int)] M = ok (.bl false) M) : RF (.tup ds) := fun M => by
  refine need_bad (b := fun d => decide (d ≠ z)) (by omega) (fun d hd M => ?_) ⟨z, hm, decide_eq_false fun q => q rfl⟩ M
  rw [hl]
  by_cases c : d = z
  · rw [c, hz]
    show _ = ok (D.bl (decide (z ≠ z))) M
    rw [decide_eq_false fun q => q rfl]
  · obtain ⟨a, ha⟩ := (hg d hd).resolve_left c
    show _ = ok (D.bl (decide (d ≠ z))) M
    rw [decide_eq_true c, ha]
    exact isrow_ok
theorem rf_none {ds : List D} (hl : ds.length ≤ 6) (h0 : ds ≠ []) (h : ∀ d ∈ ds, ∀ M, m__is_row [d, .int (ds.length : Int)] M = ok (.bl false) M) : RF (.tup ds) := fun M => by
  refine need_bad (b := fun _ => false) hl h ?_ M
  cases ds with
  | nil => exact absurd rfl h0
  | cons d r => exact ⟨d, List.mem_cons_self, rfl⟩
theorem row_of (s : Nat) (a : Nat → Rat) : (rowD s fun j => qD (a j)) = .tup ((List.range s).map fun j => qD (a j)) := rfl
section
variable {s p : Nat} {A : Mx}
abbrev rowsD (s : Nat) (A : Mx) : List D := (List.range s).map fun i => rowD s fun j => qD (A i j)
abbrev rowL (s : Nat) (A : Mx) (p : Nat) : List D := (List.range s).map fun j => qD (A p j)
theorem rf_put (hs : s ≤ 6) (hp : p < s) {z : D} (hz : ∀ M, m__is_row [z, .int (s : Int)] M = ok (.bl false) M) : RF (.tup ((rowsD s A).take p ++ [z] ++ (rowsD s A).drop (p + 1))) := by
  refine rf_mix hs (by simp; omega) (fun d hd => ?_) (by simp) hz
  simp only [List.mem_append, List.mem_singleton] at hd
  rcases hd with (hd | hd) | hd
  · obtain ⟨i, _, rfl⟩ := List.mem_map.mp (List.mem_of_mem_take hd)
    exact .inr ⟨_, rfl⟩
  · exact .inl hd
  · obtain ⟨i, _, rfl⟩ := List.mem_map.mp (List.mem_of_mem_drop hd)
    exact .inr ⟨_, rfl⟩
theorem isrow_lst {ds : List D} {n : Int} {M : Store} : m__is_row [.lst ds, .int n] M = ok (.bl false) M := isrow_no fun _ => tupof_lst
theorem isrow_len {ds : List D} {n : Int} {M : Store} (h : ¬ (ds.length : Int) = n) : m__is_row [.tup ds, .int n] M = ok (.bl false) M := isrow_no fun _ => by
  rw [tupof_tup, decide_eq_false h]
theorem isrow_put {q : Nat} (hq : q < s) {x : D} (hx : BadE x) (M : Store) : m__is_row [.tup ((rowL s A p).take q ++ [x] ++ (rowL s A p).drop (q + 1)), .int (s : Int)] M = ok (.bl false) M := by
  have hl : ((rowL s A p).take q ++ [x] ++ (rowL s A p).drop (q + 1)).length = s := by simp; omega
  have := isrow_bad (ds := (rowL s A p).take q ++ [x] ++ (rowL s A p).drop (q + 1)) (q := q) (x := x) (by
    rw [List.append_assoc, List.getElem?_append_right (by simp; omega)]
    simp
    rw [show q - min q s = 0 by omega]
    rfl) hx (fun j hj => ⟨A p j, by
    rw [List.append_assoc, List.getElem?_append_left (by simp; omega), List.getElem?_take, if_pos hj, get_mapR (by omega)]⟩) M
  rwa [hl] at this
/-- a thing in the list of odd ones -/
abbrev oddL : List D := [.tup [.int 0, .int 1], .non, .int 1, .tup [.int 1, .int 0], .tup [.int 2, .int 4], .tup [.bl true, .int 1], .lst [.int 1, .int 1], .str "1", .tup [.int 1], .tup [.int 1, .int 1, .int 1]]
theorem odd_bad {k : Int} (h0 : 0 ≤ k) (h : k < 10) : ∃ x, (BadE x ∨ x = qD 0) ∧ nlD 0 x = true ∧ ∀ M, ixF (.lst oddL) (.int k) M = ok x M := by
  have c : k = 0 ∨ k = 1 ∨ k = 2 ∨ k = 3 ∨ k = 4 ∨ k = 5 ∨ k = 6 ∨ k = 7 ∨ k = 8 ∨ k = 9 := by omega
  rcases c with z | z | z | z | z | z | z | z | z | z
  · exact ⟨_, .inr rfl, rfl, fun M => by rw [z]; exact ix_lst rfl⟩
  · exact ⟨_, .inl bad_non, rfl, fun M => by rw [z]; exact ix_lst rfl⟩
  · exact ⟨_, .inl bad_int, rfl, fun M => by rw [z]; exact ix_lst rfl⟩
  · exact ⟨_, .inl (bad_pair (u := 1) (l := 0) (by decide) (.inl (by decide))), rfl, fun M => by rw [z]; exact ix_lst rfl⟩
  · exact ⟨_, .inl (bad_pair (u := 2) (l := 4) (by decide) (.inr (by decide))), rfl, fun M => by rw [z]; exact ix_lst rfl⟩
  · exact ⟨_, .inl (bad_bl (c := true) (i := 1)), rfl, fun M => by rw [z]; exact ix_lst rfl⟩
  · exact ⟨_, .inl (bad_lst (ds := [.int 1, .int 1])), rfl, fun M => by rw [z]; exact ix_lst rfl⟩
  · exact ⟨_, .inl (bad_str (i := "1")), rfl, fun M => by rw [z]; exact ix_lst rfl⟩
  · exact ⟨_, .inl (bad_len (ds := [.int 1]) (by decide)), rfl, fun M => by rw [z]; exact ix_lst rfl⟩
  · exact ⟨_, .inl (bad_len (ds := [.int 1, .int 1, .int 1]) (by decide)), rfl, fun M => by rw [z]; exact ix_lst rfl⟩
def RB (x : D) : Prop := ∀ M, m_field_by [x] M = some (.exc "BadRows" [], M)
theorem rb_of {x : D} (h : RF x) : RB x := fun M => fv_ex (e0 := [some x, none, none, none, none, none, none, none, none, none, none, none, none, none]) (e' := [some x, none, none, none, none, none, none, none, none, none, none, none, none, none]) [] rfl (by
  rw [List.append_nil]
  unfold den_field_by
  refine seq_ex ?_
  simp [seqS, ifS, retS, raiseF, raiseS, consA, nilA, binD, callD, nameD, cD, bindE_v, thenS_v, bindE_x, thenS_x, unD, parS, asgS, tupD, int2F, eq_int, ne_int, intF0, negF, notF, nilS, brD, fnD, addE, subE, ix0, ix1, dropS, asgG, tupG, consG, nameG, nilG, lstD, andD, orD, tstD, ownS, appS, len_tup, len_lst, tup_tup, wipeE, set1, set2, typ_int, typ_tup, typ_non, typ_lst, isF, chainD, asT, truD, len_row, typ_row, h M]) rfl
theorem rb_nought {l : Nat} (h1 : 1 ≤ l) (h6 : l ≤ 6) (hz : ∃ i j, i < l ∧ j < l ∧ A i j = 0) : RB (gridD l A) := fun M => by
  have a1 : ∀ M, m_need_rows [gridD l A, .int 1, .int 6] M = ok .non M := fun M => needrows_ok (by omega) (by omega)
  have a2 := nonought_bad hz
  generalize gridD l A = G at *
  refine fv_ex (e0 := [some G, none, none, none, none, none, none, none, none, none, none, none, none, none]) (e' := [some G, none, none, none, none, none, none, none, none, none, none, none, none, none]) [] rfl ?_ rfl
  rw [List.append_nil]
  unfold den_field_by
  rw [seq_nx (e' := [some G, none, none, none, none, none, none, none, none, none, none, none, none, none]) (M' := M) (by simp [seqS, ifS, retS, raiseF, raiseS, consA, nilA, binD, callD, nameD, cD, bindE_v, thenS_v, bindE_x, thenS_x, unD, parS, asgS, tupD, int2F, eq_int, ne_int, intF0, negF, notF, nilS, brD, fnD, addE, subE, ix0, ix1, dropS, asgG, tupG, consG, nameG, nilG, lstD, andD, orD, tstD, ownS, appS, len_tup, len_lst, tup_tup, wipeE, set1, set2, typ_int, typ_tup, typ_non, typ_lst, isF, chainD, asT, truD, len_row, typ_row, a1])]
  refine seq_ex ?_
  simp [seqS, ifS, retS, raiseF, raiseS, consA, nilA, binD, callD, nameD, cD, bindE_v, thenS_v, bindE_x, thenS_x, unD, parS, asgS, tupD, int2F, eq_int, ne_int, intF0, negF, notF, nilS, brD, fnD, addE, subE, ix0, ix1, dropS, asgG, tupG, consG, nameG, nilG, lstD, andD, orD, tstD, ownS, appS, len_tup, len_lst, tup_tup, wipeE, set1, set2, typ_int, typ_tup, typ_non, typ_lst, isF, chainD, asT, truD, len_row, typ_row, a2]
theorem put_set {α : Type} {xs : List α} {p : Nat} {z : α} (h : p < xs.length) : xs.take p ++ [z] ++ xs.drop (p + 1) = xs.set p z := by
  apply List.ext_getElem?
  intro i
  by_cases c1 : i < p
  · rw [List.append_assoc, List.getElem?_append_left (by rw [List.length_take]; omega), List.getElem?_take, if_pos c1, List.getElem?_set_ne (by omega)]
  · by_cases c2 : i = p
    · rw [c2, List.append_assoc, List.getElem?_append_right (by rw [List.length_take]; omega), List.getElem?_set_self h, List.length_take, show p - min p xs.length = 0 by omega]
      rfl
    · rw [List.getElem?_append_right (by rw [List.length_append, List.length_take]; simp; omega), List.getElem?_drop, List.getElem?_set_ne (by omega), List.length_append, List.length_take]
      congr 1
      simp
      omega
theorem put_grid {l p q : Nat} {r : Rat} (hp : p < l) (hq : q < l) : D.tup ((rowsD l A).take p ++ [.tup ((rowL l A p).take q ++ [qD r] ++ (rowL l A p).drop (q + 1))] ++ (rowsD l A).drop (p + 1)) = gridD l fun i j => if i = p ∧ j = q then r else A i j := by
  refine congrArg D.tup ?_
  rw [put_set (by simp; omega), put_set (by simp; omega), map_set hq, map_set hp]
  refine List.map_congr_left fun i hi => ?_
  by_cases c : i = p
  · rw [if_pos c]
    refine congrArg D.tup (List.map_congr_left fun j hj => ?_)
    dsimp only
    by_cases c2 : j = q
    · rw [if_pos c2, if_pos ⟨c, c2⟩]
    · rw [if_neg c2, if_neg (fun z => c2 z.2), c]
  · rw [if_neg c]
    refine congrArg D.tup (List.map_congr_left fun j hj => ?_)
    dsimp only
    rw [if_neg (fun z => c z.1)]
end
end K63
namespace K63
open PySem L2 DL
theorem mulT7 {x : D} {M : Store} : mulTF (.tup [x]) (.int 7) M = ok (.tup (List.replicate 7 x)) M := by
  show (if (2 : Int) ≤ 7 ∧ (7 : Int) ≤ 1000 ∧ [x].length ≤ 1000 ∧ [x] ≠ [] then ok (D.tup (List.replicate (7 : Int).toNat [x]).flatten) M else none) = _
  rw [if_pos ⟨by decide, by decide, by simp, by simp⟩]
  rfl
theorem nls_app {xs ys : List D} (h1 : nlDs 0 xs = true) (h2 : nlDs 0 ys = true) : nlDs 0 (xs ++ ys) = true := by
  induction xs with
  | nil => exact h2
  | cons x r ih =>
    have h' : (nlD 0 x && nlDs 0 r) = true := h1
    rw [Bool.and_eq_true] at h'
    show (nlD 0 x && nlDs 0 (r ++ ys)) = true
    rw [h'.1, ih h'.2]
    rfl
theorem nls_mem {xs ys : List D} (h : nlDs 0 xs = true) (hs : ∀ d ∈ ys, d ∈ xs) : nlDs 0 ys = true := nls_all fun d hd => by
  have : ∀ {xs : List D}, nlDs 0 xs = true → ∀ d ∈ xs, nlD 0 d = true := fun {xs} => by
    induction xs with
    | nil => intro _ d hd; cases hd
    | cons x r ih =>
      intro h d hd
      have h' : (nlD 0 x && nlDs 0 r) = true := h
      rw [Bool.and_eq_true] at h'
      (rcases List.mem_cons.mp hd with rfl | hd)
      · exact h'.1
      · exact ih h'.2 d hd
  exact this h d (hs d hd)
theorem nls_one {x : D} (h : nlD 0 x = true) : nlDs 0 [x] = true := by
  show (nlD 0 x && true) = true
  rw [h]
  rfl
theorem nls_rep {x : D} (h : nlD 0 x = true) (n : Nat) : nlDs 0 (List.replicate n x) = true := nls_all fun d hd => by
  rw [(List.mem_replicate.mp hd).2]
  exact h
theorem bent_ok {s : Nat} {A : Mx} {N : Int} (h1 : 1 ≤ s) (h5 : s ≤ 6) (n0 : 0 ≤ N) (M : Store) : ∃ x, m__law_bent [gridD s A, .int N] M = ok x M ∧ RB x ∧ nlD 0 x = true := by
  obtain ⟨S, hS⟩ : ∃ i : Int, i = (s : Int) := ⟨_, rfl⟩
  obtain ⟨P, hP⟩ : ∃ i : Int, i = N % S := ⟨_, rfl⟩
  obtain ⟨Q, hQ⟩ : ∃ i : Int, i = N / 7 % S := ⟨_, rfl⟩
  have P0 : 0 ≤ P := by rw [hP]; exact Int.emod_nonneg _ (by omega)
  have P1 : P < S := by rw [hP]; exact Int.emod_lt_of_pos _ (by omega)
  have Q0 : 0 ≤ Q := by rw [hQ]; exact Int.emod_nonneg _ (by omega)
  have Q1 : Q < S := by rw [hQ]; exact Int.emod_lt_of_pos _ (by omega)
  obtain ⟨p, hp⟩ : ∃ p : Nat, P = (p : Int) := ⟨P.toNat, by omega⟩
  obtain ⟨q, hq⟩ : ∃ p : Nat, Q = (p : Int) := ⟨Q.toNat, by omega⟩
  have lp : p < s := by omega
  have lq : q < s := by omega
  obtain ⟨K, hK⟩ : ∃ i : Int, i = N / 49 % 10 := ⟨_, rfl⟩
  obtain ⟨W, hW⟩ : ∃ i : Int, i = N / 490 % 15 := ⟨_, rfl⟩
  obtain ⟨bad, bd1, bd2, bd3⟩ := odd_bad (k := K) (by omega) (by omega)
  have f1 : ∀ M, fmodF (.int N) (.int S) M = ok (.int P) M := fun M => by rw [fmd (by omega), hP]
  have f2 : ∀ M, fdivF (.int N) (.int 7) M = ok (.int (N / 7)) M := fun M => fdv (by decide) (by unfold Bd; decide)
  have f3 : ∀ M, fmodF (.int (N / 7)) (.int S) M = ok (.int Q) M := fun M => by rw [fmd (by omega), hQ]
  have f4 : ∀ M, fdivF (.int N) (.int 49) M = ok (.int (N / 49)) M := fun M => fdv (by decide) (by unfold Bd; decide)
  have f5 : ∀ M, fmodF (.int (N / 49)) (.int 10) M = ok (.int K) M := fun M => by rw [fmd (by decide), hK]
  have f6 : ∀ M, fdivF (.int N) (.int 490) M = ok (.int (N / 490)) M := fun M => fdv (by decide) (by unfold Bd; decide)
  have f7 : ∀ M, fmodF (.int (N / 490)) (.int 15) M = ok (.int W) M := fun M => by rw [fmd (by decide), hW]
  obtain ⟨rows, hrows⟩ : ∃ l, l = rowsD s A := ⟨_, rfl⟩
  obtain ⟨rl, hrl⟩ : ∃ l, l = rowL s A p := ⟨_, rfl⟩
  have lrows : rows.length = s := by rw [hrows]; simp
  have lrl : rl.length = s := by rw [hrl]; simp
  have nrows : nlDs 0 rows = true := by rw [hrows]; exact nls_map fun _ _ => nl_row fun _ _ => rfl
  have nrl : nlDs 0 rl = true := by rw [hrl]; exact nls_map fun _ _ => rfl
  obtain ⟨G, hG⟩ : ∃ l, l = D.tup rows := ⟨_, rfl⟩
  obtain ⟨RW, hRW⟩ : ∃ l, l = D.tup rl := ⟨_, rfl⟩
  have gl : ∀ M, lenF [G] M = ok (.int S) M := fun M => by rw [hG, len_tup, lrows, hS]
  have gi : ∀ M, ixF G (.int P) M = ok RW M := fun M => by
    rw [hG, hRW, hp, hrl, hrows]
    exact ix_tup (at_nat (get_mapR lp))
  obtain ⟨T1, hT1⟩ : ∃ l, l = D.tup (rows.take p) := ⟨_, rfl⟩
  obtain ⟨T2, hT2⟩ : ∃ l, l = D.tup (rows.drop (p + 1)) := ⟨_, rfl⟩
  obtain ⟨T3, hT3⟩ : ∃ l, l = D.tup (rows.take 1) := ⟨_, rfl⟩
  obtain ⟨R1, hR1⟩ : ∃ l, l = D.tup (rl.take q) := ⟨_, rfl⟩
  obtain ⟨R2, hR2⟩ : ∃ l, l = D.tup (rl.drop (q + 1)) := ⟨_, rfl⟩
  obtain ⟨R3, hR3⟩ : ∃ l, l = D.tup (rl.take 1) := ⟨_, rfl⟩
  obtain ⟨R4, hR4⟩ : ∃ l, l = D.tup (rl.drop 1) := ⟨_, rfl⟩
  have s1 : ∀ M, slpF G none (some P) none M = ok T1 M := fun M => by rw [hG, hT1, hp]; exact slp_take (by omega)
  have s2 : ∀ M, slpF G (some (P + 1)) none none M = ok T2 M := fun M => by rw [hG, hT2, show P + 1 = ((p + 1 : Nat) : Int) by omega]; exact slp_drop (by omega)
  have s3 : ∀ M, slpF G none (some 1) none M = ok T3 M := fun M => by rw [hG, hT3]; exact slp_take (k := 1) (by omega)
  have w1 : ∀ M, slpF RW none (some Q) none M = ok R1 M := fun M => by rw [hRW, hR1, hq]; exact slp_take (by omega)
  have w2 : ∀ M, slpF RW (some (Q + 1)) none none M = ok R2 M := fun M => by rw [hRW, hR2, show Q + 1 = ((q + 1 : Nat) : Int) by omega]; exact slp_drop (by omega)
  have w3 : ∀ M, slpF RW none (some 1) none M = ok R3 M := fun M => by rw [hRW, hR3]; exact slp_take (k := 1) (by omega)
  have w4 : ∀ M, slpF RW (some 1) none none M = ok R4 M := fun M => by rw [hRW, hR4]; exact slp_drop (k := 1) (by omega)
  obtain ⟨R5, hR5⟩ : ∃ l, l = D.tup (rl.take q ++ [bad]) := ⟨_, rfl⟩
  obtain ⟨Y0, hY0⟩ : ∃ l, l = D.tup (rl.take q ++ [bad] ++ rl.drop (q + 1)) := ⟨_, rfl⟩
  obtain ⟨Y2, hY2⟩ : ∃ l, l = D.tup (rl ++ rl.take 1) := ⟨_, rfl⟩
  obtain ⟨X5, hX5⟩ : ∃ l, l = D.tup (rows ++ rows.take 1) := ⟨_, rfl⟩
  obtain ⟨U, hU⟩ : ∃ U : D → D, U = fun z => D.tup (rows.take p ++ [z]) := ⟨_, rfl⟩
  obtain ⟨V, hV⟩ : ∃ U : D → D, U = fun z => D.tup (rows.take p ++ [z] ++ rows.drop (p + 1)) := ⟨_, rfl⟩
  have a1 : ∀ M, addGF R1 (.tup [bad]) M = ok R5 M := fun M => by rw [hR1, hR5]; exact addG_tup (by simp; omega)
  have a2 : ∀ M, addGF R5 R2 M = ok Y0 M := fun M => by rw [hR5, hR2, hY0]; exact addG_tup (by simp; omega)
  have a3 : ∀ M, addGF RW R3 M = ok Y2 M := fun M => by rw [hRW, hR3, hY2]; exact addG_tup (by simp; omega)
  have a4 : ∀ M, addGF G T3 M = ok X5 M := fun M => by rw [hG, hT3, hX5]; exact addG_tup (by simp; omega)
  have b1 : ∀ z M, addGF T1 (.tup [z]) M = ok (U z) M := fun z M => by rw [hT1, hU]; exact addG_tup (by simp; omega)
  have b2 : ∀ z M, addGF (U z) T2 M = ok (V z) M := fun z M => by rw [hT2, hU, hV]; exact addG_tup (by simp; omega)
  have l1 : ∀ M, lstcF [RW] M = ok (.lst rl) M := fun M => by rw [hRW]; rfl
  have l2 : ∀ M, lstcF [G] M = ok (.lst rows) M := fun M => by rw [hG]; rfl
  obtain ⟨E8, hE8⟩ : ∃ l, l = D.tup (List.replicate 7 (.tup [.int 1, .int 1])) := ⟨_, rfl⟩
  obtain ⟨X13, hX13⟩ : ∃ l, l = D.tup (List.replicate 7 E8) := ⟨_, rfl⟩
  have e1 : ∀ M, mulTF (.tup [.tup [.int 1, .int 1]]) (.int 7) M = ok E8 M := fun M => by rw [hE8]; exact mulT7
  have e2 : ∀ M, mulTF (.tup [E8]) (.int 7) M = ok X13 M := fun M => by rw [hX13]; exact mulT7
  -- the menu
  let ML : List D := [V Y0, V (.lst rl), V Y2, V R4, .lst rows, X5, .tup [], .non, .int 5, .str "", .lst [], .emp, .tup [.tup []], X13, .tup [G]]
  have hgrid : gridD s A = G := by rw [hG, hrows]; rfl
  have rfV : ∀ z, (∀ M, m__is_row [z, .int (s : Int)] M = ok (.bl false) M) → RB (V z) := fun z hz => by
    rw [hV, hrows]
    exact rb_of (rf_put (by omega) lp hz)
  have nV : ∀ z, nlD 0 z = true → nlD 0 (V z) = true := fun z hz => by
    rw [hV]
    exact nls_app (nls_app (nls_mem nrows fun d hd => List.mem_of_mem_take hd) (nls_one hz)) (nls_mem nrows fun d hd => List.mem_of_mem_drop hd)
  have nG : nlD 0 G = true := by rw [hG]; exact nrows
  have all : ∀ x ∈ ML, RB x ∧ nlD 0 x = true := by
    intro x hx
    simp only [ML, List.mem_cons, List.not_mem_nil, or_false] at hx
    rcases hx with rfl | rfl | rfl | rfl | rfl | rfl | rfl | rfl | rfl | rfl | rfl | rfl | rfl | rfl | rfl
    · refine ⟨?_, nV _ ?_⟩
      · rcases bd1 with bd1 | rfl
        · exact rfV _ fun M => by rw [hY0, hrl]; exact isrow_put lq bd1 M
        · rw [hV, hY0, hrows, hrl]
          dsimp only
          rw [put_grid lp lq]
          exact rb_nought h1 h5 ⟨p, q, lp, lq, if_pos ⟨rfl, rfl⟩⟩
      rw [hY0]
      exact nls_app (nls_app (nls_mem nrl fun d hd => List.mem_of_mem_take hd) (nls_one bd2)) (nls_mem nrl fun d hd => List.mem_of_mem_drop hd)
    · exact ⟨rfV _ fun M => isrow_lst, nV _ nrl⟩
    · refine ⟨rfV _ fun M => by rw [hY2]; exact isrow_len (by simp; omega), nV _ ?_⟩
      rw [hY2]
      exact nls_app nrl (nls_mem nrl fun d hd => List.mem_of_mem_take hd)
    · refine ⟨rfV _ fun M => by rw [hR4]; exact isrow_len (by simp; omega), nV _ ?_⟩
      rw [hR4]
      exact nls_mem nrl fun d hd => List.mem_of_mem_drop hd
    · exact ⟨rb_of (rf_typ (t := "list") (fun _ => rfl) (fun _ => rfl)), nrows⟩
    · refine ⟨?_, by rw [hX5]; exact nls_app nrows (nls_mem nrows fun d hd => List.mem_of_mem_take hd)⟩
      rw [hX5]
      by_cases c6 : s = 6
      · refine rb_of (rf_long ?_)
        rw [List.length_append, List.length_take, lrows]
        omega
      · refine rb_of (rf_none (by rw [List.length_append, List.length_take, lrows]; omega) (by
          intro z
          have := congrArg List.length z
          rw [List.length_append, List.length_take, lrows] at this
          simp at this
          omega) (fun d hd M => ?_))
        have : d ∈ rows := by
          rcases List.mem_append.mp hd with h | h
          · exact h
          · exact List.mem_of_mem_take h
        rw [hrows] at this
        obtain ⟨i, _, rfl⟩ := List.mem_map.mp this
        rw [row_of]
        exact isrow_len (by rw [List.length_append, List.length_take, lrows]; simp; omega)
    · exact ⟨rb_of rf_none0, rfl⟩
    · exact ⟨rb_of (rf_typ (t := "NoneType") (fun _ => rfl) (fun _ => rfl)), rfl⟩
    · exact ⟨rb_of (rf_typ (t := "int") (fun _ => rfl) (fun _ => rfl)), rfl⟩
    · exact ⟨rb_of (rf_typ (t := "str") (fun _ => rfl) (fun _ => rfl)), rfl⟩
    · exact ⟨rb_of (rf_typ (t := "list") (fun _ => rfl) (fun _ => rfl)), rfl⟩
    · exact ⟨rb_of (rf_typ (t := "dict") (fun _ => rfl) (fun _ => rfl)), rfl⟩
    · refine ⟨rb_of (rf_none (by decide) (by simp) (fun d hd M => ?_)), rfl⟩
      obtain rfl := List.mem_singleton.mp hd
      exact isrow_len (by decide)
    · rw [hX13]
      refine ⟨rb_of (rf_long (by simp)), nls_rep ?_ 7⟩
      rw [hE8]
      exact nls_rep rfl 7
    · refine ⟨rb_of (rf_none (by simp) (by simp) (fun d hd M => ?_)), nls_one nG⟩
      obtain rfl := List.mem_singleton.mp hd
      rw [hG]
      by_cases c : s = 1
      · subst c
        rw [hrows]
        exact isrow_bad (ds := [rowD 1 fun j => qD (A 0 j)]) (q := 0) rfl (bad_len (ds := [qD (A 0 0)]) (by simp)) (fun j hj => absurd hj (Nat.not_lt_zero _)) M
      · exact isrow_len (by rw [lrows]; simp; omega)
  have wl : W.toNat < ML.length := by
    show W.toNat < 15
    omega
  obtain ⟨x, hx⟩ : ∃ x, ML[W.toNat]? = some x := ⟨_, List.getElem?_eq_getElem wl⟩
  have am := all x (List.mem_of_getElem? hx)
  refine ⟨x, ?_, am.1, am.2⟩
  rw [hgrid]
  have key : Wp (den__law_bent [some G, some (.int N), none, none, none, none, none, none, none] M) (fun f M' => f = .rt x ∧ ∃ X, M' = M ++ X) := by
    unfold den__law_bent
    refine wp_nx (e' := [some G, some (.int N), some (.int S), some (.lst oddL), none, none, none, none, none]) (M' := M) (by simp [seqS, ifS, retS, raiseF, raiseS, consA, nilA, binD, callD, nameD, cD, bindE_v, thenS_v, bindE_x, thenS_x, unD, parS, asgS, tupD, int2F, eq_int, ne_int, intF0, negF, notF, nilS, brD, fnD, addE, subE, ix0, ix1, dropS, asgG, tupG, consG, nameG, nilG, lstD, andD, orD, tstD, ownS, appS, len_tup, len_lst, tup_tup, wipeE, set1, set2, typ_int, typ_tup, typ_non, typ_lst, isF, chainD, asT, truD, len_row, typ_row, gl]) ?_
    refine wp_nx (e' := [some G, some (.int N), some (.int S), some (.lst oddL), some (.int P), some (.int Q), some bad, none, none]) (M' := M) (by simp [seqS, ifS, retS, raiseF, raiseS, consA, nilA, binD, callD, nameD, cD, bindE_v, thenS_v, bindE_x, thenS_x, unD, parS, asgS, tupD, int2F, eq_int, ne_int, intF0, negF, notF, nilS, brD, fnD, addE, subE, ix0, ix1, dropS, asgG, tupG, consG, nameG, nilG, lstD, andD, orD, tstD, ownS, appS, len_tup, len_lst, tup_tup, wipeE, set1, set2, typ_int, typ_tup, typ_non, typ_lst, isF, chainD, asT, truD, len_row, typ_row, parS3, f1, f2, f3, f4, f5, bd3]) ?_
    generalize oddL = OL
    refine wp_nx (e' := [some G, some (.int N), some (.int S), some (.lst OL), some (.int P), some (.int Q), some bad, some RW, none]) (M' := M) (by simp [seqS, ifS, retS, raiseF, raiseS, consA, nilA, binD, callD, nameD, cD, bindE_v, thenS_v, bindE_x, thenS_x, unD, parS, asgS, tupD, int2F, eq_int, ne_int, intF0, negF, notF, nilS, brD, fnD, addE, subE, ix0, ix1, dropS, asgG, tupG, consG, nameG, nilG, lstD, andD, orD, tstD, ownS, appS, len_tup, len_lst, tup_tup, wipeE, set1, set2, typ_int, typ_tup, typ_non, typ_lst, isF, chainD, asT, truD, len_row, typ_row, gi]) ?_
    refine wp_nx (e' := [some G, some (.int N), some (.int S), some (.lst OL), some (.int P), some (.int Q), some bad, some RW, some (.loc M.length)]) (M' := M ++ [Ob.lst [V Y0]]) (by simp [seqS, ifS, retS, raiseF, raiseS, consA, nilA, binD, callD, nameD, cD, bindE_v, thenS_v, bindE_x, thenS_x, unD, parS, asgS, tupD, int2F, eq_int, ne_int, intF0, negF, notF, nilS, brD, fnD, addE, subE, ix0, ix1, dropS, asgG, tupG, consG, nameG, nilG, lstD, andD, orD, tstD, ownS, appS, len_tup, len_lst, tup_tup, wipeE, set1, set2, typ_int, typ_tup, typ_non, typ_lst, isF, chainD, asT, truD, len_row, typ_row, slpD, someO, noneO, s1, s2, w1, w2, a1, a2, b1, b2, addG_int]) ?_
    refine wp_nx (e' := [some G, some (.int N), some (.int S), some (.lst OL), some (.int P), some (.int Q), some bad, some RW, some (.loc M.length)]) (M' := M ++ [Ob.lst [V Y0, V (.lst rl)]]) ?_ ?_
    · have := app_ok (dob := nameD 8) (da := (binD addGF (binD addGF (slpD (nameD 0) (noneO) (someO (nameD 4)) (noneO)) (tupD (consA (callD (lstcF) (consA (nameD 7) (nilA))) (nilA)))) (slpD (nameD 0) (someO (binD addGF (nameD 4) (cD (.int 1)))) (noneO) (noneO)))) (e := [some G, some (.int N), some (.int S), some (.lst OL), some (.int P), some (.int Q), some bad, some RW, some (.loc M.length)]) (M := M ++ [Ob.lst [V Y0]]) (n := M.length) (ds := [V Y0]) (d := V (.lst rl)) (M1 := M ++ [Ob.lst [V Y0]]) rfl (by simp [seqS, ifS, retS, raiseF, raiseS, consA, nilA, binD, callD, nameD, cD, bindE_v, thenS_v, bindE_x, thenS_x, unD, parS, asgS, tupD, int2F, eq_int, ne_int, intF0, negF, notF, nilS, brD, fnD, addE, subE, ix0, ix1, dropS, asgG, tupG, consG, nameG, nilG, lstD, andD, orD, tstD, ownS, appS, len_tup, len_lst, tup_tup, wipeE, set1, set2, typ_int, typ_tup, typ_non, typ_lst, isF, chainD, asT, truD, len_row, typ_row, slpD, someO, noneO, s1, s2, l1, b1, b2, addG_int]) get_mid (by simp)
      rw [set_mid] at this
      exact this
    have sL := sz_ok (n := 15) (by decide)
    refine wp_nx (e' := [some G, some (.int N), some (.int S), some (.lst OL), some (.int P), some (.int Q), some bad, some RW, some (.loc (M.length + 1))]) (M' := M ++ [Ob.lst [V Y0, V (.lst rl)]] ++ [Ob.lst [V Y0, V (.lst rl), V Y2, V R4, .lst rows]]) ?_ ?_
    · have g1 : (M ++ [Ob.lst [V Y0, V (.lst rl)]])[M.length]? = some (.lst [V Y0, V (.lst rl)]) := get_mid
      have gl1 : (M ++ [Ob.lst [V Y0, V (.lst rl)]]).length = M.length + 1 := by simp
      rw [← gl1]
      generalize M ++ [Ob.lst [V Y0, V (.lst rl)]] = M1 at *
      generalize M.length = L at *
      simp [seqS, ifS, retS, raiseF, raiseS, consA, nilA, binD, callD, nameD, cD, bindE_v, thenS_v, bindE_x, thenS_x, unD, parS, asgS, tupD, int2F, eq_int, ne_int, intF0, negF, notF, nilS, brD, fnD, addE, subE, ix0, ix1, dropS, asgG, tupG, consG, nameG, nilG, lstD, andD, orD, tstD, ownS, appS, len_tup, len_lst, tup_tup, wipeE, set1, set2, typ_int, typ_tup, typ_non, typ_lst, isF, chainD, asT, truD, len_row, typ_row, ownAddS, getW, getL, g1, slpD, someO, noneO, s1, s2, w3, w4, a3, l2, b1, b2, addG_int]
    refine wp_nx (e' := [some G, some (.int N), some (.int S), some (.lst OL), some (.int P), some (.int Q), some bad, some RW, some (.loc (M.length + 2))]) (M' := M ++ [Ob.lst [V Y0, V (.lst rl)]] ++ [Ob.lst [V Y0, V (.lst rl), V Y2, V R4, .lst rows]] ++ [Ob.lst ML]) ?_ ?_
    · have g1 : (M ++ [Ob.lst [V Y0, V (.lst rl)]] ++ [Ob.lst [V Y0, V (.lst rl), V Y2, V R4, .lst rows]])[M.length + 1]? = some (.lst [V Y0, V (.lst rl), V Y2, V R4, .lst rows]) := by
        have : (M ++ [Ob.lst [V Y0, V (.lst rl)]]).length = M.length + 1 := by simp
        rw [← this]
        exact get_mid
      have gl1 : (M ++ [Ob.lst [V Y0, V (.lst rl)]] ++ [Ob.lst [V Y0, V (.lst rl), V Y2, V R4, .lst rows]]).length = M.length + 2 := by simp
      rw [← gl1]
      generalize M ++ [Ob.lst [V Y0, V (.lst rl)]] ++ [Ob.lst [V Y0, V (.lst rl), V Y2, V R4, .lst rows]] = M1 at *
      generalize M.length + 1 = L at *
      simp [seqS, ifS, retS, raiseF, raiseS, consA, nilA, binD, callD, nameD, cD, bindE_v, thenS_v, bindE_x, thenS_x, unD, parS, asgS, tupD, int2F, eq_int, ne_int, intF0, negF, notF, nilS, brD, fnD, addE, subE, ix0, ix1, dropS, asgG, tupG, consG, nameG, nilG, lstD, andD, orD, tstD, ownS, appS, len_tup, len_lst, tup_tup, wipeE, set1, set2, typ_int, typ_tup, typ_non, typ_lst, isF, chainD, asT, truD, len_row, typ_row, ownAddS, getW, getL, g1, slpD, someO, noneO, s3, a4, e1, e2, empD, ML]
    · have g1 : (M ++ [Ob.lst [V Y0, V (.lst rl)]] ++ [Ob.lst [V Y0, V (.lst rl), V Y2, V R4, .lst rows]] ++ [Ob.lst ML])[M.length + 2]? = some (.lst ML) := by
        have : (M ++ [Ob.lst [V Y0, V (.lst rl)]] ++ [Ob.lst [V Y0, V (.lst rl), V Y2, V R4, .lst rows]]).length = M.length + 2 := by simp
        rw [← this]
        exact get_mid
      have q : ixF (.loc (M.length + 2)) (.int W) (M ++ [Ob.lst [V Y0, V (.lst rl)]] ++ [Ob.lst [V Y0, V (.lst rl), V Y2, V R4, .lst rows]] ++ [Ob.lst ML]) = ok x (M ++ [Ob.lst [V Y0, V (.lst rl)]] ++ [Ob.lst [V Y0, V (.lst rl), V Y2, V R4, .lst rows]] ++ [Ob.lst ML]) := by
        rw [show W = ((W.toNat : Nat) : Int) by omega]
        exact ix_loc g1 (at_nat hx)
      refine wp_of (.rt x) (M' := M ++ [Ob.lst [V Y0, V (.lst rl)]] ++ [Ob.lst [V Y0, V (.lst rl), V Y2, V R4, .lst rows]] ++ [Ob.lst ML]) ?_ ⟨rfl, [.lst [V Y0, V (.lst rl)]] ++ [Ob.lst [V Y0, V (.lst rl), V Y2, V R4, .lst rows]] ++ [Ob.lst ML], by simp⟩
      generalize (M ++ [Ob.lst [V Y0, V (.lst rl)]] ++ [Ob.lst [V Y0, V (.lst rl), V Y2, V R4, .lst rows]] ++ [Ob.lst ML]) = M3 at *
      simp [seqS, ifS, retS, raiseF, raiseS, consA, nilA, binD, callD, nameD, cD, bindE_v, thenS_v, bindE_x, thenS_x, unD, parS, asgS, tupD, int2F, eq_int, ne_int, intF0, negF, notF, nilS, brD, fnD, addE, subE, ix0, ix1, dropS, asgG, tupG, consG, nameG, nilG, lstD, andD, orD, tstD, ownS, appS, len_tup, len_lst, tup_tup, wipeE, set1, set2, typ_int, typ_tup, typ_non, typ_lst, isF, chainD, asT, truD, len_row, typ_row, f6, f7, q]
  obtain ⟨f, M', h1, rfl, X, rfl⟩ := key
  exact fv_rt (e0 := [some G, some (.int N), none, none, none, none, none, none, none]) X rfl h1 am.2
end K63
namespace K63
open PySem L2 DL
theorem cutR_self {v : D} {M : Store} (h : nlD 0 v = true) : cutR M (some (.val v, M)) = ok v M := by
  unfold cutR
  dsimp only
  rw [if_pos (show CutOk M M from ⟨Nat.le_refl _, fun _ _ _ e => .inl e⟩), cutD_pd h, List.take_length]
  rfl
theorem lam_ref {db : DenE} {e : DL.Env} {M : Store} (h : db e M = some (.exc "BadRows" [], M)) : lamD gd__law_is_refused db e M = ok (.bl true) M := by
  unfold lamD gd__law_is_refused
  dsimp only
  rw [h]
  show valOnly (cutR M (some (.val (.bl true), M))) = _
  rw [cutR_self rfl]
  rfl
theorem fr_exc {x : D} {M : Store} (h : orD (unD notF (tstD (fnD m_is_whole 1 [] (consA (nameD 0) (nilA))))) (unD notF (chainD leF leF (cD (.int 1)) (nameD 0) (cD (.int (6))))) [some x] M = ok (.bl true) M) : m_frame [x] M = some (.exc "BadRows" [], M) := by
  refine fv_ex (e0 := [some x]) (e' := [some x]) [] rfl ?_ rfl
  rw [List.append_nil]
  unfold den_frame
  refine seq_ex ?_
  rw [if_t h]
  rfl
theorem fr_typ {x : D} {t : String} (h : ∀ M, typF [x] M = ok (.ty t) M) (ht : ∀ M, isF false (.ty t) (.ty "int") M = ok (.bl false) M) (M : Store) : m_frame [x] M = some (.exc "BadRows" [], M) := by
  have w : ∀ M, m_is_whole [x] M = ok (.bl false) M := fun M => fv_rt0 (e0 := [some x]) rfl (by
    unfold den_is_whole retS
    have : binD (isF false) (callD typF (consA (nameD 0) nilA)) (cD (.ty "int")) [some x] M = ok (.bl false) M := by
      show bindE (bindE (bindE (ok x M) fun d M1 => bindE (ok [] M1) fun ds M2 => ok (d :: ds) M2) typF) _ = _
      rw [bindE_v, bindE_v, bindE_v, h, bindE_v]
      exact ht M
    rw [this]
    rfl) rfl
  exact fr_exc (or_v (a := true) (b := false) (by simp [seqS, ifS, retS, raiseF, raiseS, consA, nilA, binD, callD, nameD, cD, bindE_v, thenS_v, bindE_x, thenS_x, unD, parS, asgS, tupD, int2F, eq_int, ne_int, intF0, negF, notF, nilS, brD, fnD, addE, subE, ix0, ix1, dropS, asgG, tupG, consG, nameG, nilG, lstD, andD, orD, tstD, ownS, appS, len_tup, len_lst, tup_tup, wipeE, set1, set2, typ_int, typ_tup, typ_non, typ_lst, isF, chainD, asT, truD, len_row, typ_row, w]) fun z => nomatch z)
theorem fr_int {i : Int} (h : i < 1 ∨ 6 < i) (M : Store) : m_frame [.int i] M = some (.exc "BadRows" [], M) := by
  have ch := chain_le (da := cD (.int 1)) (db := nameD 0) (dc := cD (.int 6)) (e := [some (.int i)]) (M := M) (i := 1) (j := i) (k := 6) rfl rfl rfl
  have q : (decide ((1 : Int) ≤ i) && decide (i ≤ 6)) = false := by
    rcases h with h | h
    · rw [decide_eq_false (by omega : ¬ (1 : Int) ≤ i)]; rfl
    · rw [decide_eq_false (by omega : ¬ i ≤ 6), Bool.and_false]
  rw [q] at ch
  exact fr_exc (or_v (a := false) (b := true) (by simp [seqS, ifS, retS, raiseF, raiseS, consA, nilA, binD, callD, nameD, cD, bindE_v, thenS_v, bindE_x, thenS_x, unD, parS, asgS, tupD, int2F, eq_int, ne_int, intF0, negF, notF, nilS, brD, fnD, addE, subE, ix0, ix1, dropS, asgG, tupG, consG, nameG, nilG, lstD, andD, orD, tstD, ownS, appS, len_tup, len_lst, tup_tup, wipeE, set1, set2, typ_int, typ_tup, typ_non, typ_lst, isF, chainD, asT, truD, len_row, typ_row, whole_int]) fun _ => not_v ch)
theorem odd_frames {x : D} (h : x ∈ ([.int 0, .int 7, .int (-1), .bl true, .non, .str "3", .tup [.int 3], .lst [], .int 1000000000000000000000000000000] : List D)) (M : Store) : m_frame [x] M = some (.exc "BadRows" [], M) := by
  simp only [List.not_mem_nil, or_false, List.mem_cons] at h
  rcases h with rfl | rfl | rfl | rfl | rfl | rfl | rfl | rfl | rfl
  · exact fr_int (.inl (by decide)) M
  · exact fr_int (.inr (by decide)) M
  · exact fr_int (.inl (by decide)) M
  · exact fr_typ (t := "bool") (fun _ => rfl) (fun _ => rfl) M
  · exact fr_typ (t := "NoneType") (fun _ => rfl) (fun _ => rfl) M
  · exact fr_typ (t := "str") (fun _ => rfl) (fun _ => rfl) M
  · exact fr_typ (t := "tuple") (fun _ => rfl) (fun _ => rfl) M
  · exact fr_typ (t := "list") (fun _ => rfl) (fun _ => rfl) M
  · exact fr_int (.inr (by decide)) M
section
variable {l : Nat} {A : Mx}
structure VA (l : Nat) (A : Mx) : Prop where
  d : ∀ i j, i < l → j < l → (A i j).den ∣ 420
  b : ∀ i j, i < l → j < l → Bd 100 (A i j).num
  z : ∀ i j, i < l → j < l → A i j ≠ 0
theorem okW_q {r : Rat} (h1 : Bd 100 r.num) (h2 : r.den ∣ 420) : okW (qD r) = true := by
  show (okW (.int r.num) && (okW (.int (r.den : Int)) && true)) = true
  rw [okW_int h1 (by decide), okW_int (k := 9) (show Bd 9 (r.den : Int) from Nat.lt_of_le_of_lt (Nat.le_of_dvd (by decide) h2) (by decide)) (by decide)]
  rfl
theorem okW_grid (v : VA l A) : okW (gridD l A) = true := okW_row fun r hr => okW_row fun c hc => okW_q (v.b r c hr hc) (v.d r c hr hc)
theorem sz_grid (hn : l ≤ 6) : szD' (gridD l A) ≤ 6000 := by
  have h1 : szD' (gridD l A) ≤ l * (l * 3 + 1) := sz_rowN fun _ _ => sz_rowN (k := 2) fun _ _ => Nat.le_of_eq rfl
  have h2 : l * (l * 3 + 1) ≤ 6 * (6 * 3 + 1) := Nat.mul_le_mul hn (by omega)
  omega
theorem dp_grid : dpD (gridD l A) ≤ 60 := Nat.le_trans (dp_rowN (k := 2) fun _ _ => dp_rowN (k := 1) fun _ _ => Nat.le_refl 1) (by decide)
theorem repr_grid (v : VA l A) (hn : l ≤ 6) (M : Store) : reprGF [gridD l A] M = ok (.str (rpr (gridD l A))) M := reprG_w (okW_grid v) (sz_grid hn) dp_grid
theorem okW_due (v : VA l A) : okW (dueD l A) = true := by
  have h1 : okW (tabD (fw l) (fh l) (hD flatH)) = true := okW_row fun y _ => okW_row fun x _ => by
    rcases flat01 x y with z | z
    · show okW (.int (flatH x y)) = true
      rw [z]
      rfl
    · show okW (.int (flatH x y)) = true
      rw [z]
      decide
  have h2 : okW (wTab l A) = true := okW_row fun y _ => okW_row fun x _ => by
    show okW (qD (pTab l A l x y)) = true
    rcases pTab_is (A := A) l (Nat.le_refl _) x y with q | ⟨i, j, hi, hj, q⟩
    · rw [q]
      exact okW_q (by show (1 : Int).natAbs < _; decide) (Nat.one_dvd _)
    · rw [q]
      exact okW_q (v.b i j hi hj) (v.d i j hi hj)
  show (okW (tabD (fw l) (fh l) (hD flatH)) && (okW (wTab l A) && true)) = true
  rw [h1, h2]
  rfl
theorem sz_due (h6 : l ≤ 6) : szD' (dueD l A) ≤ 600 := by
  have b1 : fw l ≤ 12 := by unfold fw; omega
  have b2 : fh l ≤ 11 := by unfold fh; omega
  have h1 : szD' (tabD (fw l) (fh l) (hD flatH)) ≤ fh l * (fw l * 1 + 1) := sz_rowN fun _ _ => sz_rowN (k := 0) fun _ _ => Nat.le_refl 0
  have h2 : szD' (wTab l A) ≤ fh l * (fw l * 3 + 1) := sz_rowN fun _ _ => sz_rowN (k := 2) fun _ _ => Nat.le_of_eq rfl
  have h3 : fh l * (fw l * 1 + 1) ≤ 11 * 13 := Nat.mul_le_mul b2 (by omega)
  have h4 : fh l * (fw l * 3 + 1) ≤ 11 * 37 := Nat.mul_le_mul b2 (by omega)
  show szD' (tabD (fw l) (fh l) (hD flatH)) + 1 + (szD' (wTab l A) + 1 + 0) ≤ 600
  omega
theorem dp_due : dpD (dueD l A) ≤ 50 := by
  have h1 : dpD (tabD (fw l) (fh l) (hD flatH)) ≤ 2 := dp_rowN (k := 1) fun _ _ => dp_rowN (k := 0) fun _ _ => Nat.le_refl 0
  have h2 : dpD (wTab l A) ≤ 3 := dp_rowN (k := 2) fun _ _ => dp_rowN (k := 1) fun _ _ => Nat.le_refl 1
  show max (dpD (tabD (fw l) (fh l) (hD flatH))) (max (dpD (wTab l A)) 0) + 1 ≤ 50
  omega
theorem repr_due (v : VA l A) (h6 : l ≤ 6) (M : Store) : reprGF [.lst [dueD l A, dueD l A]] M = ok (.str (rpr (.lst [dueD l A, dueD l A]))) M := reprG_w (by
  show (okW (dueD l A) && (okW (dueD l A) && true)) = true
  rw [okW_due v]
  rfl) (by
  have := sz_due (A := A) h6
  show szD' (dueD l A) + 1 + (szD' (dueD l A) + 1 + 0) ≤ 6000
  omega) (by
  have := dp_due (l := l) (A := A)
  show max (dpD (dueD l A)) (max (dpD (dueD l A)) 0) + 1 ≤ 60
  omega)
end
noncomputable abbrev BL : DenS := seqS (asgS 5 (fnD m__law_cell 2 [] (consA (nameD 0) (consA (nameD 1) (nilA))))) (seqS (asgS 6 (fnD m__law_entries 4 [] (consA (nameD 0) (consA (nameD 1) (consA (binD addGF (cD (.int 1)) (binD fmodF (nameD 5) (cD (.int 6)))) (consA (binD ixF (lstD (consA (cD (.int 0)) (consA (cD (.int 1)) (consA (cD (.int 3)) (consA (cD (.int 4)) (nilA)))))) (binD fmodF (binD fdivF (nameD 5) (cD (.int 6))) (cD (.int 4)))) (nilA))))))) (seqS (parS 7 8 (fnD m__law_framed 1 [] (consA (nameD 6) (nilA))) (callD (reprGF) (consA (nameD 6) (nilA)))) (seqS (ifS (orD (binD (neF) (callD (reprGF) (consA (lstD (consA (fnD m_field_by 1 [] (consA (nameD 6) (nilA))) (consA (fnKD m_field_by 0 1 1 [0] nilA (consA (nameD 6) (nilA))) (nilA)))) (nilA))) (callD (reprGF) (consA (lstD (consA (nameD 7) (consA (nameD 7) (nilA)))) (nilA)))) (binD (isTF true) (fnD m_is_field 1 [] (consA (nameD 7) (nilA))) (cD (.bl true)))) (retS (cD (.bl false))) (nilS)) (seqS (asgS 2 (callD (lenF) (consA (nameD 6) (nilA)))) (seqS (asgS 9 (tupD (consA (binD addGF (binD subF (nameD 2) (cD (.int 1))) (binD fmodF (nameD 2) (cD (.int 2)))) (consA (binD subF (nameD 2) (cD (.int 1))) (consA (nameD 2) (nilA)))))) (seqS (ifS (orD (binD (neF) (callD (reprGF) (consA (fnD m_square_worths 2 [] (consA (nameD 7) (consA (nameD 9) (nilA)))) (nilA))) (nameD 8)) (binD (neF) (callD (reprGF) (consA (nameD 6) (nilA))) (nameD 8))) (retS (cD (.bl false))) (nilS)) (seqS (asgS 10 (fnD m__law_bent 2 [] (consA (nameD 6) (consA (binD fdivF (nameD 5) (cD (.int 30))) (nilA))))) (ifS (unD notF (tstD (lamD gd__law_is_refused (fnD m_field_by 1 [] (consA (nameD 10) (nilA)))))) (retS (cD (.bl false))) (nilS)))))))))
abbrev cellS (k : Nat) : Store := [.lst [.int (k : Int)]]
section
variable {s0 a2 a3 a4 a5 a6 a7 a8 a9 a10 : Option D} {M : Store}
abbrev EL (s0 a2 a3 a4 a5 a6 a7 a8 a9 a10 : Option D) : DL.Env := [s0, some (.loc 0), a2, a3, a4, a5, a6, a7, a8, a9, a10]
theorem s_ent {ns : List Int} {c c6 d4 S so : Int} {G : D} {M1 : Store} (f1 : ∀ M, fmodF (.int c) (.int 6) M = ok (.int c6) M) (f2 : ∀ M, fdivF (.int c) (.int 6) M = ok (.int d4) M) (f3 : ∀ M, fmodF (.int d4) (.int 4) M = ok (.int so) M) {sv : Int} (ix : ∀ M, ixF (.lst [.int 0, .int 1, .int 3, .int 4]) (.int so) M = ok (.int sv) M) (hS : 1 + c6 = S) (hen : m__law_entries [.scr ns, .loc 0, .int S, .int sv] M = ok G M1) :
    asgS 6 (fnD m__law_entries 4 [] (consA (nameD 0) (consA (nameD 1) (consA (binD addGF (cD (.int 1)) (binD fmodF (nameD 5) (cD (.int 6)))) (consA (binD ixF (lstD (consA (cD (.int 0)) (consA (cD (.int 1)) (consA (cD (.int 3)) (consA (cD (.int 4)) (nilA)))))) (binD fmodF (binD fdivF (nameD 5) (cD (.int 6))) (cD (.int 4)))) (nilA)))))) (EL (some (.scr ns)) a2 a3 a4 (some (.int c)) a6 a7 a8 a9 a10) M = some (.nx (EL (some (.scr ns)) a2 a3 a4 (some (.int c)) (some G) a7 a8 a9 a10), M1) := by simp [seqS, ifS, retS, raiseF, raiseS, consA, nilA, binD, callD, nameD, cD, bindE_v, thenS_v, bindE_x, thenS_x, unD, parS, asgS, tupD, int2F, eq_int, ne_int, intF0, negF, notF, nilS, brD, fnD, addE, subE, ix0, ix1, dropS, asgG, tupG, consG, nameG, nilG, lstD, andD, orD, tstD, ownS, appS, len_tup, len_lst, tup_tup, wipeE, set1, set2, typ_int, typ_tup, typ_non, typ_lst, isF, chainD, asT, truD, len_row, typ_row, f1, f2, f3, ix, hS, hen, addG_int]
theorem s_due {G DU : D} {RG : Str} (fr : ∀ M, m__law_framed [G] M = ok DU M) (rg : ∀ M, reprGF [G] M = ok (.str RG) M) :
    parS 7 8 (fnD m__law_framed 1 [] (consA (nameD 6) (nilA))) (callD (reprGF) (consA (nameD 6) (nilA))) (EL s0 a2 a3 a4 a5 (some G) a7 a8 a9 a10) M = some (.nx (EL s0 a2 a3 a4 a5 (some G) (some DU) (some (.str RG)) a9 a10), M) := by simp [seqS, ifS, retS, raiseF, raiseS, consA, nilA, binD, callD, nameD, cD, bindE_v, thenS_v, bindE_x, thenS_x, unD, parS, asgS, tupD, int2F, eq_int, ne_int, intF0, negF, notF, nilS, brD, fnD, addE, subE, ix0, ix1, dropS, asgG, tupG, consG, nameG, nilG, lstD, andD, orD, tstD, ownS, appS, len_tup, len_lst, tup_tup, wipeE, set1, set2, typ_int, typ_tup, typ_non, typ_lst, isF, chainD, asT, truD, len_row, typ_row, fr, rg]
theorem s_t1 {G DU : D} {RG RD : Str} (fb : ∀ M, m_field_by [G] M = ok DU M) (rd : ∀ M, reprGF [.lst [DU, DU]] M = ok (.str RD) M) (isf : ∀ M, m_is_field [DU] M = ok (.bl true) M) :
    ifS (orD (binD (neF) (callD (reprGF) (consA (lstD (consA (fnD m_field_by 1 [] (consA (nameD 6) (nilA))) (consA (fnKD m_field_by 0 1 1 [0] nilA (consA (nameD 6) (nilA))) (nilA)))) (nilA))) (callD (reprGF) (consA (lstD (consA (nameD 7) (consA (nameD 7) (nilA)))) (nilA)))) (binD (isTF true) (fnD m_is_field 1 [] (consA (nameD 7) (nilA))) (cD (.bl true)))) (retS (cD (.bl false))) (nilS) (EL s0 a2 a3 a4 a5 (some G) (some DU) (some (.str RG)) a9 a10) M = some (.nx (EL s0 a2 a3 a4 a5 (some G) (some DU) (some (.str RG)) a9 a10), M) := by
  have ns := fun M => neG_str2 (x := RD) (M := M)
  have it : ∀ M, isTF true (.bl true) (.bl true) M = ok (.bl false) M := fun M => rfl
  exact (if_f (or_v (a := false) (b := false) (by simp [seqS, ifS, retS, raiseF, raiseS, consA, nilA, binD, callD, nameD, cD, bindE_v, thenS_v, bindE_x, thenS_x, unD, parS, asgS, tupD, int2F, eq_int, ne_int, intF0, negF, notF, nilS, brD, fnD, addE, subE, ix0, ix1, dropS, asgG, tupG, consG, nameG, nilG, lstD, andD, orD, tstD, ownS, appS, len_tup, len_lst, tup_tup, wipeE, set1, set2, typ_int, typ_tup, typ_non, typ_lst, isF, chainD, asT, truD, len_row, typ_row, fnKD, pk, fb, rd, ns]) fun _ => by simp [seqS, ifS, retS, raiseF, raiseS, consA, nilA, binD, callD, nameD, cD, bindE_v, thenS_v, bindE_x, thenS_x, unD, parS, asgS, tupD, int2F, eq_int, ne_int, intF0, negF, notF, nilS, brD, fnD, addE, subE, ix0, ix1, dropS, asgG, tupG, consG, nameG, nilG, lstD, andD, orD, tstD, ownS, appS, len_tup, len_lst, tup_tup, wipeE, set1, set2, typ_int, typ_tup, typ_non, typ_lst, isF, chainD, asT, truD, len_row, typ_row, isf, it])).trans rfl
theorem s_len {G DU : D} {RG : Str} {L : Int} (ln : ∀ M, lenF [G] M = ok (.int L) M) :
    asgS 2 (callD (lenF) (consA (nameD 6) (nilA))) (EL s0 a2 a3 a4 a5 (some G) (some DU) (some (.str RG)) a9 a10) M = some (.nx (EL s0 (some (.int L)) a3 a4 a5 (some G) (some DU) (some (.str RG)) a9 a10), M) := by simp [seqS, ifS, retS, raiseF, raiseS, consA, nilA, binD, callD, nameD, cD, bindE_v, thenS_v, bindE_x, thenS_x, unD, parS, asgS, tupD, int2F, eq_int, ne_int, intF0, negF, notF, nilS, brD, fnD, addE, subE, ix0, ix1, dropS, asgG, tupG, consG, nameG, nilG, lstD, andD, orD, tstD, ownS, appS, len_tup, len_lst, tup_tup, wipeE, set1, set2, typ_int, typ_tup, typ_non, typ_lst, isF, chainD, asT, truD, len_row, typ_row, ln]
theorem s_aim {G DU : D} {RG : Str} {L L2 X Y : Int} (f1 : ∀ M, fmodF (.int L) (.int 2) M = ok (.int L2) M) (hX : Y + L2 = X) (hY : L - 1 = Y) :
    asgS 9 (tupD (consA (binD addGF (binD subF (nameD 2) (cD (.int 1))) (binD fmodF (nameD 2) (cD (.int 2)))) (consA (binD subF (nameD 2) (cD (.int 1))) (consA (nameD 2) (nilA))))) (EL s0 (some (.int L)) a3 a4 a5 (some G) (some DU) (some (.str RG)) a9 a10) M = some (.nx (EL s0 (some (.int L)) a3 a4 a5 (some G) (some DU) (some (.str RG)) (some (.tup [.int X, .int Y, .int L])) a10), M) := by simp [seqS, ifS, retS, raiseF, raiseS, consA, nilA, binD, callD, nameD, cD, bindE_v, thenS_v, bindE_x, thenS_x, unD, parS, asgS, tupD, int2F, eq_int, ne_int, intF0, negF, notF, nilS, brD, fnD, addE, subE, ix0, ix1, dropS, asgG, tupG, consG, nameG, nilG, lstD, andD, orD, tstD, ownS, appS, len_tup, len_lst, tup_tup, wipeE, set1, set2, typ_int, typ_tup, typ_non, typ_lst, isF, chainD, asT, truD, len_row, typ_row, f1, hY, hX, addG_int]
theorem s_t2 {G DU AI : D} {RG : Str} (sw : ∀ M, m_square_worths [DU, AI] M = ok G M) (rg : ∀ M, reprGF [G] M = ok (.str RG) M) :
    ifS (orD (binD (neF) (callD (reprGF) (consA (fnD m_square_worths 2 [] (consA (nameD 7) (consA (nameD 9) (nilA)))) (nilA))) (nameD 8)) (binD (neF) (callD (reprGF) (consA (nameD 6) (nilA))) (nameD 8))) (retS (cD (.bl false))) (nilS) (EL s0 a2 a3 a4 a5 (some G) (some DU) (some (.str RG)) (some AI) a10) M = some (.nx (EL s0 a2 a3 a4 a5 (some G) (some DU) (some (.str RG)) (some AI) a10), M) := by
  have ns := fun M => neG_str2 (x := RG) (M := M)
  exact (if_f (or_v (a := false) (b := false) (by simp [seqS, ifS, retS, raiseF, raiseS, consA, nilA, binD, callD, nameD, cD, bindE_v, thenS_v, bindE_x, thenS_x, unD, parS, asgS, tupD, int2F, eq_int, ne_int, intF0, negF, notF, nilS, brD, fnD, addE, subE, ix0, ix1, dropS, asgG, tupG, consG, nameG, nilG, lstD, andD, orD, tstD, ownS, appS, len_tup, len_lst, tup_tup, wipeE, set1, set2, typ_int, typ_tup, typ_non, typ_lst, isF, chainD, asT, truD, len_row, typ_row, sw, rg, ns]) fun _ => by simp [seqS, ifS, retS, raiseF, raiseS, consA, nilA, binD, callD, nameD, cD, bindE_v, thenS_v, bindE_x, thenS_x, unD, parS, asgS, tupD, int2F, eq_int, ne_int, intF0, negF, notF, nilS, brD, fnD, addE, subE, ix0, ix1, dropS, asgG, tupG, consG, nameG, nilG, lstD, andD, orD, tstD, ownS, appS, len_tup, len_lst, tup_tup, wipeE, set1, set2, typ_int, typ_tup, typ_non, typ_lst, isF, chainD, asT, truD, len_row, typ_row, rg, ns])).trans rfl
theorem s_bad {G X : D} {c c30 : Int} (f : ∀ M, fdivF (.int c) (.int 30) M = ok (.int c30) M) (hb : m__law_bent [G, .int c30] M = ok X M) :
    asgS 10 (fnD m__law_bent 2 [] (consA (nameD 6) (consA (binD fdivF (nameD 5) (cD (.int 30))) (nilA)))) (EL s0 a2 a3 a4 (some (.int c)) (some G) a7 a8 a9 a10) M = some (.nx (EL s0 a2 a3 a4 (some (.int c)) (some G) a7 a8 a9 (some X)), M) := by simp [seqS, ifS, retS, raiseF, raiseS, consA, nilA, binD, callD, nameD, cD, bindE_v, thenS_v, bindE_x, thenS_x, unD, parS, asgS, tupD, int2F, eq_int, ne_int, intF0, negF, notF, nilS, brD, fnD, addE, subE, ix0, ix1, dropS, asgG, tupG, consG, nameG, nilG, lstD, andD, orD, tstD, ownS, appS, len_tup, len_lst, tup_tup, wipeE, set1, set2, typ_int, typ_tup, typ_non, typ_lst, isF, chainD, asT, truD, len_row, typ_row, f, hb]
theorem s_ref {X : D} (h : RB X) :
    ifS (unD notF (tstD (lamD gd__law_is_refused (fnD m_field_by 1 [] (consA (nameD 10) (nilA)))))) (retS (cD (.bl false))) (nilS) (EL s0 a2 a3 a4 a5 a6 a7 a8 a9 (some X)) M = some (.nx (EL s0 a2 a3 a4 a5 a6 a7 a8 a9 (some X)), M) := by
  have hm := h M
  have e1 : fnD m_field_by 1 [] (consA (nameD 10) (nilA)) (EL s0 a2 a3 a4 a5 a6 a7 a8 a9 (some X)) M = some (.exc "BadRows" [], M) := by simp [seqS, ifS, retS, raiseF, raiseS, consA, nilA, binD, callD, nameD, cD, bindE_v, thenS_v, bindE_x, thenS_x, unD, parS, asgS, tupD, int2F, eq_int, ne_int, intF0, negF, notF, nilS, brD, fnD, addE, subE, ix0, ix1, dropS, asgG, tupG, consG, nameG, nilG, lstD, andD, orD, tstD, ownS, appS, len_tup, len_lst, tup_tup, wipeE, set1, set2, typ_int, typ_tup, typ_non, typ_lst, isF, chainD, asT, truD, len_row, typ_row, hm]
  have e2 := lam_ref e1
  exact (if_f (not_v (tst_v e2))).trans rfl
theorem s_cell {ns : List Int} {c : Int} {M1 : Store} (h : m__law_cell [.scr ns, .loc 0] M = ok (.int c) M1) :
    asgS 5 (fnD m__law_cell 2 [] (consA (nameD 0) (consA (nameD 1) (nilA)))) (EL (some (.scr ns)) a2 a3 a4 a5 a6 a7 a8 a9 a10) M = some (.nx (EL (some (.scr ns)) a2 a3 a4 (some (.int c)) a6 a7 a8 a9 a10), M1) := by simp [seqS, ifS, retS, raiseF, raiseS, consA, nilA, binD, callD, nameD, cD, bindE_v, thenS_v, bindE_x, thenS_x, unD, parS, asgS, tupD, int2F, eq_int, ne_int, intF0, negF, notF, nilS, brD, fnD, addE, subE, ix0, ix1, dropS, asgG, tupG, consG, nameG, nilG, lstD, andD, orD, tstD, ownS, appS, len_tup, len_lst, tup_tup, wipeE, set1, set2, typ_int, typ_tup, typ_non, typ_lst, isF, chainD, asT, truD, len_row, typ_row, h]
end
theorem body_ok {ns : List Int} {k0 : Nat} {a2 a3 a4 a5 a6 a7 a8 a9 a10 : Option D} (hk : k0 ≤ 4000) (hn : ns.length ≤ 63) :
    Wp (BL (EL (some (.scr ns)) a2 a3 a4 a5 a6 a7 a8 a9 a10) (cellS k0)) (fun f M' => ∃ (k1 : Nat) (b2 b5 b6 b7 b8 b9 b10 : Option D), k1 ≤ k0 + 40 ∧ f = .nx (EL (some (.scr ns)) b2 a3 a4 b5 b6 b7 b8 b9 b10) ∧ M' = cellS k1) := by
  obtain ⟨c, c0, c1, hc⟩ := cell_ok (ns := ns) (k0 := k0) (M := cellS k0) rfl (by omega) hn
  have hc' : m__law_cell [.scr ns, .loc 0] (cellS k0) = ok (.int c) (cellS (k0 + 1)) := hc
  obtain ⟨l, hl⟩ : ∃ l : Nat, (l : Int) = 1 + c % 6 := ⟨(1 + c % 6).toNat, by omega⟩
  have h1 : 1 ≤ l := by omega
  have h6 : l ≤ 6 := by omega
  obtain ⟨so, hso⟩ : ∃ i : Int, i = c / 6 % 4 := ⟨_, rfl⟩
  have sv : ∃ sv : Int, 0 ≤ sv ∧ sv < 5 ∧ sv ≠ 2 ∧ ∀ M, ixF (.lst [.int 0, .int 1, .int 3, .int 4]) (.int so) M = ok (.int sv) M := by
    have cs : so = 0 ∨ so = 1 ∨ so = 2 ∨ so = 3 := by omega
    rcases cs with z | z | z | z
    · exact ⟨0, by decide, by decide, by decide, fun M => by rw [z]; exact ix_lst rfl⟩
    · exact ⟨1, by decide, by decide, by decide, fun M => by rw [z]; exact ix_lst rfl⟩
    · exact ⟨3, by decide, by decide, by decide, fun M => by rw [z]; exact ix_lst rfl⟩
    · exact ⟨4, by decide, by decide, by decide, fun M => by rw [z]; exact ix_lst rfl⟩
  obtain ⟨sv, v0, v5, v2, vix⟩ := sv
  have ll : l * l ≤ 36 := Nat.mul_le_mul h6 h6
  obtain ⟨A, hA, hen⟩ := entries_ok (ns := ns) (k0 := k0 + 1) (s := l) (S := sv) (M := cellS (k0 + 1)) rfl (by omega) hn (by omega) v0 v5
  have hen' : m__law_entries [.scr ns, .loc 0, .int (l : Int), .int sv] (cellS (k0 + 1)) = ok (gridD l A) (cellS (k0 + 1 + l * l)) := hen
  have v : VA l A := ⟨fun i j hi hj => (hA i j hi hj).d, fun i j hi hj => (hA i j hi hj).b, fun i j hi hj => ((hA i j hi hj).z).resolve_left v2⟩
  obtain ⟨x, b1, b2, _⟩ := bent_ok (s := l) (A := A) (N := c / 30) h1 h6 (by omega) (cellS (k0 + 1 + l * l))
  have e4 : ((l : Int)) - 1 = ((fy l : Nat) : Int) := by unfold fy; omega
  have e3 : ((fy l : Nat) : Int) + (l : Int) % 2 = ((fx l : Nat) : Int) := by unfold fx fy; omega
  show Wp (seqS _ _ _ _) _
  refine wp_nx (s_cell hc') ?_
  refine wp_nx (s_ent (fun M => fmd (by decide)) (fun M => fdv (by decide) (by unfold Bd; decide)) (fun M => by rw [hso]; exact fmd (by decide)) vix hl.symm hen') ?_
  refine wp_nx (s_due (framed_ok h1 h6) (repr_grid v h6)) ?_
  refine wp_nx (s_t1 (fieldby_ok h1 h6 v.z) (repr_due v h6) (isfield_ok h1 h6 v.z)) ?_
  refine wp_nx (s_len (fun M => len_row)) ?_
  refine wp_nx (s_aim (fun M => fmd (by decide)) e3 e4) ?_
  refine wp_nx (s_t2 (sqworths_ok h1 h6 v.z) (repr_grid v h6)) ?_
  refine wp_nx (s_bad (fun M => fdv (by decide) (by unfold Bd; decide)) b1) ?_
  exact wp_of _ (s_ref b2) ⟨k0 + 1 + l * l, _, _, _, _, _, _, _, by omega, rfl, rfl⟩
theorem law_true : ∀ ns : List Int, ns.length ≤ 63 → (∀ z ∈ ns, Builtin.Int.intBits z ≤ 1048576) → ∃ M, m_law [.scr ns] [] = some (.val (.bl true), M) := by
  intro ns hn _
  have l0 : ∀ M, lenF [.scr ns] M = ok (.int (ns.length : Int)) M := fun M => len_scr
  obtain ⟨l, hl⟩ : ∃ i : Int, i = (ns.length : Int) := ⟨_, rfl⟩
  rw [← hl] at l0
  obtain ⟨q, hq⟩ : ∃ q, q = if l / 4 < 3 then l / 4 else 3 := ⟨_, rfl⟩
  obtain ⟨n, hN⟩ : ∃ n : Nat, (n : Int) = 2 + q := ⟨(2 + q).toNat, by rw [hq]; split <;> omega⟩
  have n5 : n ≤ 5 := by
    have : (n : Int) ≤ 5 := by rw [hN, hq]; split <;> omega
    omega
  have f1 : ∀ M, fdivF (.int l) (.int 4) M = ok (.int (l / 4)) M := fun M => fdv (by decide) (by unfold Bd; decide)
  have f2 : ∀ M, minF [.int 3, .int (l / 4)] M = ok (.int q) M := fun M => by rw [hq]; rfl
  have key : Wp (den_law [some (.scr ns), none, none, none, none, none, none, none, none, none, none] []) (fun f M' => f = .rt (.bl true) ∧ ∃ X, M' = [] ++ X) := by
    unfold den_law
    refine wp_nx (e' := EL (some (.scr ns)) none none none none none none none none none) (M' := cellS 0) (by simp [seqS, ifS, retS, raiseF, raiseS, consA, nilA, binD, callD, nameD, cD, bindE_v, thenS_v, bindE_x, thenS_x, unD, parS, asgS, tupD, int2F, eq_int, ne_int, intF0, negF, notF, nilS, brD, fnD, addE, subE, ix0, ix1, dropS, asgG, tupG, consG, nameG, nilG, lstD, andD, orD, tstD, ownS, appS, len_tup, len_lst, tup_tup, wipeE, set1, set2, typ_int, typ_tup, typ_non, typ_lst, isF, chainD, asT, truD, len_row, typ_row]) ?_
    refine wp_for_nx ((List.range (7 - 1)).map fun (j : Nat) => D.int ((1 + j : Nat) : Int)) (fun _ e M' => M' = cellS 0 ∧ ∃ a2, e = EL (some (.scr ns)) a2 none none none none none none none none) (it_r2 rfl rfl (by decide) (by decide)) (fun j d e M' hd hi => ?_) (fun _ _ _ => trivial) ⟨rfl, _, rfl⟩ (fun e' M' hi => ?_)
    · obtain ⟨rfl, a2, rfl⟩ := hi
      obtain ⟨hj, rfl⟩ := map_getR hd
      have fr := frame_right (l := 1 + j) (by omega) (by omega) (cellS 0)
      refine ⟨trivial, EL (some (.scr ns)) (some (.int ((1 + j : Nat) : Int))) none none none none none none none none, cellS 0, rfl, ?_⟩
      generalize ((1 + j : Nat) : Int) = J at *
      generalize cellS 0 = Mx at *
      exact wp_of (M' := Mx) (.nx (EL (some (.scr ns)) (some (.int J)) none none none none none none none none)) ((if_f (by simp [seqS, ifS, retS, raiseF, raiseS, consA, nilA, binD, callD, nameD, cD, bindE_v, thenS_v, bindE_x, thenS_x, unD, parS, asgS, tupD, int2F, eq_int, ne_int, intF0, negF, notF, nilS, brD, fnD, addE, subE, ix0, ix1, dropS, asgG, tupG, consG, nameG, nilG, lstD, andD, orD, tstD, ownS, appS, len_tup, len_lst, tup_tup, wipeE, set1, set2, typ_int, typ_tup, typ_non, typ_lst, isF, chainD, asT, truD, len_row, typ_row, fr])).trans rfl) ⟨_, .inl rfl, rfl, _, rfl⟩
    · obtain ⟨rfl, a2, rfl⟩ := hi
      have p30 : ∀ M, powF (.int 10) (.int 30) M = ok (.int 1000000000000000000000000000000) M := fun M => ten30
      refine wp_for_nx [.int 0, .int 7, .int (-1), .bl true, .non, .str "3", .tup [.int 3], .lst [], .int 1000000000000000000000000000000] (fun _ e M' => M' = cellS 0 ∧ ∃ a2 a3, e = EL (some (.scr ns)) a2 a3 none none none none none none none) (it_tup (by
        generalize cellS 0 = Mx
        simp [seqS, ifS, retS, raiseF, raiseS, consA, nilA, binD, callD, nameD, cD, bindE_v, thenS_v, bindE_x, thenS_x, unD, parS, asgS, tupD, int2F, eq_int, ne_int, intF0, negF, notF, nilS, brD, fnD, addE, subE, ix0, ix1, dropS, asgG, tupG, consG, nameG, nilG, lstD, andD, orD, tstD, ownS, appS, len_tup, len_lst, tup_tup, wipeE, set1, set2, typ_int, typ_tup, typ_non, typ_lst, isF, chainD, asT, truD, len_row, typ_row, p30])) (fun j d e M' hd hi => ?_) (fun _ _ _ => trivial) ⟨rfl, _, _, rfl⟩ (fun e' M' hi => ?_)
      · obtain ⟨rfl, a2, a3, rfl⟩ := hi
        have dm := odd_frames (List.mem_of_getElem? hd) (cellS 0)
        refine ⟨trivial, EL (some (.scr ns)) a2 (some d) none none none none none none none, cellS 0, rfl, ?_⟩
        have e1 : fnD m_frame 1 [] (consA (nameD 3) (nilA)) (EL (some (.scr ns)) a2 (some d) none none none none none none none) (cellS 0) = some (.exc "BadRows" [], cellS 0) := by
          generalize cellS 0 = Mx at *
          simp [seqS, ifS, retS, raiseF, raiseS, consA, nilA, binD, callD, nameD, cD, bindE_v, thenS_v, bindE_x, thenS_x, unD, parS, asgS, tupD, int2F, eq_int, ne_int, intF0, negF, notF, nilS, brD, fnD, addE, subE, ix0, ix1, dropS, asgG, tupG, consG, nameG, nilG, lstD, andD, orD, tstD, ownS, appS, len_tup, len_lst, tup_tup, wipeE, set1, set2, typ_int, typ_tup, typ_non, typ_lst, isF, chainD, asT, truD, len_row, typ_row, dm]
        exact wp_of (M' := cellS 0) (.nx (EL (some (.scr ns)) a2 (some d) none none none none none none none)) ((if_f (not_v (tst_v (lam_ref e1)))).trans rfl) ⟨_, .inl rfl, rfl, _, _, rfl⟩
      · obtain ⟨rfl, a2, a3, rfl⟩ := hi
        refine wp_for_nx ((List.range n).map fun (j : Nat) => D.int (j : Int)) (fun j e M' => ∃ (k : Nat) (a2 a3 a4 a5 a6 a7 a8 a9 a10 : Option D), k ≤ 40 * j ∧ e = EL (some (.scr ns)) a2 a3 a4 a5 a6 a7 a8 a9 a10 ∧ M' = cellS k) (it_r1 (by
          rw [hN]
          generalize l / 4 = l4 at *
          generalize cellS 0 = Mx
          simp [seqS, ifS, retS, raiseF, raiseS, consA, nilA, binD, callD, nameD, cD, bindE_v, thenS_v, bindE_x, thenS_x, unD, parS, asgS, tupD, int2F, eq_int, ne_int, intF0, negF, notF, nilS, brD, fnD, addE, subE, ix0, ix1, dropS, asgG, tupG, consG, nameG, nilG, lstD, andD, orD, tstD, ownS, appS, len_tup, len_lst, tup_tup, wipeE, set1, set2, typ_int, typ_tup, typ_non, typ_lst, isF, chainD, asT, truD, len_row, typ_row, l0, f1, f2, addG_int]) (by omega)) (fun j d e M' hd hi => ?_) (fun _ _ _ => trivial) ⟨0, _, _, _, _, _, _, _, _, _, by omega, rfl, rfl⟩ (fun e' M' hi => ?_)
        · obtain ⟨k, a2, a3, a4, a5, a6, a7, a8, a9, a10, hk, rfl, rfl⟩ := hi
          obtain ⟨hj, rfl⟩ := map_getR hd
          refine ⟨trivial, EL (some (.scr ns)) a2 a3 (some (.int (j : Int))) a5 a6 a7 a8 a9 a10, cellS k, rfl, ?_⟩
          obtain ⟨f, M2, g1, k1, b2, b5, b6, b7, b8, b9, b10, g2, rfl, rfl⟩ := body_ok (ns := ns) (k0 := k) (a2 := a2) (a3 := a3) (a4 := some (.int (j : Int))) (a5 := a5) (a6 := a6) (a7 := a7) (a8 := a8) (a9 := a9) (a10 := a10) (by omega) hn
          exact ⟨_, _, g1, _, .inl rfl, k1, _, _, _, _, _, _, _, _, _, by omega, rfl, rfl⟩
        · obtain ⟨k, a2, a3, a4, a5, a6, a7, a8, a9, a10, hk, rfl, rfl⟩ := hi
          generalize cellS k = Mx
          exact wp_of (.rt (.bl true)) (M' := Mx) (by simp [seqS, ifS, retS, raiseF, raiseS, consA, nilA, binD, callD, nameD, cD, bindE_v, thenS_v, bindE_x, thenS_x, unD, parS, asgS, tupD, int2F, eq_int, ne_int, intF0, negF, notF, nilS, brD, fnD, addE, subE, ix0, ix1, dropS, asgG, tupG, consG, nameG, nilG, lstD, andD, orD, tstD, ownS, appS, len_tup, len_lst, tup_tup, wipeE, set1, set2, typ_int, typ_tup, typ_non, typ_lst, isF, chainD, asT, truD, len_row, typ_row]) ⟨rfl, Mx, rfl⟩
  obtain ⟨f, M', h1, h2, X, h3⟩ := key
  rw [h2, h3] at h1
  exact ⟨[], fv_rt (e0 := [some (.scr ns), none, none, none, none, none, none, none, none, none, none]) X rfl h1 rfl⟩
end K63
namespace K63
open PySem L2 DL PyProof.Rows
theorem dend {P : Program} {w : World} {K : PySem.W.Frag} {h : Heap} {mg : Str → Option Value} {q : Program} {fa : Addr} (hP : ((P.main.file : Str) == ("/claim/cut.py" : Str)) = true) (hS : (P.main.scope.names.lookup ("super" : Str)).isSome = false) (X : K.In h) (G : h.Ns mainGlobals mg) (c : SaysZ fz mz vz K) (hfa : mg "law" = some (.ref fa))
    (r__flat_heights : ∃ d, (recsOf q).find? (fun e => e.name == ("_flat_heights" : Str)) = some d)
    (r_flat : ∃ d, (recsOf q).find? (fun e => e.name == ("flat" : Str)) = some d)
    (r_law : ∃ d, (recsOf q).find? (fun e => e.name == ("law" : Str)) = some d)
    (hden : ∀ ns : List Int, ns.length ≤ 63 → (∀ z ∈ ns, Builtin.Int.intBits z ≤ 1048576) → ∃ M, m_law [.scr ns] [] = some (.val (.bl true), M)) :
    DEnd P w K q 16 63 "script" mg fa := by
  have t : TxOk P (txOf K mg) := txok hP hS X G c
  have e := hfa.symm.trans t.g_law
  cases e
  refine ⟨(txOf K mg).fx, _, [(("_flat_heights" : Str), cOf K "_flat_heights", tOf K "_flat_heights"), (("flat" : Str), cOf K "flat", tOf K "flat"), (("law" : Str), cOf K "law", tOf K "law")], m_law, rfl, ?_, ?_, ?_, fun base _ _ tb => ok_law t ⟨tb (cOf K "_flat_heights", tOf K "_flat_heights") (by simp), tb (cOf K "flat", tOf K "flat") (by simp), tb (cOf K "law", tOf K "law") (by simp)⟩, hden⟩
  · intro y hy
    simp only [List.mem_cons, or_false, List.not_mem_nil] at hy
    rcases hy with rfl | rfl | rfl
    · exact ⟨r__flat_heights, (codZ_ok (c.fact 4 9)).2⟩
    · exact ⟨r_flat, (codZ_ok (c.fact 4 10)).2⟩
    · exact ⟨r_law, (codZ_ok (c.fact 4 11)).2⟩
  · intro y hy
    simp only [Tx.fx, List.mem_cons, or_false, List.not_mem_nil] at hy
    rcases hy with rfl | rfl | rfl
    · show tOf K "_flat_heights" ∈ [tOf K "_flat_heights", tOf K "flat", tOf K "law"]
      simp
    · show tOf K "flat" ∈ [tOf K "_flat_heights", tOf K "flat", tOf K "law"]
      simp
    · show tOf K "law" ∈ [tOf K "_flat_heights", tOf K "flat", tOf K "law"]
      simp
  · intro s v
    obtain ⟨oc, od, kV, doc, pm, an, cdv, ct, osl, hf, _⟩ := (F_law c).ex
    show BindsTo s (fdOf K (He.ga K "law")) _ _
    rw [hf]
    exact .of_eq rfl
end K63
open PySem PyProof.Rows
open PySem.W
set_option maxHeartbeats 0 in
theorem PySem.Challenge.cw_hollowrise_k63_frames_holds : PySem.Challenge.rw_hollowrise_k63_frames.Holds := by
  w_on; o_law
  refine HandSHeadRun.head_imp (r := OpenLaw.row PySem.Challenge.rw_hollowrise_k63_frames) (q := K63.qz) (H := K63.hkz) (ob := DL.obZ 5 K63.fz K63.mz) (M := 30000) (loose := K63.nz) (d := HandSHeadRun.topDef (OpenLaw.row PySem.Challenge.rw_hollowrise_k63_frames).prog 58) (kwd := []) (fun s => DL.obZ_eq s) K63.runz (by kernel_rfl) (by kernel_rfl) (by kernel_rfl) (by rfl) (by first | assumption | decide +kernel) (by decide +kernel) ⟨rfl, rfl, rfl, rfl, rfl, by decide +kernel⟩ ?hw ?hc
  case hw => w_witness2
  case hc =>
    refine DL.walk_Z (l := PySem.Challenge.rw_hollowrise_k63_frames) (n := 63) (k := 16) (x := "script") rfl (by decide) (by kernel_rfl) ⟨rfl, by decide, by decide⟩ ?F
    intro w mg fa h Y G hmg0
    obtain ⟨K, KX, c⟩ := Y
    have hmgL : mg ("law" : PySem.Str) = some (.ref fa) := by
      have e : (HandSHeadRun.topDef (OpenLaw.row PySem.Challenge.rw_hollowrise_k63_frames).prog 58).name = ("law" : PySem.Str) := by kernel_rfl
      rw [← e]
      exact hmg0
    exact ⟨K, KX, K63.dend (by kernel_rfl) (by kernel_rfl) KX G c hmgL ⟨HandSHeadRun.topDef (OpenLaw.row PySem.Challenge.rw_hollowrise_k63_frames).prog 35, by kernel_rfl⟩ ⟨HandSHeadRun.topDef (OpenLaw.row PySem.Challenge.rw_hollowrise_k63_frames).prog 31, by kernel_rfl⟩ ⟨HandSHeadRun.topDef (OpenLaw.row PySem.Challenge.rw_hollowrise_k63_frames).prog 58, by kernel_rfl⟩ K63.law_true⟩
