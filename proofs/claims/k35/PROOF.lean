import PyProof.Rows.All
import Wide.All
import OpenK.AllK
import Wide.FinOn
import HandS.Words
import HandS.Ends
import HandS.ForMost
import HandS.More
import HandS.Walk
import HandS.TupAny
import HandS.Style
import HandS.IsInst
import HandS.Zip
import HandS.Conv
import HandS.Deep
import KE.KeyNested
import KE.KNest
import HandS.Nested
import KE.GoesEnum
import HandS.Iter
import HandS.Set
import HandS.SetFor
import HandS.SetTxt0
import HandS.Strs
import PyProof.Rows.SortShellAny
import HandS.List
import PyProof.ReprRoads
import PyProof.ReprDict
import PyProof.CallFns
import PyProof.CallStr
import PyProof.EqAt
import PyProof.EqKinds
import PyProof.NeKinds
import PyProof.Rows.IntBool
import PyProof.TwoTypesSub
import PyProof.ReprLen
import PyProof.ReprRoom
import PyProof.Rows.ReprOcc
import PyProof.Rows.StrCase
import HandS.CallLocal
import PyProof.WalksMore
import KE.GoesZip
import KE.SortKeyHeap
import PyProof.P3Eq
import HandS.SortKw
import HandS.FStr
import HandS.Star
import PyProof.P3In
import KE.KDictKeyed
import KE.DataFind
import HandS.Wide
import HandS.TryOnly
import HandS.DictComp
import KE.KDictList
import HandS.RaiseMore
import KE.GoesMore
import HandS.SetKeys
import HandS.NoneIn
import KE.KDictWalk
import KE.DataMinMax
import PyProof.Rows.ListStrD
import HandS.Text
import HandS.StrSplit
import PyProof.DictUpdate
import PyProof.AutoSeq1
import HandS.WordsDict
import KE.KExcSuper
import KE.KExcIs
import HandS.ExcIs
import HandS.ExcOwn
import HandS.ExcInit
import HandS.ExcField
import HandS.TupMul
import HandS.StrMore
import HandS.ExcValue
import KE.KDictPairs
import HandS.Defaults
import HandS.MakeKwOnly
import HandS.HotCalls
import HandS.Flow
import PySem.Challenge.RW_standviews_k35_roads_with_room
set_option Elab.async false
set_option linter.all false
set_option autoImplicit false
set_option maxRecDepth 100000
set_option maxHeartbeats 4000000
/-! promises of defs where nothing is being shown (no guard stands): repr may be asked -/
namespace DG
open PySem PySem.Spec PyProof.Rows L2
structure RoomG (k : Nat) (A : Around) : Prop where
  r : Room k A
  g : A.guards = some []
theorem RoomG.mono {j k : Nat} {A : Around} (r : RoomG k A) (h : j ≤ k) : RoomG j A := ⟨r.r.mono h, r.g⟩
structure FnG (P : Program) (w : World) (K : PySem.W.Frag) (mg : Str → Option Value) (base : Heap) (CX : CXT) (k : Nat) (f : Addr) (fd : FuncData) (ps : List Str) (sp : Sp) : Prop where
  len : ∀ vs H Q E, sp vs H Q E → vs.length = ps.length
  run : ∀ (A : Around) (outer : List Env) (s : Shared) (H : Hp) (args : Args) (us : List Value) (vs : List V) (Q : VK) (E : XK), RoomG k A → Env0 P w K mg base A outer s H → BindsTo s fd args (ps.zip us) →
    Vals vs us → sp vs H Q E → codeAny (model P w) A (.call (.ref f) args) (CR CX outer P w H s Q E) s
section
variable {P : Program} {w : World} {K : PySem.W.Frag} {mg : Str → Option Value} {base : Heap} {CX : CXT} {j k : Nat} {f : Addr} {fd : FuncData} {ps : List Str} {sp sp' : Sp}
theorem FnG.mono (F : FnG P w K mg base CX j f fd ps sp) (h : j ≤ k) : FnG P w K mg base CX k f fd ps sp := ⟨F.len, fun A o s H a us vs Q E r => F.run A o s H a us vs Q E (r.mono h)⟩
theorem FnG.imp (F : FnG P w K mg base CX k f fd ps sp) (h : ∀ vs H Q E, sp' vs H Q E → sp vs H Q E) : FnG P w K mg base CX k f fd ps sp' :=
  ⟨fun vs H Q E q => F.len vs H Q E (h _ _ _ _ q), fun A o s H a us vs Q E r e b v q => F.run A o s H a us vs Q E r e b v (h _ _ _ _ q)⟩
/-- a def by its body -/
theorem fnG {x qual : Str} {st : Stmt} {N : List Str} (D : Fun K x qual st f fd) (S : FnScope N ps (defScope st)) (len : ∀ vs H Q E, sp vs H Q E → vs.length = ps.length)
    (body : ∀ (cdv : Value) (A : Around) (outer : List Env) (s : Shared) (H : Hp) (vs : List V) (Q : VK) (E : XK), RoomG k (A.deeper (envOfC qual (defScope st) s.heap.objs.size f cdv)) → sp vs H Q E →
      ∃ t, PSs (cxOf CX P w K mg base N qual (defScope st) f cdv A outer s H E) (defBody st) t ∧ t { nx := fun _ H' => Q .non H', rt := Q } (start N vs) H) : FnG P w K mg base CX (k + 1) f fd ps sp := by
  obtain ⟨oc, od, kV, doc, pm, an, cdv, ct, osl, rfl, lk, hcd⟩ := D.ex
  refine ⟨len, fun A outer s H args us vs Q E hr e0 hb r hsp => ?_⟩
  have hl := len vs H Q E hsp
  have KX : K.In s.heap := e0.mod.kin.keeps fun b o e => (e0.bs b o e).1
  have lim := e0.mod.nolimit.keeps fun b o e => (e0.bs b o e).1
  have kinds : ∀ y ∈ ps.zip us, (defScope st).names.lookup y.1 = some .local ∨ ((defScope st).names.lookup y.1 = some .cell ∧ ((cellsFrom (s.heap.objs.size + 1) (defScope st).names []).lookup y.1).isSome = true) := by
    intro y hy
    have hm := (List.of_mem_zip (a := y.1) (b := y.2) hy).1
    exact (S.par y.1 hm).imp id fun q => ⟨q, PySem.W.cellsFrom_some _ _ _ (.inl q)⟩
  apply codeAny_call_function hr.r.depth (KX _ _ lk) rfl S.co S.gen rfl (PySem.W.codeRec_of KX hcd)
  refine hb _ _ _ _ (wpAny_newFunctionEnv_cells S.kind kinds fun env he s1 x => ?_)
  subst he
  refine ⟨lim.keeps x.toInCall.keep, ?_⟩
  apply codeAny_func
  obtain ⟨t, ht, q⟩ := body cdv A outer s H vs Q E ⟨hr.r.deeper _, hr.g⟩ hsp
  have I := inv_start (CX := CX) (E := E) S hr.r.hd e0 hl r x
  refine wpAny_mono (ht.run [] s1 (start N vs) H _ I q) (fun fl s' z => ?_) fun e s' z => z
  match fl, z with
  | .ret u, ⟨v, σ', H', J, rv, q⟩ => exact ⟨v, H', J.os, J.bare, J.base, J.hok, rv, q⟩
  | .next, ⟨σ', H', J, q⟩ => exact ⟨V.non, H', J.os, J.bare, J.base, J.hok, rfl, q⟩
  | .brk, ⟨_, _, _, q⟩ => exact q.elim
  | .cont, ⟨_, _, _, q⟩ => exact q.elim
end
/-- a call of one -/
theorem pe_callG {X : Cx} {CX : CXT} {k : Nat} {f : Addr} {fd : FuncData} {ps : List Str} {sp : Sp} {E : XK} {x : Str} {p pos : Pos} {e : Expr} {es : List Expr} {t : TA} (F : FnG X.prog X.w X.K X.mg X.base CX k f fd ps sp) (hr : RoomG k X.A) (hg : Gl X x) (hm : X.mg x = some (.ref f))
    (hk : PySem.W.keepIn X.K (.ref f) = true) (hb : Binds X.K fd ps []) (hx : Passes CX X E) (ha : PA X (e :: es) t) (hdb : (x == ("__debug__" : Str)) = false := by decide)
    (he : starEach (e :: es) X.env = (false, eval e X.env) :: starEach es X.env := by rfl) (hpl : (backTo pos (starEach es X.env)).any (·.1) = false := by rfl) : PE X (.Call (.Name x p) (e :: es) [] pos) (tCall sp [] E t) := by
  refine ⟨fun pins s σ H Q I h => wpAny_Call_Name_kw (ld_glob I hg hm ?_ hdb)⟩
  refine PySem.W.callWith_K (h₀ := X.base) I.ok.mod.kin hk (thn (ha.run pos pins s σ H _ I h) fun us s1 ⟨vs, H1, I1, r, q⟩ => ⟨I1.kIn, wpAny_call ?_⟩) he hpl
  have q : sp (vs ++ []) H1 Q E := q
  rw [List.append_nil] at q
  have hl : (us ++ []).length = ps.length := by rw [List.append_nil, ← r.length]; exact F.len _ _ _ _ q
  have b := hb s1 us I1.kIn hl
  rw [List.append_nil] at b
  refine codeAny_mono (F.run X.A X.stack s1 H1 ⟨us, []⟩ us vs Q E hr I1.env0 b r q) fun r s' z => ?_
  match r, z with
  | .error e, z => exact hx pins σ H1 s1 e s' I1 z
  | .ok (.ret u), z => exact I1.after z
  | .ok .next, z => exact z.elim
  | .ok .brk, z => exact z.elim
  | .ok .cont, z => exact z.elim
end DG

set_option autoImplicit false
set_option maxRecDepth 100000
set_option maxHeartbeats 4000000
namespace DG
open PySem PySem.Spec PyProof.Rows L2
section
variable {P : Program} {w : World} {K : PySem.W.Frag} {mg mb : Str → Option Value} {CX : CXT} {k : Nat} {fa a : Addr} {fd : FuncData} {x : Str} {sp : Sp} {s : Shared} {vs : List Value} {ns : List Int}
/-- what the head wants of the law's call -/
abbrev Told (s : Shared) : Result → Shared → Prop := fun r s' => r = .ok (.ret (.bool true)) ∧ OldK s.heap s'.heap ∧ s'.os = s.os ∧ AllBare s'.gens
end
end DG

set_option autoImplicit false
set_option maxRecDepth 100000
set_option maxHeartbeats 2000000
namespace DL
open PySem L2

/-- what is written of the program, and what is kept in mind on the way -/
structure KZ where
  fr : PySem.W.Frag
  z : Hp → Hp → Prop
  zm : ∀ {Fr Fr1 H0 H1 : Hp}, (∀ a o, Fr a = some o → Fr1 a = some o) → Same H0 H1 → z Fr H0 → z Fr1 H1
instance : Coe KZ PySem.W.Frag := ⟨KZ.fr⟩
/-- a place in the program, and what is kept in mind there -/
structure CxZ where
  X : Cx
  z : Hp → Hp → Prop
  zm : ∀ {Fr Fr1 H0 H1 : Hp}, (∀ a o, Fr a = some o → Fr1 a = some o) → Same H0 H1 → z Fr H0 → z Fr1 H1
instance : Coe CxZ Cx := ⟨CxZ.X⟩
abbrev CxZ.K (X : CxZ) : KZ := ⟨X.X.K, X.z, X.zm⟩
abbrev CxZ.prog (X : CxZ) := X.X.prog
abbrev CxZ.w (X : CxZ) := X.X.w
abbrev CxZ.mg (X : CxZ) := X.X.mg
abbrev CxZ.base (X : CxZ) := X.X.base
abbrev CxZ.A (X : CxZ) := X.X.A
abbrev CxZ.N (X : CxZ) := X.X.N
abbrev CxZ.env (X : CxZ) := X.X.env
abbrev CxZ.stack (X : CxZ) := X.X.stack
abbrev CxZ.fn (X : CxZ) := X.X.fn
abbrev CxZ.calm (X : CxZ) := X.X.calm
abbrev CxZ.xe (X : CxZ) := X.X.xe
abbrev CxZ.blk (X : CxZ) (s : Shared) (H : Hp) (scope : Scope) (cenv : PySem.Env) (fp : List Addr) : CxZ := ⟨X.X.blk s H scope cenv fp, X.z, X.zm⟩
/-- nothing kept in mind -/
abbrev topK (K : PySem.W.Frag) : KZ := ⟨K, fun _ _ => True, fun _ _ _ => trivial⟩
abbrev topX (X : Cx) : CxZ := ⟨X, fun _ _ => True, fun _ _ _ => trivial⟩
/-! ### data -/
inductive D where
  | non | bl (b : Bool) | int (i : Int) | str (s : Str)
  | tup (xs : List D) | lst (xs : List D) | scr (xs : List D) | cel (a : Addr) | ty (n : String) | ftp (xs : List D)

mutual
inductive Dat (K : KZ) (H : Hp) : V → D → Prop
  | non : Dat K H .non .non
  | bl (b : Bool) : Dat K H (.bl b) (.bl b)
  | int (i : Int) : Dat K H (.int i) (.int i)
  | str (s : Str) : Dat K H (.str s) (.str s)
  | tup {a : Addr} {vs : List V} {ds : List D} : SqT K H a vs → Dats K H vs ds → Dat K H (.ref a) (.tup ds)
  | lst {a : Addr} {vs : List V} {ds : List D} : H a = some (.lst vs) → Dats K H vs ds → Dat K H (.ref a) (.lst ds)
  | scr {a : Addr} {vs : List V} {ds : List D} : SqL K H a vs → Dats K H vs ds → Dat K H (.ref a) (.scr ds)
  | cel (a : Addr) : Dat K H (.ref a) (.cel a)
  | ty (n : String) : Dat K H (.ty n) (.ty n)
  | ftp {a : Addr} {o : Obj} {vs : List V} {ds : List D} : H a = some (.frz o (.tup vs)) → o.dict = none → Dats K H vs ds → Dat K H (.ref a) (.ftp ds)
inductive Dats (K : KZ) (H : Hp) : List V → List D → Prop
  | nil : Dats K H [] []
  | cons {v : V} {vs : List V} {d : D} {ds : List D} : Dat K H v d → Dats K H vs ds → Dats K H (v :: vs) (d :: ds)
end

theorem same_l {K : KZ} {H H' : Hp} {a : Addr} {xs : List V} (e : Same H H') (h : SqL K H a xs) : SqL K H' a xs := e.seq h
theorem same_t {K : KZ} {H H' : Hp} {a : Addr} {xs : List V} (e : Same H H') (h : SqT K H a xs) : SqT K H' a xs := by
  rcases h with (h | ⟨o, h⟩) | h
  · exact .inl (.inl (e _ _ h))
  · exact .inl (.inr ⟨o, e _ _ h⟩)
  · exact .inr h

mutual
theorem Dat.chg {K K' : KZ} (e : K.fr = K'.fr) {H : Hp} : ∀ (d : D) (v : V), Dat K H v d → Dat K' H v d
  | .non, _, .non => .non
  | .bl _, _, .bl b => .bl b
  | .int _, _, .int i => .int i
  | .str _, _, .str s => .str s
  | .tup ds, _, .tup h hs => .tup (by rw [← e]; exact h) (Dats.chg e ds _ hs)
  | .lst ds, _, .lst h hs => .lst h (Dats.chg e ds _ hs)
  | .scr ds, _, .scr h hs => .scr (by rw [← e]; exact h) (Dats.chg e ds _ hs)
  | .cel _, _, .cel a => .cel a
  | .ty _, _, .ty n => .ty n
  | .ftp ds, _, .ftp h h2 hs => .ftp h h2 (Dats.chg e ds _ hs)
theorem Dats.chg {K K' : KZ} (e : K.fr = K'.fr) {H : Hp} : ∀ (ds : List D) (vs : List V), Dats K H vs ds → Dats K' H vs ds
  | [], _, .nil => .nil
  | d :: ds, _, .cons h hs => .cons (Dat.chg e d _ h) (Dats.chg e ds _ hs)
end
mutual
theorem Dat.mono {K : KZ} {H H' : Hp} (e : Same H H') : ∀ (d : D) (v : V), Dat K H v d → Dat K H' v d
  | .non, _, .non => .non
  | .bl _, _, .bl b => .bl b
  | .int _, _, .int i => .int i
  | .str _, _, .str s => .str s
  | .tup ds, _, .tup h hs => .tup (same_t e h) (Dats.mono e ds _ hs)
  | .lst ds, _, .lst h hs => .lst (e _ _ h) (Dats.mono e ds _ hs)
  | .scr ds, _, .scr h hs => .scr (same_l e h) (Dats.mono e ds _ hs)
  | .cel _, _, .cel a => .cel a
  | .ty _, _, .ty n => .ty n
  | .ftp ds, _, .ftp h h2 hs => .ftp (e _ _ h) h2 (Dats.mono e ds _ hs)
theorem Dats.mono {K : KZ} {H H' : Hp} (e : Same H H') : ∀ (ds : List D) (vs : List V), Dats K H vs ds → Dats K H' vs ds
  | [], _, .nil => .nil
  | d :: ds, _, .cons h hs => .cons (Dat.mono e d _ h) (Dats.mono e ds _ hs)
end
theorem Dats.length {K : KZ} {H : Hp} : ∀ {vs : List V} {ds : List D}, Dats K H vs ds → vs.length = ds.length
  | _, _, .nil => rfl
  | _, _, .cons _ t => congrArg (· + 1) (Dats.length t)
theorem Dats.get {K : KZ} {H : Hp} : ∀ {vs : List V} {ds : List D} {i : Nat} {d : D}, Dats K H vs ds → ds[i]? = some d → ∃ v, vs[i]? = some v ∧ Dat K H v d
  | _, _, _, _, .nil, e => by simp at e
  | _, _, 0, _, .cons h _, e => by simp at e; subst e; exact ⟨_, rfl, h⟩
  | _, _, i + 1, _, .cons _ t, e => by
    obtain ⟨v, h1, h2⟩ := Dats.get (i := i) t (by simpa using e)
    exact ⟨v, by simpa using h1, h2⟩
theorem Dats.append {K : KZ} {H : Hp} : ∀ {vs ws : List V} {ds es : List D}, Dats K H vs ds → Dats K H ws es → Dats K H (vs ++ ws) (ds ++ es)
  | _, _, _, _, .nil, s => s
  | _, _, _, _, .cons h t, s => .cons h (Dats.append t s)
theorem Dats.one {K : KZ} {H : Hp} {v : V} {d : D} (h : Dat K H v d) : Dats K H [v] [d] := .cons h .nil
theorem Dats.take {K : KZ} {H : Hp} : ∀ {vs : List V} {ds : List D} (n : Nat), Dats K H vs ds → Dats K H (vs.take n) (ds.take n)
  | _, _, 0, _ => .nil
  | _, _, _ + 1, .nil => .nil
  | _, _, n + 1, .cons h t => .cons h (Dats.take n t)
theorem Dats.drop {K : KZ} {H : Hp} : ∀ {vs : List V} {ds : List D} (n : Nat), Dats K H vs ds → Dats K H (vs.drop n) (ds.drop n)
  | _, _, 0, h => h
  | _, _, _ + 1, .nil => .nil
  | _, _, n + 1, .cons _ t => Dats.drop n t
theorem Dats.set {K : KZ} {H : Hp} {v : V} {d : D} (h : Dat K H v d) : ∀ {vs : List V} {ds : List D} (i : Nat), Dats K H vs ds → Dats K H (vs.set i v) (ds.set i d)
  | _, _, _, .nil => .nil
  | _, _, 0, .cons _ t => .cons h t
  | _, _, i + 1, .cons q t => .cons q (Dats.set h i t)
theorem Dats.eraseIdx {K : KZ} {H : Hp} : ∀ {vs : List V} {ds : List D} (i : Nat), Dats K H vs ds → Dats K H (vs.eraseIdx i) (ds.eraseIdx i)
  | _, _, _, .nil => .nil
  | _, _, 0, .cons _ t => t
  | _, _, i + 1, .cons q t => .cons q (Dats.eraseIdx i t)
/-! ### mutable cells -/
mutual
/-- a key of a dict, as data -/
def kD : NestedKey → D
  | .none => .non
  | .num i => .int i
  | .text x => .str x
  | .tup ks => .tup (kDs ks)
def kDs : List NestedKey → List D
  | [] => []
  | k :: ks => kD k :: kDs ks
end
/-- the object of a dict whose keys are tuples: its entries; o: it is just this one (while it is walked) -/
def DObj (w : World) (a : Addr) (lk : Option Obj) (xs : List (NestedKey × Addr × Value)) : Heap → Prop := fun h =>
  ∃ o es ep, h.get? a = some o ∧ (∀ o', lk = some o' → o = o') ∧ o.ExactDict ∧ o.data = .dict es ep ∧ es.toList = xs.map fun x => ⟨x.1.hash w, .ref x.2.1, x.2.2⟩
/-- an entry as data -/
def NEnt (K : KZ) (H : Hp) (x : NestedKey × Addr × Value) (p : NestedKey × D) : Prop := p.1 = x.1 ∧ Dat K H (.ref x.2.1) (kD x.1) ∧ x.1.depth ≤ 8 ∧ ∃ v, RelV v x.2.2 ∧ Dat K H v p.2
theorem NEnt.mono {K : KZ} {H H' : Hp} (e : Same H H') {x : NestedKey × Addr × Value} {p : NestedKey × D} (h : NEnt K H x p) : NEnt K H' x p :=
  let ⟨a, b, c, v, d, f⟩ := h; ⟨a, b.mono e, c, v, d, f.mono e⟩
inductive Cell where
  | lst (ds : List D)
  | dct (kvs : List (Key × D))
  /-- keys are tuples of numbers, texts, None -/
  | dnt (w : World) (a : Addr) (lk : Option Obj) (kvs : List (NestedKey × D))
  /-- a range object -/
  | rng (lo hi : Int)
  /-- the table of the code objects that the def x makes -/
  | ctab (x : Str)
  /-- a dict while a loop walks it: the object o, its entries -/
  | dcf (o : Obj) (kvs : List (Key × V)) (kds : List (Key × D))
  /-- an instance of the class at C, by its attributes -/
  | ins (C : Addr) (fs : List (Str × D))
  /-- an exception at a, of the class at C, by what it keeps -/
  | exc (a C : Addr) (fs : List (Str × D))
/-- what a lambda of the def x is called -/
def lamQ (x : Str) : Str := x ++ ".<locals>." ++ "<lambda>"
/-- the names that the last entry of the known part lists: the defs that make lambdas -/
def lamNames (K : PySem.W.Frag) : List Str := match K.getLast? with
  | some (_, ⟨.none, _, .fields vs, _⟩) => vs.toList.filterMap fun v => match v with | .str x _ => some x | _ => none
  | _ => []
/-- P is the table of such a def x -/
def TabOf (K : KZ) (P : Addr) (x : Str) : Prop := x ∈ lamNames K ∧ ∃ c, PySem.W.tabIn K x = some (c, P)
/-- it tells only code objects of this def's lambdas -/
def TabGood (H : Hp) (ps : Array Value) (x : Str) : Prop := TriplesOk ps.toList ∧ ∀ (po : Pos) (u : Value), codeAmong po ps.toList = some u → ∃ b, u = .ref b ∧ H b = some (LamX.CodeO b (lamQ x))
theorem TabGood.mono {H H' : Hp} {ps : Array Value} {x : Str} (e : Same H H') (h : TabGood H ps x) : TabGood H' ps x := ⟨h.1, fun po u q => let ⟨b, h1, h2⟩ := h.2 po u q; ⟨b, h1, e _ _ h2⟩⟩
abbrev Mem := Addr → Option Cell
def setM (M : Mem) (a : Addr) (c : Cell) : Mem := fun b => if b = a then some c else M b
theorem setM_same {M : Mem} {a : Addr} {c : Cell} : setM M a c a = some c := by unfold setM; rw [if_pos rfl]
theorem setM_ne {M : Mem} {a b : Addr} {c : Cell} (h : b ≠ a) : setM M a c b = M b := by unfold setM; rw [if_neg h]
theorem setM_setM {M : Mem} {a : Addr} {c c' : Cell} : setM (setM M a c) a c' = setM M a c' := by
  funext b; unfold setM; split <;> rfl
theorem neM {M : Mem} {a b : Addr} {c : Cell} (h : M a = some c) (h' : M b = none) : a ≠ b := by
  intro e; subst e; rw [h] at h'; cases h'

abbrev DKs (K : KZ) (H : Hp) : List (Key × V) → List (Key × D) → Prop := Paired fun p q => p.1 = q.1 ∧ Dat K H p.2 q.2
/-- an exception stands at a: its class, its dict -/
def ExcAt (a C : Addr) (d : Option Addr) : Heap → Prop := fun h => ∃ (o : Obj) (vs : Array Value), h.get? a = some o ∧ o.cls = .ref C ∧ o.dict = d ∧ o.data = .fields vs
/-- what an exception keeps, by its dict -/
def XFlds (K : KZ) (H : Hp) (d : Option Addr) (fds : List (Str × D)) : Prop :=
  (d = none ∧ fds = []) ∨ ∃ (dx : Addr) (fs : List (Str × V)), d = some dx ∧ H dx = some (.xd fs) ∧ Paired (fun (p : Str × V) (q : Str × D) => p.1 = q.1 ∧ Dat K H p.2 q.2) fs fds
theorem XFlds.mono {K : KZ} {H H' : Hp} (e : Same H H') {d : Option Addr} {fds : List (Str × D)} (h : XFlds K H d fds) : XFlds K H' d fds := by
  rcases h with h | ⟨dx, fs, h1, h2, h3⟩
  · exact .inl h
  · exact .inr ⟨dx, fs, h1, e _ _ h2, Paired.mapP h3 fun _ _ q => ⟨q.1, q.2.mono e⟩⟩
theorem XFlds.chg {K K' : KZ} (e : K.fr = K'.fr) {H : Hp} {d : Option Addr} {fds : List (Str × D)} (h : XFlds K H d fds) : XFlds K' H d fds := by
  rcases h with h | ⟨dx, fs, h1, h2, h3⟩
  · exact .inl h
  · exact .inr ⟨dx, fs, h1, h2, Paired.mapP h3 fun _ _ q => ⟨q.1, Dat.chg (K := K) (K' := K') e _ _ q.2⟩⟩
inductive CellOk (K : KZ) (H : Hp) : HO → Cell → Prop
  | lst {vs : List V} {ds : List D} : Dats K H vs ds → CellOk K H (.lst vs) (.lst ds)
  | dct {kvs : List (Key × V)} {kds : List (Key × D)} : DKs K H kvs kds → CellOk K H (.dK kvs) (.dct kds)
  | dnt {w : World} {a : Addr} {lk : Option Obj} {xs : List (NestedKey × Addr × Value)} {kvs : List (NestedKey × D)} : Paired (NEnt K H) xs kvs → (xs.map (·.1)).Nodup → xs.length ≤ sizeLine → (a == sysModules) = false →
      CellOk K H (.ext (DObj w a lk xs)) (.dnt w a lk kvs)
  | rng (lo hi : Int) : CellOk K H (.rng lo hi) (.rng lo hi)
  | dcf {o : Obj} {kvs : List (Key × V)} {kds : List (Key × D)} : DKs K H kvs kds → CellOk K H (.frz o (.dK kvs)) (.dcf o kvs kds)
  | tab {ps : Array Value} {x : Str} : TabGood H ps x → CellOk K H (.tbl ps) (.ctab x)
  | ins {C dx : Addr} {fs : List (Str × V)} {fds : List (Str × D)} : Paired (fun (p : Str × V) (q : Str × D) => p.1 = q.1 ∧ Dat K H p.2 q.2) fs fds → CellOk K H (.ins C dx fs) (.ins C fds)
  | exc {a C : Addr} {d : Option Addr} {fds : List (Str × D)} : XFlds K H d fds → CellOk K H (.ext (ExcAt a C d)) (.exc a C fds)
theorem CellOk.mono {K : KZ} {H H' : Hp} (e : Same H H') {o : HO} {c : Cell} (h : CellOk K H o c) : CellOk K H' o c := by
  cases h with
  | lst h => exact .lst (h.mono e)
  | dct h => exact .dct (Paired.mapP h fun _ _ q => ⟨q.1, q.2.mono e⟩)
  | dnt h h1 h2 h3 => exact .dnt (Paired.mapP h fun _ _ q => q.mono e) h1 h2 h3
  | rng lo hi => exact .rng lo hi
  | tab h => exact .tab (h.mono e)
  | ins h => exact .ins (Paired.mapP h fun _ _ q => ⟨q.1, q.2.mono e⟩)
  | dcf h => exact .dcf (Paired.mapP h fun _ _ q => ⟨q.1, q.2.mono e⟩)
  | exc h => exact .exc (h.mono e)

/-- the persistent part H0 within H, the mutable cells M beside it -/
structure Wd (K : KZ) (Fr : Hp) (H0 : Hp) (M : Mem) (H : Hp) : Prop where
  ex : Same H0 H
  mem : ∀ a c, M a = some c → H0 a = none ∧ ∃ o, H a = some o ∧ CellOk K H0 o c
  fr : ∀ a o, Fr a = some o → H0 a = none ∧ M a = none ∧ H a = some o
  tb : ∀ P x, TabOf K P x → M P = some (.ctab x)
  zz : K.z Fr H0
theorem NEnt.chg {K K' : KZ} (e : K.fr = K'.fr) {H : Hp} {p : NestedKey × Addr × Value} {q : NestedKey × D} (h : NEnt K H p q) : NEnt K' H p q := by
  obtain ⟨h1, h2, h3, v, h4, h5⟩ := h
  exact ⟨h1, Dat.chg (K' := K') e _ _ h2, h3, v, h4, Dat.chg (K' := K') e _ _ h5⟩
theorem CellOk.chg {K K' : KZ} (e : K.fr = K'.fr) {H : Hp} {o : HO} {c : Cell} (h : CellOk K H o c) : CellOk K' H o c := by
  cases h with
  | lst h => exact .lst (Dats.chg (K' := K') e _ _ h)
  | dct h => exact .dct (Paired.mapP h fun _ _ q => ⟨q.1, Dat.chg (K' := K') e _ _ q.2⟩)
  | dnt h h1 h2 h3 => exact .dnt (Paired.mapP h fun _ _ q => q.chg e) h1 h2 h3
  | rng lo hi => exact .rng lo hi
  | tab h => exact .tab h
  | ins h => exact .ins (Paired.mapP h fun _ _ q => ⟨q.1, Dat.chg (K' := K') e _ _ q.2⟩)
  | dcf h => exact .dcf (Paired.mapP h fun _ _ q => ⟨q.1, Dat.chg (K' := K') e _ _ q.2⟩)
  | exc h => exact .exc (h.chg e)
/-- the same, with other things kept in mind -/
theorem Wd.chg {K K' : KZ} (e : K.fr = K'.fr) {Fr H0 : Hp} {M : Mem} {H : Hp} (w : Wd K Fr H0 M H) (z : K'.z Fr H0) : Wd K' Fr H0 M H :=
  ⟨w.ex, fun a c q => by obtain ⟨h1, o, h2, h3⟩ := w.mem a c q; exact ⟨h1, o, h2, h3.chg e⟩, w.fr, fun P x h => w.tb P x (by unfold TabOf at *; rw [e]; exact h), z⟩
theorem Wd.top {K : KZ} {Fr H0 : Hp} {M : Mem} {H : Hp} (w : Wd K Fr H0 M H) : Wd (topK K.fr) Fr H0 M H := Wd.chg (K := K) (K' := topK K.fr) rfl w trivial
/-- any cell but a table -/
def noTab : Cell → Prop
  | .ctab _ => False
  | _ => True
theorem same_new {H : Hp} {p : Addr} {o : HO} (h : H p = none) : Same H (upd H p o) := fun a u e => by
  rw [upd_ne (ne_of_none e h)]; exact e
section
variable {K : KZ} {Fr H0 H : Hp} {M : Mem} {p a : Addr} {o : HO} {c : Cell}
theorem Wd.fresh (w : Wd K Fr H0 M H) (h : H p = none) : H0 p = none := w.ex.free h
theorem Wd.freshM (w : Wd K Fr H0 M H) (h : H p = none) : M p = none := by
  cases q : M p with
  | none => rfl
  | some c => obtain ⟨_, o, e, _⟩ := w.mem p c q; rw [h] at e; cases e
theorem Wd.freshF (w : Wd K Fr H0 M H) (h : H p = none) : Fr p = none := by
  cases q : Fr p with
  | none => rfl
  | some c => have e := (w.fr p c q).2.2; rw [h] at e; cases e
theorem neF {Fr : Hp} {a b : Addr} {u : HO} (h : Fr a = some u) (h' : Fr b = none) : a ≠ b := by
  intro e; subst e; rw [h] at h'; cases h'
/-- such an object becomes persistent -/
theorem Wd.adopt (w : Wd K Fr H0 M H) (h0 : H0 p = none) (hM : M p = none) (hF : Fr p = none) (h : H p = some o) : Wd K Fr (upd H0 p o) M H :=
  ⟨fun b u e => by
    by_cases hb : b = p
    · subst hb; rw [upd_same] at e; rw [h]; exact e
    · rw [upd_ne hb] at e; exact w.ex b u e, fun b c e => by
    obtain ⟨h1, o', h2, h3⟩ := w.mem b c e
    exact ⟨by rw [upd_ne (neM e hM)]; exact h1, o', h2, h3.mono (same_new h0)⟩, fun b u e => by
    obtain ⟨h1, h2, h3⟩ := w.fr b u e
    exact ⟨by rw [upd_ne (neF e hF)]; exact h1, h2, h3⟩, w.tb, K.zm (fun _ _ e => e) (same_new h0) w.zz⟩
/-- an object that nobody tells of is changed, or is new -/
theorem Wd.tmpSet (w : Wd K Fr H0 M H) (h0 : H0 p = none) (hM : M p = none) (hF : Fr p = none) : Wd K Fr H0 M (upd H p o) :=
  ⟨fun b u e => by rw [upd_ne (ne_of_none e h0)]; exact w.ex b u e, fun b c e => by
    obtain ⟨h1, o', h2, h3⟩ := w.mem b c e
    exact ⟨h1, o', by rw [upd_ne (neM e hM)]; exact h2, h3⟩, fun b u e => by
    obtain ⟨h1, h2, h3⟩ := w.fr b u e
    exact ⟨h1, h2, by rw [upd_ne (neF e hF)]; exact h3⟩, w.tb, w.zz⟩
theorem Wd.tmp (w : Wd K Fr H0 M H) (h : H p = none) : Wd K Fr H0 M (upd H p o) := w.tmpSet (w.fresh h) (w.freshM h) (w.freshF h)
/-- a new persistent object -/
theorem Wd.new (w : Wd K Fr H0 M H) (h : H p = none) : Wd K Fr (upd H0 p o) M (upd H p o) := (w.tmp h).adopt (w.fresh h) (w.freshM h) (w.freshF h) upd_same
/-- such an object becomes a cell -/
theorem Wd.adoptM (w : Wd K Fr H0 M H) (h0 : H0 p = none) (hF : Fr p = none) (h : H p = some o) (k : CellOk K H0 o c) (hc : noTab c := by trivial) : Wd K Fr H0 (setM M p c) H :=
  ⟨w.ex, fun b c' e => by
    by_cases hb : b = p
    · subst hb; rw [setM_same] at e; cases e; exact ⟨h0, o, h, k⟩
    · rw [setM_ne hb] at e; exact w.mem b c' e, fun b u e => by
    obtain ⟨h1, h2, h3⟩ := w.fr b u e
    exact ⟨h1, by rw [setM_ne (neF e hF)]; exact h2, h3⟩, fun P x e => by
    by_cases hb : P = p
    · subst hb
      obtain ⟨_, o', h2, h3⟩ := w.mem P _ (w.tb P x e)
      rw [h] at h2
      cases h2
      cases h3
      cases k
      exact hc.elim
    · rw [setM_ne hb]; exact w.tb P x e, w.zz⟩
/-- a new cell -/
theorem Wd.newM (w : Wd K Fr H0 M H) (h : H p = none) (k : CellOk K H0 o c) (hc : noTab c := by trivial) : Wd K Fr H0 (setM M p c) (upd H p o) :=
  (w.tmp h).adoptM (w.fresh h) (w.freshF h) upd_same k hc
/-- a cell is changed -/
theorem Wd.set {c' : Cell} (w : Wd K Fr H0 M H) (h : M a = some c') (k : CellOk K H0 o c) (hc : noTab c' := by trivial) : Wd K Fr H0 (setM M a c) (upd H a o) := by
  refine ⟨fun b u e => ?_, fun b c2 e => ?_, fun b u e => ?_, fun P x e => ?_, w.zz⟩
  · rw [upd_ne (ne_of_none e (w.mem a c' h).1)]; exact w.ex b u e
  · by_cases hb : b = a
    · subst hb; rw [setM_same] at e; cases e; exact ⟨(w.mem b c' h).1, o, upd_same, k⟩
    · rw [setM_ne hb] at e
      obtain ⟨h1, o', h2, h3⟩ := w.mem b c2 e
      exact ⟨h1, o', by rw [upd_ne hb]; exact h2, h3⟩
  · obtain ⟨h1, h2, h3⟩ := w.fr b u e
    have hb : b ≠ a := fun z => by rw [z, h] at h2; cases h2
    exact ⟨h1, by rw [setM_ne hb]; exact h2, by rw [upd_ne hb]; exact h3⟩
  · have hb : P ≠ a := fun z => by
      rw [← z, w.tb P x e] at h
      cases h
      exact hc
    rw [setM_ne hb]; exact w.tb P x e
/-- what is told of no more goes into the frame: it comes back as it is -/
theorem Wd.frame (w : Wd K Fr H0 M H) (h0 : H0 p = none) (hM : M p = none) (h : H p = some o) : Wd K (upd Fr p o) H0 M H :=
  ⟨w.ex, w.mem, fun b u e => by
    by_cases hb : b = p
    · subst hb; rw [upd_same] at e; cases e; exact ⟨h0, hM, h⟩
    · rw [upd_ne hb] at e; exact w.fr b u e, w.tb, K.zm (fun a u e => by
    by_cases hb : a = p
    · subst hb; rw [upd_same]; rw [← h, (w.fr a u e).2.2]
    · rw [upd_ne hb]; exact e) (Same.refl _) w.zz⟩
theorem Wd.unframe (w : Wd K (upd Fr p o) H0 M H) (hF : Fr p = none) (hz : K.z Fr H0) : Wd K Fr H0 M H ∧ H0 p = none ∧ M p = none ∧ H p = some o :=
  ⟨⟨w.ex, w.mem, fun b u e => w.fr b u (by rw [upd_ne (neF e hF)]; exact e), w.tb, hz⟩, w.fr p o upd_same⟩
end

/-! ### slots -/
abbrev Env := List (Option D)
structure Slots (K : KZ) (H : Hp) (σ : St) (Γ : Env) : Prop where
  len : σ.length = Γ.length
  get : ∀ (i : Nat) (d : D), Γ[i]? = some (some d) → ∃ v, σ[i]? = some (some v) ∧ Dat K H v d
theorem Slots.mono {K : KZ} {H H' : Hp} {σ : St} {Γ : Env} (e : Same H H') (h : Slots K H σ Γ) : Slots K H' σ Γ :=
  ⟨h.len, fun i d q => let ⟨v, h1, h2⟩ := h.get i d q; ⟨v, h1, h2.mono e⟩⟩
theorem Slots.set {K : KZ} {H : Hp} {σ : St} {Γ : Env} (h : Slots K H σ Γ) (i : Nat) {v : V} {d : D} (r : Dat K H v d) : Slots K H (σ.set i (some v)) (Γ.set i (some d)) := by
  refine ⟨by simp [h.len], fun j e q => ?_⟩
  by_cases hj : i = j
  · subst hj
    by_cases hl : i < Γ.length
    · rw [List.getElem?_set_self hl] at q; cases q
      exact ⟨v, List.getElem?_set_self (by rw [h.len]; exact hl), r⟩
    · rw [List.getElem?_eq_none (by simpa using hl)] at q; cases q
  · rw [List.getElem?_set_ne hj] at q ⊢; exact h.get j e q
def wipeD (Γ : Env) : List Nat → Env
  | [] => Γ
  | v :: vs => (wipeD Γ vs).set v none
theorem Slots.none {K : KZ} {H : Hp} {σ : St} {Γ : Env} (h : Slots K H σ Γ) (i : Nat) : Slots K H (σ.set i none) (Γ.set i none) := by
  refine ⟨by simp [h.len], fun j e q => ?_⟩
  by_cases hj : i = j
  · subst hj
    by_cases hl : i < Γ.length
    · rw [List.getElem?_set_self hl] at q; cases q
    · rw [List.getElem?_eq_none (by simpa using hl)] at q; cases q
  · rw [List.getElem?_set_ne hj] at q ⊢; exact h.get j e q
theorem Slots.wipe {K : KZ} {H : Hp} {σ : St} {Γ : Env} (h : Slots K H σ Γ) : ∀ vs : List Nat, Slots K H (wipe σ vs) (wipeD Γ vs)
  | [] => h
  | v :: vs => (Slots.wipe h vs).none v
theorem wipe_get (σ : St) : ∀ (vs : List Nat) (i : Nat), (wipe σ vs)[i]? = if i ∈ vs then (σ[i]?).map (fun _ => none) else σ[i]?
  | [], i => by simp [wipe]
  | v :: vs, i => by
    unfold wipe
    by_cases hi : v = i
    · subst hi
      by_cases hl : v < σ.length
      · rw [List.getElem?_set_self (by rw [wipe_length]; exact hl)]; simp [hl]
      · rw [List.getElem?_eq_none (by rw [List.length_set, wipe_length]; omega)]; simp [hl]
    · rw [List.getElem?_set_ne hi, wipe_get σ vs i]
      have : (i ∈ v :: vs) ↔ i ∈ vs := by simp [Ne.symm hi]
      by_cases h2 : i ∈ vs <;> simp [h2, Ne.symm hi]
theorem wipe_eq {σ σ' : St} {vs : List Nat} (hl : σ'.length = σ.length) (h : ∀ i, i ∉ vs → σ'[i]? = σ[i]?) : wipe σ' vs = wipe σ vs := by
  refine List.ext_getElem? fun i => ?_
  rw [wipe_get, wipe_get]
  by_cases hi : i ∈ vs
  · simp only [hi, if_true]
    by_cases hlt : i < σ.length
    · rw [List.getElem?_eq_getElem hlt, List.getElem?_eq_getElem (by omega : i < σ'.length)]; rfl
    · rw [List.getElem?_eq_none (by omega : σ.length ≤ i), List.getElem?_eq_none (by omega : σ'.length ≤ i)]
  · simp only [hi, if_false]; exact h i hi
theorem wipe_wipe (σ : St) (vs : List Nat) : wipe (wipe σ vs) vs = wipe σ vs :=
  wipe_eq (wipe_length σ vs) fun i hi => by rw [wipe_get]; simp [hi]

/-! ### the judgements -/
abbrev KD := D → Mem → Prop
abbrev WE := Env → Mem → KD → Prop
abbrev WT := Env → Mem → (Bool → Mem → Prop) → Prop
abbrev WA := Env → Mem → (List D → Mem → Prop) → Prop
structure KS where
  nx : Env → Mem → Prop
  rt : KD
  bk : Env → Mem → Prop
  ct : Env → Mem → Prop
abbrev WS := KS → Env → Mem → Prop

def Cont (K : KZ) (Fr H0 : Hp) (k : KD) (Q : VK) : Prop := ∀ v H0' H' d M', Same H0 H0' → Wd K Fr H0' M' H' → Dat K H0' v d → k d M' → Q v H'
def ContT (K : KZ) (Fr H0 : Hp) (k : Bool → Mem → Prop) (Q : Bool → Hp → Prop) : Prop := ∀ b H0' H' M', Same H0 H0' → Wd K Fr H0' M' H' → k b M' → Q b H'
def ContA (K : KZ) (Fr H0 : Hp) (k : List D → Mem → Prop) (Q : List V → Hp → Prop) : Prop := ∀ vs H0' H' ds M', Same H0 H0' → Wd K Fr H0' M' H' → Dats K H0' vs ds → k ds M' → Q vs H'
def ContS (K : KZ) (Fr H0 : Hp) (k : Env → Mem → Prop) (Q : St → Hp → Prop) : Prop := ∀ σ' H0' H' Γ' M', Same H0 H0' → Slots K H0' σ' Γ' → Wd K Fr H0' M' H' → k Γ' M' → Q σ' H'
structure Emb (K : KZ) (Fr H0 : Hp) (k : KS) (D : Ends) : Prop where
  nx : ContS K Fr H0 k.nx D.nx
  rt : Cont K Fr H0 k.rt D.rt
  bk : ContS K Fr H0 k.bk D.bk
  ct : ContS K Fr H0 k.ct D.ct
section
variable {K : KZ} {Fr H0 H1 : Hp}
theorem Cont.mono {k : KD} {Q : VK} (e : Same H0 H1) (c : Cont K Fr H0 k Q) : Cont K Fr H1 k Q := fun v H0' H' d M' s => c v H0' H' d M' (e.trans s)
theorem ContT.mono {k : Bool → Mem → Prop} {Q : Bool → Hp → Prop} (e : Same H0 H1) (c : ContT K Fr H0 k Q) : ContT K Fr H1 k Q := fun v H0' H' M' s => c v H0' H' M' (e.trans s)
theorem ContA.mono {k : List D → Mem → Prop} {Q : List V → Hp → Prop} (e : Same H0 H1) (c : ContA K Fr H0 k Q) : ContA K Fr H1 k Q := fun v H0' H' d M' s => c v H0' H' d M' (e.trans s)
theorem ContS.mono {k : Env → Mem → Prop} {Q : St → Hp → Prop} (e : Same H0 H1) (c : ContS K Fr H0 k Q) : ContS K Fr H1 k Q := fun v H0' H' d M' s => c v H0' H' d M' (e.trans s)
theorem Emb.mono {k : KS} {D : Ends} (e : Same H0 H1) (c : Emb K Fr H0 k D) : Emb K Fr H1 k D := ⟨c.nx.mono e, c.rt.mono e, c.bk.mono e, c.ct.mono e⟩
end
def liftE (K : KZ) (w : WE) : TE := fun σ H Q => ∃ Γ Fr H0 M k, Slots K H0 σ Γ ∧ Wd K Fr H0 M H ∧ w Γ M k ∧ Cont K Fr H0 k Q
def liftT (K : KZ) (w : WT) : TT := fun σ H Q => ∃ Γ Fr H0 M k, Slots K H0 σ Γ ∧ Wd K Fr H0 M H ∧ w Γ M k ∧ ContT K Fr H0 k Q
def liftA (K : KZ) (w : WA) : TA := fun σ H Q => ∃ Γ Fr H0 M k, Slots K H0 σ Γ ∧ Wd K Fr H0 M H ∧ w Γ M k ∧ ContA K Fr H0 k Q
def liftS (K : KZ) (w : WS) : TS := fun D σ H => ∃ Γ Fr H0 M k, Slots K H0 σ Γ ∧ Wd K Fr H0 M H ∧ w k Γ M ∧ Emb K Fr H0 k D
structure DE (X : CxZ) (e : Expr) (w : WE) : Prop where
  run : PE X e (liftE X.K w)
structure DT (X : CxZ) (e : Expr) (w : WT) : Prop where
  run : PT X e (liftT X.K w)
structure DW (X : CxZ) (e : Expr) (w : WT) : Prop where
  run : PW X e (liftT X.K w)
structure DA (X : CxZ) (es : List Expr) (w : WA) : Prop where
  run : PA X es (liftA X.K w)
structure DS (X : CxZ) (st : Stmt) (w : WS) : Prop where
  run : PS X st (liftS X.K w)
structure DSs (X : CxZ) (st : List Stmt) (w : WS) : Prop where
  run : PSs X st (liftS X.K w)
section
variable {X : CxZ} {e a b : Expr} {es : List Expr} {st : Stmt} {sts : List Stmt}
theorem de_of {t : TE} {w : WE} (h : PE X e t) (q : ∀ σ H Q Γ Fr H0 M k, Slots X.K H0 σ Γ → Wd X.K Fr H0 M H → w Γ M k → Cont X.K Fr H0 k Q → t σ H Q) : DE X e w :=
  ⟨⟨fun pins s σ H Q I ⟨Γ, Fr, H0, M, k, h1, h2, h3, h4⟩ => h.run pins s σ H Q I (q σ H Q Γ Fr H0 M k h1 h2 h3 h4)⟩⟩
theorem dt_of {t : TT} {w : WT} (h : PT X e t) (q : ∀ σ H Q Γ Fr H0 M k, Slots X.K H0 σ Γ → Wd X.K Fr H0 M H → w Γ M k → ContT X.K Fr H0 k Q → t σ H Q) : DT X e w :=
  ⟨⟨fun pins s σ H Q I ⟨Γ, Fr, H0, M, k, h1, h2, h3, h4⟩ => h.run pins s σ H Q I (q σ H Q Γ Fr H0 M k h1 h2 h3 h4)⟩⟩
theorem dw_of {t : TT} {w : WT} (h : PW X e t) (q : ∀ σ H Q Γ Fr H0 M k, Slots X.K H0 σ Γ → Wd X.K Fr H0 M H → w Γ M k → ContT X.K Fr H0 k Q → t σ H Q) : DW X e w :=
  ⟨⟨fun wh pins s σ H Q I ⟨Γ, Fr, H0, M, k, h1, h2, h3, h4⟩ => h.run wh pins s σ H Q I (q σ H Q Γ Fr H0 M k h1 h2 h3 h4)⟩⟩
theorem da_of {t : TA} {w : WA} (h : PA X es t) (q : ∀ σ H Q Γ Fr H0 M k, Slots X.K H0 σ Γ → Wd X.K Fr H0 M H → w Γ M k → ContA X.K Fr H0 k Q → t σ H Q) : DA X es w :=
  ⟨⟨fun po pins s σ H Q I ⟨Γ, Fr, H0, M, k, h1, h2, h3, h4⟩ => h.run po pins s σ H Q I (q σ H Q Γ Fr H0 M k h1 h2 h3 h4)⟩⟩
theorem ds_of {t : TS} {w : WS} (h : PS X st t) (q : ∀ D σ H Γ Fr H0 M k, Slots X.K H0 σ Γ → Wd X.K Fr H0 M H → w k Γ M → Emb X.K Fr H0 k D → t D σ H) : DS X st w :=
  ⟨⟨fun pins s σ H D I ⟨Γ, Fr, H0, M, k, h1, h2, h3, h4⟩ => h.run pins s σ H D I (q D σ H Γ Fr H0 M k h1 h2 h3 h4)⟩⟩
theorem dss_of {t : TS} {w : WS} (h : PSs X sts t) (q : ∀ D σ H Γ Fr H0 M k, Slots X.K H0 σ Γ → Wd X.K Fr H0 M H → w k Γ M → Emb X.K Fr H0 k D → t D σ H) : DSs X sts w :=
  ⟨⟨fun pins s σ H D I ⟨Γ, Fr, H0, M, k, h1, h2, h3, h4⟩ => h.run pins s σ H D I (q D σ H Γ Fr H0 M k h1 h2 h3 h4)⟩⟩

/-! ### names, constants -/
def wVar (i : Nat) : WE := fun Γ M k => match Γ[i]? with | some (some d) => k d M | _ => False
def wC (d : D) : WE := fun _ M k => k d M
theorem dv (i : Nat) {x : Str} {pos : Pos} (hN : X.N[i]? = some x := by rfl) (hv : Vis X.env.scope x := by first | exact Or.inl rfl | exact Or.inr (Or.inl rfl) | exact Or.inr (Or.inr rfl)) (hd : (x == ("__debug__" : Str)) = false := by decide)
    (hcd : (x == ("__classdict__" : Str)) = false := by decide) : DE X (.Name x pos) (wVar i) := by
  refine de_of (pe_var hN hv hd hcd) fun σ H Q Γ Fr H0 M k h1 h2 h3 h4 => ?_
  unfold wVar at h3
  split at h3
  · rename_i d e
    obtain ⟨v, e1, r⟩ := h1.get i d e
    exact ⟨v, e1, h4 v H0 H d M (Same.refl _) h2 r h3⟩
  · exact h3.elim
theorem de_c {v : V} {d : D} (h : PE X e (tC v)) (r : ∀ H, Dat X.K H v d) : DE X e (wC d) :=
  de_of h fun _ H Q Γ Fr H0 M k _ h2 h3 h4 => h4 v H0 H d M (Same.refl _) h2 (r H0) h3
theorem de_int {i j pos} : DE X (.Constant (.int i) j pos) (wC (.int i)) := de_c pe_int fun _ => .int i
theorem de_bl {b j pos} : DE X (.Constant (.bool b) j pos) (wC (.bl b)) := de_c pe_bl fun _ => .bl b
theorem de_non {j pos} : DE X (.Constant .none j pos) (wC .non) := de_c pe_non fun _ => .non
theorem de_str {x j pos} : DE X (.Constant (.str x) j pos) (wC (.str x)) := de_c pe_str fun _ => .str x
/-- a module's int -/
theorem de_gint {x : Str} {i : Int} {t : Tok} {pos : Pos} (hm : X.mg x = some (.int i t)) (hg : Gl X x := by rfl) (hd : (x == ("__debug__" : Str)) = false := by decide) : DE X (.Name x pos) (wC (.int i)) :=
  de_c (v := .int i) (pe_glob hg hm ⟨t, rfl⟩ hd) fun _ => .int i
theorem de_ty {x : Str} {n : String} {pos : Pos} (hm : X.mg x = none) (hv : bootBuiltins x = some (.type n)) (hg : Gl X x := by rfl) (hn : x ≠ "__name__" := by decide) (hd : (x == ("__debug__" : Str)) = false := by decide) : DE X (.Name x pos) (wC (.ty n)) :=
  de_c (v := .ty n) (pe_bltn hg hm hv rfl hn hd) fun _ => .ty n

/-! ### two operands -/
def OpD (K : KZ) (r : R2) (rd : D → D → Mem → KD → Prop) : Prop :=
  ∀ Fr H0 M H x y vx vy k Q, Wd K Fr H0 M H → Dat K H0 vx x → Dat K H0 vy y → rd x y M k → Cont K Fr H0 k Q → r vx vy H Q
def wOp (rd : D → D → Mem → KD → Prop) (wa wb : WE) : WE := fun Γ M k => wa Γ M fun x M1 => wb Γ M1 fun y M2 => rd x y M2 k
theorem lift_op {K : KZ} {r : R2} {rd : D → D → Mem → KD → Prop} {wa wb : WE} (h : OpD K r rd) {σ H Q Γ Fr H0 M k} (h1 : Slots K H0 σ Γ) (h2 : Wd K Fr H0 M H) (h3 : wOp rd wa wb Γ M k) (h4 : Cont K Fr H0 k Q) :
    tOp r (liftE K wa) (liftE K wb) σ H Q := by
  refine ⟨Γ, Fr, H0, M, _, h1, h2, h3, fun v H1 H' d M' e1 w1 r1 q1 => ?_⟩
  refine ⟨Γ, Fr, H1, M', _, h1.mono e1, w1, q1, fun u H2 H'' d' M'' e2 w2 r2 q2 => ?_⟩
  exact h Fr H2 M'' H'' d d' v u k Q w2 (r1.mono e2) r2 q2 (h4.mono (e1.trans e2))
theorem de_op {op : Operator} {r : R2} {rd : D → D → Mem → KD → Prop} {wa wb : WE} {pos : Pos} (ho : OpR X (binaryOp op) r) (hd : OpD X.K r rd) (ha : DE X a wa) (hb : DE X b wb) : DE X (.BinOp a op b pos) (wOp rd wa wb) :=
  de_of (pe_op ho ha.run hb.run) fun _ _ _ _ _ _ _ _ h1 h2 h3 h4 => lift_op hd h1 h2 h3 h4
theorem de_cmp {op : CmpOp} {r : R2} {rd : D → D → Mem → KD → Prop} {wa wb : WE} {pos : Pos} (ho : OpR X (compareOp op) r) (hd : OpD X.K r rd) (ha : DE X a wa) (hb : DE X b wb) (hm : behindInMarks op b = false) : DE X (.Compare a [op] [b] pos) (wOp rd wa wb) :=
  de_of (pe_cmpR ho ha.run hb.run hm) fun _ _ _ _ _ _ _ _ h1 h2 h3 h4 => lift_op hd h1 h2 h3 h4
/-- a value as a test: it is a truth -/
def wTst (w : WE) : WT := fun Γ M k => w Γ M fun d M1 => match d with | .bl b => k b M1 | _ => False
theorem contTst {K : KZ} {Fr H0 : Hp} {k : Bool → Mem → Prop} {Q : Bool → Hp → Prop} (h4 : ContT K Fr H0 k Q) : Cont K Fr H0 (fun d M1 => match d with | .bl b => k b M1 | _ => False) (fun x H' => ∃ b, x = .bl b ∧ Q b H') := by
  intro v H0' H' d M' e w r q
  cases d with
  | bl b => cases r; exact ⟨b, rfl, h4 b H0' H' M' e w q⟩
  | _ => exact q.elim
theorem dt_val {w : WE} (h : DE X e w) (he : ∀ whole, isTrue e X.env whole = (do let v ← whole; standAt e.pos; holding [v] (truthy v)) := by intro _; rfl) : DT X e (wTst w) :=
  dt_of (pt_val h.run he) fun σ H Q Γ Fr H0 M k h1 h2 h3 h4 => ⟨Γ, Fr, H0, M, _, h1, h2, h3, contTst h4⟩
theorem dt_cmp {op : CmpOp} {r : R2} {rd : D → D → Mem → KD → Prop} {wa wb : WE} {pos : Pos} (ho : OpR X (compareOp op) r) (hd : OpD X.K r rd) (ha : DE X a wa) (hb : DE X b wb) (hm : behindInMarks op b = false) : DT X (.Compare a [op] [b] pos) (wTst (wOp rd wa wb)) :=
  dt_of (pt_cmpR ho ha.run hb.run hm) fun _ _ _ _ _ _ _ _ h1 h2 h3 h4 => lift_op hd h1 h2 h3 (contTst h4)
def wChain (rd rd' : D → D → Mem → KD → Prop) (wa wb wc : WE) : WE := fun Γ M k => wa Γ M fun x M1 => wb Γ M1 fun y M2 => rd x y M2 fun z M3 => match z with
  | .bl true => wc Γ M3 fun w M4 => rd' y w M4 k
  | .bl false => k (.bl false) M3
  | _ => False
theorem lift_chain {K : KZ} {r r' : R2} {rd rd' : D → D → Mem → KD → Prop} {wa wb wc : WE} (h : OpD K r rd) (h' : OpD K r' rd') {σ H Q Γ Fr H0 M k} (h1 : Slots K H0 σ Γ) (h2 : Wd K Fr H0 M H) (h3 : wChain rd rd' wa wb wc Γ M k) (h4 : Cont K Fr H0 k Q) :
    tChain r r' (liftE K wa) (liftE K wb) (liftE K wc) σ H Q := by
  refine ⟨Γ, Fr, H0, M, _, h1, h2, h3, fun v H1 H' d M' e1 w1 r1 q1 => ?_⟩
  refine ⟨Γ, Fr, H1, M', _, h1.mono e1, w1, q1, fun u H2 H'' d' M'' e2 w2 r2 q2 => ?_⟩
  refine h Fr H2 M'' H'' d d' v u _ _ w2 (r1.mono e2) r2 q2 fun z H3 H3' dz M3 e3 w3 rz qz => ?_
  cases dz with
  | bl b =>
    cases rz
    refine ⟨b, rfl, ?_⟩
    cases b with
    | true =>
      rw [if_pos rfl]
      refine ⟨Γ, Fr, H3, M3, _, h1.mono ((e1.trans e2).trans e3), w3, qz, fun x H4 H4' dx M4 e4 w4 rx qx => ?_⟩
      exact h' Fr H4 M4 H4' d' dx u x k Q w4 (r2.mono (e3.trans e4)) rx qx (h4.mono (((e1.trans e2).trans e3).trans e4))
    | false =>
      rw [if_neg Bool.false_ne_true]
      exact h4 _ H3 H3' _ M3 ((e1.trans e2).trans e3) w3 (.bl false) qz
  | _ => exact qz.elim
theorem dt_chain {c : Expr} {op op' : CmpOp} {r r' : R2} {rd rd' : D → D → Mem → KD → Prop} {wa wb wc : WE} {pos : Pos} (ho : OpR X (compareOp op) r) (hd : OpD X.K r rd) (ho' : OpR X (compareOp op') r') (hd' : OpD X.K r' rd') (ha : DE X a wa) (hb : DE X b wb) (hc : DE X c wc)
    (hm : lastMarks [op, op'] [b, c] = false := by with_unfolding_all rfl) : DT X (.Compare a [op, op'] [b, c] pos) (wTst (wChain rd rd' wa wb wc)) :=
  dt_of (pt_chain ho ho' ha.run hb.run hc.run hm) fun _ _ _ _ _ _ _ _ h1 h2 h3 h4 => lift_chain hd hd' h1 h2 h3 (contTst h4)
def wNotT (w : WT) : WT := fun Γ M k => w Γ M fun b M1 => k (!b) M1
def wAndT (wa wb : WT) : WT := fun Γ M k => wa Γ M fun b M1 => if b = true then wb Γ M1 k else k false M1
def wOrT (wa wb : WT) : WT := fun Γ M k => wa Γ M fun b M1 => if b = true then k true M1 else wb Γ M1 k
theorem dt_not {w : WT} {pos : Pos} (h : DT X a w) : DT X (.UnaryOp .Not a pos) (wNotT w) :=
  dt_of (pt_not h.run) fun σ H Q Γ Fr H0 M k h1 h2 h3 h4 => ⟨Γ, Fr, H0, M, _, h1, h2, h3, fun b H0' H' M' e w q => h4 _ H0' H' M' e w q⟩
theorem dw_pt {w : WT} (h : DW X e w) : DT X e w := ⟨h.run.pt⟩
theorem dw_and1 {w : WT} {pos : Pos} (h : DT X a w) : DW X (.BoolOp .And [a] pos) w := ⟨pw_and1 h.run⟩
theorem dw_or1 {w : WT} {pos : Pos} (h : DT X a w) : DW X (.BoolOp .Or [a] pos) w := ⟨pw_or1 h.run⟩
theorem dw_and {wa wb : WT} {rest : List Expr} {pos : Pos} (ha : DT X a wa) (hb : DW X (.BoolOp .And (b :: rest) pos) wb) : DW X (.BoolOp .And (a :: b :: rest) pos) (wAndT wa wb) :=
  dw_of (pw_and ha.run hb.run) fun σ H Q Γ Fr H0 M k h1 h2 h3 h4 => ⟨Γ, Fr, H0, M, _, h1, h2, h3, fun c H0' H' M' e w q => by
    cases c with
    | true => rw [if_pos rfl] at q ⊢; exact ⟨Γ, Fr, H0', M', k, h1.mono e, w, q, h4.mono e⟩
    | false => rw [if_neg Bool.false_ne_true] at q ⊢; exact h4 _ H0' H' M' e w q⟩
theorem dw_or {wa wb : WT} {rest : List Expr} {pos : Pos} (ha : DT X a wa) (hb : DW X (.BoolOp .Or (b :: rest) pos) wb) : DW X (.BoolOp .Or (a :: b :: rest) pos) (wOrT wa wb) :=
  dw_of (pw_or ha.run hb.run) fun σ H Q Γ Fr H0 M k h1 h2 h3 h4 => ⟨Γ, Fr, H0, M, _, h1, h2, h3, fun c H0' H' M' e w q => by
    cases c with
    | true => rw [if_pos rfl] at q ⊢; exact h4 _ H0' H' M' e w q
    | false => rw [if_neg Bool.false_ne_true] at q ⊢; exact ⟨Γ, Fr, H0', M', k, h1.mono e, w, q, h4.mono e⟩⟩
/-- and, or, not of truths as values -/
def wAndV (wa wb : WE) : WE := fun Γ M k => wa Γ M fun x M1 => match x with | .bl true => wb Γ M1 k | .bl false => k (.bl false) M1 | _ => False
def wOrV (wa wb : WE) : WE := fun Γ M k => wa Γ M fun x M1 => match x with | .bl true => k (.bl true) M1 | .bl false => wb Γ M1 k | _ => False
def wNotV (wa : WE) : WE := fun Γ M k => wa Γ M fun x M1 => match x with | .bl b => k (.bl (!b)) M1 | _ => False
theorem de_one {op} {w : WE} {pos : Pos} (h : DE X a w) : DE X (.BoolOp op [a] pos) w := ⟨pe_one h.run⟩
theorem de_or {wa wb : WE} {rest : List Expr} {pos : Pos} (ha : DE X a wa) (hb : DE X (.BoolOp .Or (b :: rest) pos) wb) : DE X (.BoolOp .Or (a :: b :: rest) pos) (wOrV wa wb) :=
  de_of (pe_or ha.run hb.run) fun σ H Q Γ Fr H0 M k h1 h2 h3 h4 => ⟨Γ, Fr, H0, M, _, h1, h2, h3, fun v H0' H' d M' e w r q => by
    cases d with
    | bl c =>
      cases r
      refine ⟨c, rfl, ?_⟩
      cases c with
      | true => rw [if_pos rfl]; exact h4 _ H0' H' _ M' e w (.bl true) q
      | false => rw [if_neg Bool.false_ne_true]; exact ⟨Γ, Fr, H0', M', k, h1.mono e, w, q, h4.mono e⟩
    | _ => exact q.elim⟩
theorem de_not {w : WE} {pos : Pos} (h : DE X a w) : DE X (.UnaryOp .Not a pos) (wNotV w) :=
  de_of (pe_not h.run) fun σ H Q Γ Fr H0 M k h1 h2 h3 h4 => ⟨Γ, Fr, H0, M, _, h1, h2, h3, fun v H0' H' d M' e w r q => by
    cases d with
    | bl c => cases r; exact ⟨c, rfl, h4 _ H0' H' _ M' e w (.bl _) q⟩
    | _ => exact q.elim⟩
def wIf (wc : WT) (wa wb : WE) : WE := fun Γ M k => wc Γ M fun c M1 => if c = true then wa Γ M1 k else wb Γ M1 k
theorem de_if {c : Expr} {wc : WT} {wa wb : WE} {pos : Pos} (hc : DT X c wc) (ha : DE X a wa) (hb : DE X b wb) : DE X (.IfExp c a b pos) (wIf wc wa wb) :=
  de_of (pe_ifExp hc.run ha.run hb.run) fun σ H Q Γ Fr H0 M k h1 h2 h3 h4 => ⟨Γ, Fr, H0, M, _, h1, h2, h3, fun c H0' H' M' e w q => by
    cases c with
    | true => rw [if_pos rfl] at q ⊢; exact ⟨Γ, Fr, H0', M', k, h1.mono e, w, q, h4.mono e⟩
    | false => rw [if_neg Bool.false_ne_true] at q ⊢; exact ⟨Γ, Fr, H0', M', k, h1.mono e, w, q, h4.mono e⟩⟩

/-! ### arguments, displays, calls -/
def wNil : WA := fun _ M k => k [] M
def wCons (we : WE) (wr : WA) : WA := fun Γ M k => we Γ M fun d M1 => wr Γ M1 fun ds M2 => k (d :: ds) M2
theorem da_nil : DA X [] wNil := da_of pa_nil fun _ H Q Γ Fr H0 M k h1 h2 h3 h4 => h4 [] H0 H [] M (Same.refl _) h2 .nil h3
theorem da_cons {we : WE} {wr : WA} (he : DE X e we) (hr : DA X es wr) (hs : starEach (e :: es) X.env = (false, eval e X.env) :: starEach es X.env := by rfl) : DA X (e :: es) (wCons we wr) :=
  da_of (pa_cons he.run hr.run hs) fun σ H Q Γ Fr H0 M k h1 h2 h3 h4 => ⟨Γ, Fr, H0, M, _, h1, h2, h3, fun v H1 H' d M' e1 w1 r1 q1 =>
    ⟨Γ, Fr, H1, M', _, h1.mono e1, w1, q1, fun vs H2 H'' ds M'' e2 w2 r2 q2 => h4 _ H2 H'' _ M'' (e1.trans e2) w2 (.cons (r1.mono e2) r2) q2⟩⟩
def wTup (wa : WA) : WE := fun Γ M k => wa Γ M fun ds M1 => ds.length ≤ sizeLine ∧ k (.tup ds) M1
theorem de_tup {wa : WA} {x1} {pos : Pos} (h : DA X es wa) : DE X (.Tuple es x1 pos) (wTup wa) :=
  de_of (pe_tup h.run) fun σ H Q Γ Fr H0 M k h1 h2 h3 h4 => ⟨Γ, Fr, H0, M, _, h1, h2, h3, fun vs H1 H' ds M' e1 w1 r1 q1 =>
    ⟨by rw [r1.length]; exact q1.1, fun p hp => h4 _ _ _ _ M' (e1.trans (same_new (w1.fresh hp))) (w1.new hp) (.tup (.of upd_same) (r1.mono (same_new (w1.fresh hp)))) q1.2⟩⟩
/-- a list: persistent -/
def wLst (wa : WA) : WE := fun Γ M k => wa Γ M fun ds M1 => ds.length ≤ sizeLine ∧ k (.lst ds) M1
theorem de_lst {wa : WA} {pos : Pos} (h : DA X es wa) : DE X (.List es pos) (wLst wa) :=
  de_of (pe_lst h.run) fun σ H Q Γ Fr H0 M k h1 h2 h3 h4 => ⟨Γ, Fr, H0, M, _, h1, h2, h3, fun vs H1 H' ds M' e1 w1 r1 q1 =>
    ⟨by rw [r1.length]; exact q1.1, fun p hp => h4 _ _ _ _ M' (e1.trans (same_new (w1.fresh hp))) (w1.new hp) (.lst upd_same (r1.mono (same_new (w1.fresh hp)))) q1.2⟩⟩
/-- a list: a cell -/
def wLstM (wa : WA) : WE := fun Γ M k => wa Γ M fun ds M1 => ds.length ≤ sizeLine ∧ ∀ p, M1 p = none → k (.cel p) (setM M1 p (.lst ds))
theorem de_lstM {wa : WA} {pos : Pos} (h : DA X es wa) : DE X (.List es pos) (wLstM wa) :=
  de_of (pe_lst h.run) fun σ H Q Γ Fr H0 M k h1 h2 h3 h4 => ⟨Γ, Fr, H0, M, _, h1, h2, h3, fun vs H1 H' ds M' e1 w1 r1 q1 =>
    ⟨by rw [r1.length]; exact q1.1, fun p hp => h4 _ H1 _ _ _ e1 (w1.newM hp (.lst r1)) (.cel p) (q1.2 p (w1.freshM hp))⟩⟩

abbrev FD := List D → Mem → KD → Prop
def liftF (K : KZ) (F : FD) : Sp := fun vs H Q _ => ∃ Fr H0 M ds k, Wd K Fr H0 M H ∧ Dats K H0 vs ds ∧ F ds M k ∧ Cont K Fr H0 k Q
def wCall (F : FD) (wa : WA) : WE := fun Γ M k => wa Γ M fun ds M1 => F ds M1 k
/-- a callee's end, seen from here -/
theorem Cont.top {K : KZ} {Fr H0 : Hp} {M : Mem} {H : Hp} {k : KD} {Q : VK} (w : Wd K Fr H0 M H) (c : Cont K Fr H0 k Q) : Cont (topK K.fr) Fr H0 k Q := fun v H0' H' d M' e w' r q =>
  c v H0' H' d M' e (Wd.chg (K := topK K.fr) (K' := K) rfl w' (K.zm (fun _ _ e => e) e w.zz)) (Dat.chg (K := topK K.fr) (K' := K) rfl _ _ r) q
abbrev DFn (P : Program) (w : World) (K : PySem.W.Frag) (mg : Str → Option Value) (base : Heap) (k : Nat) (f : Addr) (fd : FuncData) (ps : List Str) (F : FD) : Prop := DG.FnG P w K mg base CX0 k f fd ps (liftF (topK K) F)
theorem de_call {F : FD} {f : Addr} {fd : FuncData} {ps : List Str} {x : Str} {k : Nat} {p pos : Pos} {wa : WA} (G : DFn X.prog X.w X.K X.mg X.base k f fd ps F) (hr : DG.RoomG k X.A) (hm : X.mg x = some (.ref f)) (hk : PySem.W.keepIn X.K (.ref f) = true) (hb : Binds X.K fd ps [])
    (ha : DA X (e :: es) wa) (hg : Gl X x := by rfl) (hdb : (x == ("__debug__" : Str)) = false := by decide) (he : starEach (e :: es) X.env = (false, eval e X.env) :: starEach es X.env := by rfl) (hpl : (backTo pos (starEach es X.env)).any (·.1) = false := by rfl) : DE X (.Call (.Name x p) (e :: es) [] pos) (wCall F wa) :=
  de_of (DG.pe_callG G hr hg hm hk hb pass0 ha.run hdb he hpl) fun σ H Q Γ Fr H0 M k h1 h2 h3 h4 => ⟨Γ, Fr, H0, M, _, h1, h2, h3, fun vs H1 H' ds M' e1 w1 r1 q1 =>
    ⟨Fr, H1, M', ds, k, w1.top, by rw [List.append_nil]; exact Dats.chg (K := X.K) (K' := topK X.K.fr) rfl _ _ r1, q1, (h4.mono e1).top w1⟩⟩
/-- a built-in, by values -/
def CallD (K : KZ) (r : List V → Hp → VK → Prop) (rd : FD) : Prop := ∀ Fr H0 M H vs ds k Q, Wd K Fr H0 M H → Dats K H0 vs ds → rd ds M k → Cont K Fr H0 k Q → r vs H Q
theorem de_callB {r : List V → Hp → VK → Prop} {rd : FD} {id : String} {x : Str} {p pos : Pos} {wa : WA} (hc : CallR X (.builtin id) r) (hd : CallD X.K r rd) (hm : X.mg x = none) (hv : bootBuiltins x = some (.builtin id)) (ha : DA X (e :: es) wa) (hg : Gl X x := by rfl) (hn : x ≠ "__name__" := by decide) (hdb : (x == ("__debug__" : Str)) = false := by decide)
    (he : starEach (e :: es) X.env = (false, eval e X.env) :: starEach es X.env := by rfl) (hpl : (backTo pos (starEach es X.env)).any (·.1) = false := by rfl) : DE X (.Call (.Name x p) (e :: es) [] pos) (wCall rd wa) :=
  de_of (pe_callB hc hg hm hv ha.run hn hdb he hpl) fun σ H Q Γ Fr H0 M k h1 h2 h3 h4 => ⟨Γ, Fr, H0, M, _, h1, h2, h3, fun vs H1 H' ds M' e1 w1 r1 q1 => hd Fr H1 M' H' vs ds k Q w1 r1 q1 (h4.mono e1)⟩
theorem de_callTy {r : List V → Hp → VK → Prop} {rd : FD} {T : String} {x : Str} {p pos : Pos} {wa : WA} (hc : CallR X (.type T) r) (hd : CallD X.K r rd) (hm : X.mg x = none) (hv : bootBuiltins x = some (.type T)) (ha : DA X (e :: es) wa) (hg : Gl X x := by rfl) (hn : x ≠ "__name__" := by decide) (hdb : (x == ("__debug__" : Str)) = false := by decide)
    (he : starEach (e :: es) X.env = (false, eval e X.env) :: starEach es X.env := by rfl) (hpl : (backTo pos (starEach es X.env)).any (·.1) = false := by rfl) : DE X (.Call (.Name x p) (e :: es) [] pos) (wCall rd wa) :=
  de_of (pe_callTy hc hg hm hv ha.run hn hdb he hpl) fun σ H Q Γ Fr H0 M k h1 h2 h3 h4 => ⟨Γ, Fr, H0, M, _, h1, h2, h3, fun vs H1 H' ds M' e1 w1 r1 q1 => hd Fr H1 M' H' vs ds k Q w1 r1 q1 (h4.mono e1)⟩
end
end DL

set_option autoImplicit false
set_option maxRecDepth 100000
set_option maxHeartbeats 2000000
namespace DL
open PySem L2
section
variable {X : CxZ} {e a b : Expr} {es : List Expr} {st : Stmt} {sts : List Stmt}

theorem dats1 {K : KZ} {H : Hp} {vs : List V} {d : D} (h : Dats K H vs [d]) : ∃ v, vs = [v] ∧ Dat K H v d := by
  cases h with | cons a t => cases t; exact ⟨_, rfl, a⟩
theorem dats2 {K : KZ} {H : Hp} {vs : List V} {d e : D} (h : Dats K H vs [d, e]) : ∃ v u, vs = [v, u] ∧ Dat K H v d ∧ Dat K H u e := by
  cases h with | cons a t => obtain ⟨u, rfl, b⟩ := dats1 t; exact ⟨_, _, rfl, a, b⟩
theorem dats3 {K : KZ} {H : Hp} {vs : List V} {d e f : D} (h : Dats K H vs [d, e, f]) : ∃ v u t, vs = [v, u, t] ∧ Dat K H v d ∧ Dat K H u e ∧ Dat K H t f := by
  cases h with | cons a t => obtain ⟨u, t, rfl, b, c⟩ := dats2 t; exact ⟨_, _, _, rfl, a, b, c⟩
/-! ### statements -/
def wNext : WS := fun k Γ M => k.nx Γ M
def wSeq (u v : WS) : WS := fun k Γ M => u ⟨v k, k.rt, k.bk, k.ct⟩ Γ M
theorem dss_nil : DSs X [] wNext := dss_of pss_nil fun _ σ H Γ Fr H0 M k h1 h2 h3 h4 => h4.nx σ H0 H Γ M (Same.refl _) h1 h2 h3
theorem emb_seq {K : KZ} {Fr H0 : Hp} {k : KS} {D : Ends} {v : WS} (h4 : Emb K Fr H0 k D) : Emb K Fr H0 ⟨v k, k.rt, k.bk, k.ct⟩ { D with nx := liftS K v D } :=
  ⟨fun σ' H0' H' Γ' M' e s w q => ⟨Γ', Fr, H0', M', k, s, w, q, h4.mono e⟩, h4.rt, h4.bk, h4.ct⟩
theorem dss_cons {u v : WS} (h1 : DS X st u) (h2 : DSs X sts v) : DSs X (st :: sts) (wSeq u v) :=
  dss_of (pss_cons h1.run h2.run) fun D σ H Γ Fr H0 M k h1 h2 h3 h4 => ⟨Γ, Fr, H0, M, _, h1, h2, h3, emb_seq h4⟩
theorem dss_one {u : WS} (h1 : DS X st u) : DSs X [st] u := ⟨pss_one h1.run⟩
def wBreak : WS := fun k Γ M => k.bk Γ M
def wContinue : WS := fun k Γ M => k.ct Γ M
def wExpr (w : WE) : WS := fun k Γ M => w Γ M fun _ M1 => k.nx Γ M1
theorem ds_expr {w : WE} {pos : Pos} (he : DE X e w) (hs : swapsWith e none pos.line X.env = pure false := by rfl) : DS X (.Expr e pos) (wExpr w) :=
  ds_of (ps_expr he.run hs) fun D σ H Γ Fr H0 M k h1 h2 h3 h4 => ⟨Γ, Fr, H0, M, _, h1, h2, h3, fun v H1 H' d M' e1 w1 r1 q1 => h4.nx σ H1 H' Γ M' e1 (h1.mono e1) w1 q1⟩
def wRet (w : WE) : WS := fun k Γ M => w Γ M k.rt
theorem ds_ret {w : WE} {pos : Pos} (he : DE X e w) : DS X (.Return (some e) pos) (wRet w) :=
  ds_of (ps_ret he.run) fun D σ H Γ Fr H0 M k h1 h2 h3 h4 => ⟨Γ, Fr, H0, M, _, h1, h2, h3, h4.rt⟩
def wRetN : WS := fun k _ M => k.rt .non M
def wIfS (wc : WT) (u v : WS) : WS := fun k Γ M => wc Γ M fun c M1 => if c = true then u k Γ M1 else v k Γ M1
theorem ds_if {c : Expr} {p q : List Stmt} {wc : WT} {u v : WS} {pos : Pos} (hc : DT X c wc) (ha : DSs X p u) (hb : DSs X q v) : DS X (.If c p q pos) (wIfS wc u v) :=
  ds_of (ps_if hc.run ha.run hb.run) fun D σ H Γ Fr H0 M k h1 h2 h3 h4 => ⟨Γ, Fr, H0, M, _, h1, h2, h3, fun c H0' H' M' e w q => by
    cases c with
    | true => rw [if_pos rfl] at q ⊢; exact ⟨Γ, Fr, H0', M', k, h1.mono e, w, q, h4.mono e⟩
    | false => rw [if_neg Bool.false_ne_true] at q ⊢; exact ⟨Γ, Fr, H0', M', k, h1.mono e, w, q, h4.mono e⟩⟩

/-! ### targets -/
/-- what a target does to the slots: within own -/
def GD (K : KZ) (g : TG) (own : List Nat) (gd : D → Env → Option Env) : Prop :=
  ∀ Fr H0 M H σ Γ Γ' v d Q, Slots K H0 σ Γ → Wd K Fr H0 M H → Dat K H0 v d → gd d Γ = some Γ' → (∀ σ', Slots K H0 σ' Γ' → (∀ i, i ∉ own → σ'[i]? = σ[i]?) → σ'.length = σ.length → Q σ' H) → g v σ H Q
def GDs (K : KZ) (g : TGs) (own : List Nat) (gd : List D → Env → Option Env) : Prop :=
  ∀ Fr H0 M H σ Γ Γ' vs ds Q, Slots K H0 σ Γ → Wd K Fr H0 M H → Dats K H0 vs ds → gd ds Γ = some Γ' → (∀ σ', Slots K H0 σ' Γ' → (∀ i, i ∉ own → σ'[i]? = σ[i]?) → σ'.length = σ.length → Q σ' H) → g vs σ H Q
structure DG (X : CxZ) (tg : Expr) (g : TG) (own : List Nat) (gd : D → Env → Option Env) : Prop where
  pg : PG X tg g
  gd : GD X.K g own gd
structure DGs (X : CxZ) (tg : List Expr) (g : TGs) (own : List Nat) (gd : List D → Env → Option Env) : Prop where
  pg : PGs X tg g
  gd : GDs X.K g own gd
def gN (i : Nat) : D → Env → Option Env := fun d Γ => some (Γ.set i (some d))
theorem gd_name {K : KZ} {i : Nat} : GD K (gName i) [i] (gN i) := fun Fr H0 M H σ Γ Γ' v d Q h1 h2 h3 h4 h5 => by
    cases h4
    refine h5 _ (h1.set i h3) (fun j hj => ?_) (by simp)
    exact List.getElem?_set_ne (fun e => hj (by simp [e]))
theorem dg_name {i : Nat} {x : Str} {pos : Pos} (hN : X.N.Nodup) (hi : X.N[i]? = some x := by rfl) (hx : Loc X.env.scope x := by first | exact Or.inl rfl | exact Or.inr rfl) (hf : X.fn x = true ∨ X.env.scope.names.lookup x = some .local := by first | exact .inl rfl | exact .inr rfl | assumption) : DG X (.Name x pos) (gName i) [i] (gN i) :=
  ⟨pg_name hN hi hx hf, gd_name⟩
def gsNil : List D → Env → Option Env := fun ds Γ => match ds with | [] => some Γ | _ => none
def gsCons (g : D → Env → Option Env) (gs : List D → Env → Option Env) : List D → Env → Option Env := fun ds Γ => match ds with | d :: ds => (match g d Γ with | some Γ' => gs ds Γ' | none => none) | [] => none
theorem gds_nil {K : KZ} : GDs K gNil [] gsNil := fun Fr H0 M H σ Γ Γ' vs ds Q h1 h2 h3 h4 h5 => by
  cases h3 with
  | nil => cases h4; exact ⟨rfl, h5 σ h1 (fun _ _ => rfl) rfl⟩
  | cons _ _ => cases h4
theorem gds_cons {K : KZ} {g : TG} {gs : TGs} {o1 o2 : List Nat} {gd : D → Env → Option Env} {gds : List D → Env → Option Env} (h1 : GD K g o1 gd) (h2 : GDs K gs o2 gds) : GDs K (gCons g gs) (o1 ++ o2) (gsCons gd gds) := fun Fr H0 M H σ Γ Γ' vs ds Q s w r e q => by
    cases r with
    | nil => cases e
    | cons r rs =>
      rename_i v vs d ds
      unfold gsCons at e
      simp only at e
      split at e
      · rename_i Γ1 e1
        refine ⟨v, vs, rfl, h1 Fr H0 M H σ Γ Γ1 v d _ s w r e1 fun σ1 s1 k1 l1 => ?_⟩
        refine h2 Fr H0 M H σ1 Γ1 Γ' vs ds _ s1 w rs e fun σ2 s2 k2 l2 => ?_
        refine q σ2 s2 (fun i hi => ?_) (l2.trans l1)
        rw [k2 i (fun z => hi (List.mem_append_right _ z)), k1 i (fun z => hi (List.mem_append_left _ z))]
      · cases e
theorem dgs_nil : DGs X [] gNil [] gsNil := ⟨pgs_nil, gds_nil⟩
theorem dgs_cons {t : Expr} {ts : List Expr} {g : TG} {gs : TGs} {o1 o2 : List Nat} {gd : D → Env → Option Env} {gds : List D → Env → Option Env} (h1 : DG X t g o1 gd) (h2 : DGs X ts gs o2 gds) (hs : (assignEach (t :: ts) X.env).map (·.2) = assign t X.env :: (assignEach ts X.env).map (·.2) := by rfl) : DGs X (t :: ts) (gCons g gs) (o1 ++ o2) (gsCons gd gds) :=
  ⟨pgs_cons h1.pg h2.pg hs, gds_cons h1.gd h2.gd⟩
def gT (gs : List D → Env → Option Env) : D → Env → Option Env := fun d Γ => match d with | .tup ds => gs ds Γ | _ => none
theorem gd_tup {K : KZ} {n : Nat} {gs : TGs} {own : List Nat} {gds : List D → Env → Option Env} (h : GDs K gs own gds) (hn : ∀ ds Γ Γ', gds ds Γ = some Γ' → ds.length = n) : GD K (gTup K n gs) own (gT gds) := fun Fr H0 M H σ Γ Γ' v d Q s w r e q => by
    cases r with
    | tup hs hd =>
      rename_i a vs ds
      exact ⟨a, vs, rfl, same_t w.ex hs, by rw [hd.length]; exact hn ds Γ Γ' e, h Fr H0 M H σ Γ Γ' vs ds Q s w hd e q⟩
    | _ => cases e
theorem dg_tup {ts : List Expr} {k n : Nat} {gs : TGs} {own : List Nat} {gds : List D → Env → Option Env} {pos : Pos} (hc : X.calm = true) (h : DGs X ts gs own gds) (hn : ∀ ds Γ Γ', gds ds Γ = some Γ' → ds.length = n) (hl : (assignEach ts X.env).length = n := by rfl) (hst : (assignEach ts X.env).findIdx? (·.1) = none := by rfl) :
    DG X (.Tuple ts k pos) (gTup X.K n gs) own (gT gds) := ⟨pg_tup hc h.pg hl hst, gd_tup h.gd hn⟩
theorem gsNil_len : ∀ ds Γ Γ', gsNil ds Γ = some Γ' → ds.length = 0 := fun ds Γ Γ' h => by
  cases ds with
  | nil => rfl
  | cons _ _ => cases h
theorem gsCons_len {g : D → Env → Option Env} {gs : List D → Env → Option Env} {n : Nat} (hn : ∀ ds Γ Γ', gs ds Γ = some Γ' → ds.length = n) : ∀ ds Γ Γ', gsCons g gs ds Γ = some Γ' → ds.length = n + 1 := fun ds Γ Γ' h => by
  cases ds with
  | nil => cases h
  | cons d ds =>
    unfold gsCons at h
    simp only at h
    split at h
    · rw [List.length_cons, hn _ _ _ h]
    · cases h

/-! ### assignments -/
def wSet (i : Nat) (w : WE) : WS := fun k Γ M => w Γ M fun d M1 => k.nx (Γ.set i (some d)) M1
theorem ds_set {i : Nat} {x : Str} {w : WE} {p pos : Pos} (hN : X.N.Nodup) (he : DE X e w) (hi : X.N[i]? = some x := by rfl) (hx : Loc X.env.scope x := by first | exact Or.inl rfl | exact Or.inr rfl) (hs : swapsWith e (some (.Name x p)) pos.line X.env = pure false := by rfl)
    (hf : X.fn x = true ∨ X.env.scope.names.lookup x = some .local := by first | exact .inl rfl | exact .inr rfl | assumption) : DS X (.Assign [.Name x p] e pos) (wSet i w) :=
  ds_of (ps_set hN hi hx he.run hs hf) fun D σ H Γ Fr H0 M k h1 h2 h3 h4 => ⟨Γ, Fr, H0, M, _, h1, h2, h3, fun v H1 H' d M' e1 w1 r1 q1 => h4.nx _ H1 H' _ M' e1 ((h1.mono e1).set i r1) w1 q1⟩
/-- a target of any form that stores into names -/
def wAsg (gd : D → Env → Option Env) (w : WE) : WS := fun k Γ M => w Γ M fun d M1 => match gd d Γ with | some Γ' => k.nx Γ' M1 | none => False
def wPar (i j : Nat) (wa : WA) : WS := fun k Γ M => wa Γ M fun ds M1 => match ds with | [x, y] => k.nx ((Γ.set i (some x)).set j (some y)) M1 | _ => False
def wPar3 (i j l : Nat) (wa : WA) : WS := fun k Γ M => wa Γ M fun ds M1 => match ds with | [x, y, z] => k.nx (((Γ.set i (some x)).set j (some y)).set l (some z)) M1 | _ => False
theorem ds_par {i j : Nat} {x y : Str} {wa : WA} {px py pt pos : Pos} {kt k2 pt2} (hc : X.calm = true) (hN : X.N.Nodup) (ha : DA X [a, b] wa) (hi : X.N[i]? = some x) (hj : X.N[j]? = some y) (hij : i ≠ j)
    (hx : X.env.scope.names.lookup x = some .local) (hy : X.env.scope.names.lookup y = some .local)
    (hw : swappedStores [.Tuple [.Name x px, .Name y py] kt pt] (.Tuple [a, b] k2 pt2) X.env = pure (some [x, y]))
    (hs : swapsWithSole [.Tuple [.Name x px, .Name y py] kt pt] (.Tuple [a, b] k2 pt2) pos.line X.env = pure false := by rfl) :
    DS X (.Assign [.Tuple [.Name x px, .Name y py] kt pt] (.Tuple [a, b] k2 pt2) pos) (wPar i j wa) :=
  ds_of (ps_par hc hN hi hj hij hx hy ha.run hw hs) fun D σ H Γ Fr H0 M k h1 h2 h3 h4 => ⟨Γ, Fr, H0, M, _, h1, h2, h3, fun vs H1 H' ds M' e1 w1 r1 q1 => by
    split at q1
    · obtain ⟨v, u, rfl, ra, rb⟩ := dats2 r1
      exact ⟨v, u, rfl, h4.nx _ H1 H' _ M' e1 (((h1.mono e1).set i ra).set j rb) w1 q1⟩
    · exact q1.elim⟩
theorem ds_par3 {i j l : Nat} {x y z : Str} {c : Expr} {wa : WA} {px py pz pt pos : Pos} {kt k2 pt2} (hc : X.calm = true) (hN : X.N.Nodup) (ha : DA X [a, b, c] wa) (hi : X.N[i]? = some x) (hj : X.N[j]? = some y) (hl : X.N[l]? = some z) (hij : i ≠ j) (hil : i ≠ l) (hjl : j ≠ l)
    (hx : X.env.scope.names.lookup x = some .local) (hy : X.env.scope.names.lookup y = some .local) (hz : X.env.scope.names.lookup z = some .local)
    (hw : swappedStores [.Tuple [.Name x px, .Name y py, .Name z pz] kt pt] (.Tuple [a, b, c] k2 pt2) X.env = pure (some [x, y, z]))
    (hs : swapsWithSole [.Tuple [.Name x px, .Name y py, .Name z pz] kt pt] (.Tuple [a, b, c] k2 pt2) pos.line X.env = pure false := by rfl) :
    DS X (.Assign [.Tuple [.Name x px, .Name y py, .Name z pz] kt pt] (.Tuple [a, b, c] k2 pt2) pos) (wPar3 i j l wa) :=
  ds_of (ps_par3 hc hN hi hj hl hij hil hjl hx hy hz ha.run hw hs) fun D σ H Γ Fr H0 M k h1 h2 h3 h4 => ⟨Γ, Fr, H0, M, _, h1, h2, h3, fun vs H1 H' ds M' e1 w1 r1 q1 => by
    split at q1
    · obtain ⟨v, u, t, rfl, ra, rb, rc⟩ := dats3 r1
      exact ⟨v, u, t, rfl, h4.nx _ H1 H' _ M' e1 ((((h1.mono e1).set i ra).set j rb).set l rc) w1 q1⟩
    · exact q1.elim⟩

/-! ### lists as they stand -/
/-- a list that is tracked -/
def asL (M : Mem) : D → Option (List D)
  | .lst ds => some ds
  | .cel a => match M a with | some (.lst ds) => some ds | _ => none
  | _ => none
/-- a list that may be read -/
def asR (M : Mem) : D → Option (List D)
  | .lst ds => some ds
  | .scr ds => some ds
  | .cel a => match M a with | some (.lst ds) => some ds | _ => none
  | _ => none
theorem asL_ok {K : KZ} {Fr H0 H : Hp} {M : Mem} {v : V} {d : D} {ds : List D} (w : Wd K Fr H0 M H) (r : Dat K H0 v d) (h : asL M d = some ds) : ∃ a vs, v = .ref a ∧ H a = some (.lst vs) ∧ Dats K H0 vs ds := by
  cases r with
  | lst hs hd => cases h; exact ⟨_, _, rfl, w.ex _ _ hs, hd⟩
  | cel a =>
    unfold asL at h
    simp only at h
    split at h
    · rename_i ds' e
      cases h
      obtain ⟨_, o, e2, c⟩ := w.mem a _ e
      cases c with
      | lst hd => exact ⟨a, _, rfl, e2, hd⟩
    · cases h
  | _ => cases h
theorem asR_ok {K : KZ} {Fr H0 H : Hp} {M : Mem} {v : V} {d : D} {ds : List D} (w : Wd K Fr H0 M H) (r : Dat K H0 v d) (h : asR M d = some ds) : ∃ a vs, v = .ref a ∧ SqL K H a vs ∧ Dats K H0 vs ds := by
  cases r with
  | lst hs hd => cases h; exact ⟨_, _, rfl, .of (w.ex _ _ hs), hd⟩
  | scr hs hd => cases h; exact ⟨_, _, rfl, same_l w.ex hs, hd⟩
  | cel a =>
    obtain ⟨a', vs, e1, e2, e3⟩ := asL_ok w (.cel a) (show asL M (.cel a) = some ds from h)
    exact ⟨a', vs, e1, .of e2, e3⟩
  | _ => cases h

/-! ### what is walked -/
abbrev WI := Env → Mem → (List D → (Mem → Prop) → Mem → Prop) → Prop
def WalkD (K : KZ) (Fr : Hp) (J : It) (H0 : Hp) (its : List D) (G : Mem → Prop) : Prop :=
  ∀ H0' M H, Same H0 H0' → Wd K Fr H0' M H → G M → (∀ i, i < its.length → J.go i H) ∧ J.stop its.length H ∧
    ∀ i x H' d, its[i]? = some d → J.yld i H x H' → ∃ H0'', Same H0' H0'' ∧ Wd K Fr H0'' M H' ∧ Dat K H0'' x d
theorem WalkD.mono {K : KZ} {Fr Fr' : Hp} {J : It} {H0 H1 : Hp} {its : List D} {G : Mem → Prop} (h : WalkD K Fr J H0 its G) (e : Same H0 H1) : WalkD K Fr J H1 its G := fun H0' M H s => h H0' M H (e.trans s)
/-- over lists: any frame -/
def Walks (K : KZ) (J : It) (H0 : Hp) (its : List D) (G : Mem → Prop) : Prop := ∀ Fr, WalkD K Fr J H0 its G
structure DI (X : CxZ) (tg iter : Expr) (wi : WI) : Prop where
  run : ∃ ti : TI, PI X tg iter ti ∧ ∀ σ H Γ Fr H0 M k R, Slots X.K H0 σ Γ → Wd X.K Fr H0 M H → wi Γ M k →
    (∀ J its G H1 H0' M', Same H0 H0' → Wd X.K Fr H0' M' H1 → k its G M' → Walks X.K J H0' its G → R J H1) → ti σ H R
def gAny : Mem → Prop := fun _ => True
def gAt (d : D) (ds : List D) : Mem → Prop := fun M => asR M d = some ds
/-- a list -/
def wiL (w : WE) : WI := fun Γ M k => w Γ M fun d M1 => match asR M1 d with | some ds => k ds (gAt d ds) M1 | none => False
theorem walks_list {K : KZ} {H0 : Hp} {a : Addr} {d : D} {ds : List D} (r : Dat K H0 (.ref a) d) : Walks K (Itl K a) H0 ds (gAt d ds) := fun Fr H0' M H e w g => by
  obtain ⟨a', vs, ea, hs, hd⟩ := asR_ok w (r.mono e) g
  cases ea
  refine ⟨fun i hi => ?_, ⟨vs, hs, by rw [hd.length]; exact Nat.le_refl _⟩, fun i x H' d' hd' y => ?_⟩
  · have hl : i < vs.length := by rw [hd.length]; exact hi
    exact ⟨vs, vs[i], hs, by simp [hl]⟩
  · obtain ⟨e1, y⟩ := y
    subst e1
    obtain ⟨v, e2, r2⟩ := hd.get hd'
    have e3 := y vs hs
    rw [e2] at e3; cases e3
    exact ⟨H0', Same.refl _, w, r2⟩
theorem di_list {tg l : Expr} {w : WE} (h : DE X l w) : DI X tg l (wiL w) := ⟨_, pi_list h.run, fun σ H Γ Fr H0 M k R h1 h2 h3 h4 => ⟨Γ, Fr, H0, M, _, h1, h2, h3, fun v H1 H' d M' e1 w1 r1 q1 => by
  split at q1
  · rename_i ds e2
    obtain ⟨a, vs, rfl, hs, hd⟩ := asR_ok w1 r1 e2
    exact ⟨a, rfl, ⟨vs, hs⟩, h4 _ ds _ H' H1 M' e1 w1 q1 (walks_list r1)⟩
  · exact q1.elim⟩⟩
/-- a tuple -/
def wiT (w : WE) : WI := fun Γ M k => w Γ M fun d M1 => match d with | .tup ds => k ds gAny M1 | _ => False
/-- a text -/
def signs (x : Str) : List D := x.cps.toList.map fun c => .str ⟨#[c]⟩
def wiS (w : WE) : WI := fun Γ M k => w Γ M fun d M1 => match d with | .str x => k (signs x) gAny M1 | _ => False
/-- range(n) -/
def rng (lo : Int) (n : Nat) : List D := (List.range n).map fun (i : Nat) => .int (lo + i)
def wiR (wa : WA) : WI := fun Γ M k => wa Γ M fun ds M1 => match ds with | [.int n] => (-(2 ^ 62) ≤ n ∧ n < 2 ^ 62) ∧ k (rng 0 n.toNat) gAny M1 | _ => False
theorem walks_rng {K : KZ} {H0 : Hp} {lo : Int} {n : Nat} : Walks K (Itr lo n) H0 (rng lo n) gAny := fun Fr H0' M H e w g => by
  have hl : (rng lo n).length = n := by unfold rng; simp
  refine ⟨fun i hi => ?_, ?_, fun i y H' d hd q => ?_⟩
  · show i < n
    rw [← hl]; exact hi
  · show n ≤ (rng lo n).length
    rw [hl]; exact Nat.le_refl _
  · obtain ⟨e1, e3⟩ := q
    subst e1 e3
    unfold rng at hd
    rw [List.getElem?_map] at hd
    have hi : i < n := by
      cases q : (List.range n)[i]? with
      | none => rw [q] at hd; cases hd
      | some z => exact by have := (List.getElem?_eq_some_iff.mp q).1; simpa using this
    rw [List.getElem?_range hi] at hd
    cases hd
    exact ⟨H0', Same.refl _, w, .int _⟩
theorem di_range {tg : Expr} {wa : WA} {p pos : Pos} (hm : X.mg "range" = none) (ha : DA X [a] wa) (hg : Gl X "range" := by rfl) (hs : starEach [a] X.env = [(false, eval a X.env)] := by rfl) : DI X tg (.Call (.Name "range" p) [a] [] pos) (wiR wa) :=
  ⟨_, pi_range1 hg hm ha.run hs, fun σ H Γ Fr H0 M k R h1 h2 h3 h4 => ⟨Γ, Fr, H0, M, _, h1, h2, h3, fun vs H1 H' ds M' e1 w1 r1 q1 => by
  split at q1
  · obtain ⟨v, rfl, r⟩ := dats1 r1
    cases r
    exact ⟨_, rfl, q1.1.1, q1.1.2, h4 _ _ _ H' H1 M' e1 w1 q1.2 walks_rng⟩
  · exact q1.elim⟩⟩

/-! ### for -/
def loopD (gd : D → Env → Option Env) (wb : WS) (G : Mem → Prop) : List D → KS → Env → Mem → Prop
  | [], k, Γ, M => G M ∧ k.nx Γ M
  | d :: ds, k, Γ, M => G M ∧ match gd d Γ with | some Γ' => wb ⟨loopD gd wb G ds k, k.rt, k.nx, loopD gd wb G ds k⟩ Γ' M | none => False
def wFor (wi : WI) (gd : D → Env → Option Env) (wb : WS) : WS := fun k Γ M => wi Γ M fun its G M1 => loopD gd wb G its k Γ M1
theorem drop_cons {α : Type} {l : List α} {i : Nat} (h : i < l.length) : l.drop i = l[i] :: l.drop (i + 1) := List.drop_eq_getElem_cons h
theorem ds_for {tg iter : Expr} {body : List Stmt} {wi : WI} {g : TG} {own : List Nat} {gd : D → Env → Option Env} {wb : WS} {pos : Pos} (hc : X.calm = true) (hi : DI X tg iter wi) (hg : DG X tg g own gd) (hb : DSs X body wb)
    (hp : PassesOwn (model X.prog X.w) X.A X.env X.xe := by exact PassesOwn.never) (hs : ∀ x, foldedSetIterable iter X.env x = pure x := by intro _; rfl) : DS X (.For tg iter body [] pos) (wFor wi gd wb) := by
  obtain ⟨ti, hpi, hti⟩ := hi.run
  refine ds_of (ps_for hp hc hpi hg.pg hb.run hs) fun D σ H Γ Fr H0 M k h1 h2 h3 h4 => ?_
  refine hti σ H Γ Fr H0 M _ _ h1 h2 h3 fun J its G H1 H0' M' e1 w1 q1 wk => ?_
  refine ⟨fun i m σ H => m = its.length - i ∧ i ≤ its.length ∧ ∃ Γ H2 M, Same H0' H2 ∧ Slots X.K H2 σ Γ ∧ Wd X.K Fr H2 M H ∧ loopD gd wb G (its.drop i) k Γ M, ⟨its.length, by simp, Nat.zero_le _, Γ, H0', M', Same.refl _, h1.mono e1, w1, q1⟩, ?_⟩
  rintro i m σ H ⟨rfl, hle, Γ, H2, M, e2, s2, w2, q2⟩
  by_cases hlt : i < its.length
  · right
    rw [drop_cons hlt] at q2
    obtain ⟨g2, q2⟩ := q2
    obtain ⟨k1, k2, k3⟩ := wk Fr H2 M H e2 w2 g2
    refine ⟨k1 i hlt, fun σ' H' => ∃ Γ H3 M, Same H0' H3 ∧ Slots X.K H3 σ' Γ ∧ Wd X.K Fr H3 M H' ∧ loopD gd wb G (its.drop (i + 1)) k Γ M, fun σ' H' z => ⟨its.length - (i + 1), by omega, rfl, hlt, z⟩, fun x H' y => ?_⟩
    obtain ⟨H3, e3, w3, r3⟩ := k3 i x H' its[i] (List.getElem?_eq_getElem hlt) y
    split at q2
    · rename_i Γ' eg
      refine hg.gd Fr H3 M H' σ Γ Γ' x its[i] _ (s2.mono e3) w3 r3 eg fun σ' s' _ _ => ?_
      refine ⟨Γ', Fr, H3, M, _, s', w3, q2, ⟨fun σ'' H4 H'' Γ'' M'' e4 s4 w4 q4 => ?_, ?_, ?_, fun σ'' H4 H'' Γ'' M'' e4 s4 w4 q4 => ?_⟩⟩
      · exact ⟨Γ'', H4, M'', (e2.trans e3).trans e4, s4, w4, q4⟩
      · exact (h4.mono ((e1.trans e2).trans e3)).rt
      · exact (h4.mono ((e1.trans e2).trans e3)).nx
      · exact ⟨Γ'', H4, M'', (e2.trans e3).trans e4, s4, w4, q4⟩
    · exact q2.elim
  · left
    have ei : i = its.length := by omega
    subst ei
    rw [List.drop_length] at q2
    obtain ⟨g2, q2⟩ := q2
    exact ⟨(wk Fr H2 M H e2 w2 g2).2.1, h4.nx σ H2 H Γ M (e1.trans e2) s2 w2 q2⟩
/-- by an invariant over what is left -/
theorem loop_inv {gd : D → Env → Option Env} {wb : WS} {G : Mem → Prop} {k : KS} (I : List D → Env → Mem → Prop) (hG : ∀ ds Γ M, I ds Γ M → G M) (h0 : ∀ Γ M, I [] Γ M → k.nx Γ M)
    (hs : ∀ d ds Γ M, I (d :: ds) Γ M → ∃ Γ', gd d Γ = some Γ' ∧ ∀ k' : KS, k'.rt = k.rt → k'.bk = k.nx → (∀ Γ M, I ds Γ M → k'.nx Γ M) → (∀ Γ M, I ds Γ M → k'.ct Γ M) → wb k' Γ' M) :
    ∀ its Γ M, I its Γ M → loopD gd wb G its k Γ M
  | [], Γ, M, h => ⟨hG _ _ _ h, h0 Γ M h⟩
  | d :: ds, Γ, M, h => by
    refine ⟨hG _ _ _ h, ?_⟩
    obtain ⟨Γ', e, q⟩ := hs d ds Γ M h
    rw [e]
    exact q _ rfl rfl (fun Γ M h => loop_inv I hG h0 hs ds Γ M h) (fun Γ M h => loop_inv I hG h0 hs ds Γ M h)

/-! ### while -/
def wWhile (wc : WT) (wb : WS) : WS := fun k Γ M => ∃ (I : Nat → Env → Mem → Prop), (∃ n, I n Γ M) ∧ ∀ n Γ M, I n Γ M →
  wc Γ M fun b M1 => if b = true then wb ⟨fun Γ' M' => ∃ n', n' < n ∧ I n' Γ' M', k.rt, k.nx, fun Γ' M' => ∃ n', n' < n ∧ I n' Γ' M'⟩ Γ M1 else k.nx Γ M1
theorem ds_while {c : Expr} {body : List Stmt} {wc : WT} {wb : WS} {pos : Pos} (hc : DT X c wc) (hb : DSs X body wb) (hp : PassesOwn (model X.prog X.w) X.A X.env X.xe := by exact PassesOwn.never) : DS X (.While c body [] pos) (wWhile wc wb) := by
  refine ds_of (ps_while hp hc.run hb.run) fun D σ H Γ Fr H0 M k h1 h2 h3 h4 => ?_
  obtain ⟨I, ⟨n, i0⟩, hI⟩ := h3
  refine ⟨fun m σ H => ∃ Γ H1 M, Same H0 H1 ∧ Slots X.K H1 σ Γ ∧ Wd X.K Fr H1 M H ∧ I m Γ M, ⟨n, Γ, H0, M, Same.refl _, h1, h2, i0⟩, ?_⟩
  rintro m σ H ⟨Γ, H1, M, e1, s1, w1, i1⟩
  refine ⟨Γ, Fr, H1, M, _, s1, w1, hI m Γ M i1, fun b H2 H' M' e2 w2 q2 => ?_⟩
  cases b with
  | true =>
    rw [if_pos rfl] at q2 ⊢
    refine ⟨fun σ' H'' => ∃ Γ H3 M, Same H0 H3 ∧ Slots X.K H3 σ' Γ ∧ Wd X.K Fr H3 M H'' ∧ ∃ n', n' < m ∧ I n' Γ M, fun σ' H'' ⟨Γ, H3, M, a1, a2, a3, n', a4, a5⟩ => ⟨n', a4, Γ, H3, M, a1, a2, a3, a5⟩, ?_⟩
    refine ⟨Γ, Fr, H2, M', _, s1.mono e2, w2, q2, ⟨fun σ'' H4 H'' Γ'' M'' e4 s4 w4 q4 => ⟨Γ'', H4, M'', (e1.trans e2).trans e4, s4, w4, q4⟩, (h4.mono (e1.trans e2)).rt, (h4.mono (e1.trans e2)).nx, fun σ'' H4 H'' Γ'' M'' e4 s4 w4 q4 => ⟨Γ'', H4, M'', (e1.trans e2).trans e4, s4, w4, q4⟩⟩⟩
  | false =>
    rw [if_neg Bool.false_ne_true] at q2 ⊢
    exact h4.nx σ H2 H' Γ M' (e1.trans e2) (s1.mono e2) w2 q2

/-! ### comprehensions -/
def lcD (gd : D → Env → Option Env) (wt : WT) (we : WE) (G : Mem → Prop) (Γ : Env) : List D → List D → Mem → (List D → Mem → Prop) → Prop
  | [], acc, M, k => G M ∧ k acc M
  | d :: ds, acc, M, k => G M ∧ match gd d Γ with
    | some Γ' => wt Γ' M fun b M1 => if b = true then we Γ' M1 fun y M2 => acc.length < sizeLine ∧ lcD gd wt we G Γ ds (acc ++ [y]) M2 k else lcD gd wt we G Γ ds acc M1 k
    | none => False
structure DTs (X : CxZ) (ifs : List Expr) (w : WT) : Prop where
  run : PTs X ifs (liftT X.K w)
def wYes : WT := fun _ M k => k true M
theorem dts_nil : DTs X [] wYes := ⟨⟨fun pins s σ H Q I ⟨Γ, Fr, H0, M, k, h1, h2, h3, h4⟩ => pts_nil.run pins s σ H Q I (h4 true H0 H M (Same.refl _) h2 h3)⟩⟩
def wLc (wi : WI) (gd : D → Env → Option Env) (wt : WT) (we : WE) (vs : List Nat) : WE := fun Γ M k => wi Γ M fun its G M1 => lcD gd wt we G (wipeD Γ vs) its [] M1 fun ds M2 => k (.lst ds) M2
def wLcM (wi : WI) (gd : D → Env → Option Env) (wt : WT) (we : WE) (vs : List Nat) : WE := fun Γ M k => wi Γ M fun its G M1 => lcD gd wt we G (wipeD Γ vs) its [] M1 fun ds M2 => ∀ p, M2 p = none → k (.cel p) (setM M2 p (.lst ds))
/-- the heart of both: the list at L lies in the frame while an element is worked out -/
theorem lc_heart {K : KZ} {wi : WI} {ti : TI} {g : TG} {own : List Nat} {gd : D → Env → Option Env} {wt : WT} {we : WE} {vs : List Nat} {Qd : Addr → Hp → Prop} {kd : List D → Mem → Prop}
    (hg : GD K g own gd) (ho : ∀ i ∈ own, i ∈ vs) {σ : St} {H H0 Fr : Hp} {Γ : Env} {M : Mem} {J : It} {its : List D} {G : Mem → Prop} (s : Slots K H0 σ Γ) (w : Wd K Fr H0 M H) (wk : Walks K J H0 its G)
    (h : lcD gd wt we G (wipeD Γ vs) its [] M kd) {L : Addr} (hL : H L = none)
    (hk : ∀ H1 H' M' ds vs', Same H0 H1 → Wd K Fr H1 M' H' → H1 L = none → M' L = none → Fr L = none → H' L = some (.lst vs') → Dats K H1 vs' ds → kd ds M' → Qd L H') :
    ∃ W : Nat → Nat → Hp → Prop, (∃ m, W 0 m (upd H L (.lst []))) ∧ ∀ i m H, W i m H →
      (J.stop i H ∧ Qd L H) ∨ (J.go i H ∧ ∃ Nx : Hp → Prop, (∀ H', Nx H' → ∃ m', m' < m ∧ W (i + 1) m' H') ∧ ∀ x H', J.yld i H x H' → g x (wipe σ vs) H' fun σ2 H2 => wipe σ2 vs = wipe σ vs ∧ liftT K wt σ2 H2 fun b H3 =>
        if b = true then liftE K we σ2 H3 fun y H4 => ∃ acc, H4 L = some (.lst acc) ∧ acc.length < sizeLine ∧ Nx (upd H4 L (.lst (acc ++ [y]))) else Nx H3) := by
  have hF : Fr L = none := w.freshF hL
  refine ⟨fun i m H => m = its.length - i ∧ i ≤ its.length ∧ ∃ H1 M av acc, Same H0 H1 ∧ Wd K (upd Fr L (.lst av)) H1 M H ∧ Dats K H1 av acc ∧ lcD gd wt we G (wipeD Γ vs) (its.drop i) acc M kd,
    ⟨its.length, by simp, Nat.zero_le _, H0, M, [], [], Same.refl _, (w.tmp hL).frame (w.fresh hL) (w.freshM hL) upd_same, .nil, h⟩, ?_⟩
  rintro i m H ⟨rfl, hle, H1, M, av, acc, e1, w1, ra, q1⟩
  by_cases hlt : i < its.length
  · right
    rw [drop_cons hlt] at q1
    obtain ⟨g1, q1⟩ := q1
    obtain ⟨k1, k2, k3⟩ := wk _ H1 M H e1 w1 g1
    refine ⟨k1 i hlt, fun H' => ∃ H2 M av acc, Same H0 H2 ∧ Wd K (upd Fr L (.lst av)) H2 M H' ∧ Dats K H2 av acc ∧ lcD gd wt we G (wipeD Γ vs) (its.drop (i + 1)) acc M kd, fun H' z => ⟨its.length - (i + 1), by omega, rfl, hlt, z⟩, fun x H' y => ?_⟩
    obtain ⟨H2, e2, w2, r2⟩ := k3 i x H' its[i] (List.getElem?_eq_getElem hlt) y
    split at q1
    · rename_i Γ' eg
      refine hg _ H2 M H' _ _ Γ' x its[i] _ ((s.wipe vs).mono (e1.trans e2)) w2 r2 eg fun σ' s' hout hlen => ⟨?_, ?_⟩
      · rw [← wipe_wipe σ vs]
        refine wipe_eq hlen fun i hi => hout i fun z => hi (ho i z)
      · refine ⟨Γ', _, H2, M, _, s', w2, q1, fun b H3 H'' M3 e3 w3 q3 => ?_⟩
        cases b with
        | true =>
          rw [if_pos rfl] at q3 ⊢
          refine ⟨Γ', _, H3, M3, _, s'.mono e3, w3, q3, fun v H4 H4' d M4 e4 w4 r4 q4 => ?_⟩
          obtain ⟨w5, n1, n2, n3⟩ := w4.unframe hF (K.zm (fun _ _ e => e) (e1.trans (e2.trans (e3.trans e4))) w.zz)
          have e04 := (e1.trans e2).trans (e3.trans e4)
          have ra4 := ra.mono (e2.trans (e3.trans e4))
          exact ⟨av, n3, by rw [ra4.length]; exact q4.1, H4, M4, av ++ [v], acc ++ [d], e04, (w5.tmpSet n1 n2 hF).frame n1 n2 upd_same, ra4.append (.one r4), q4.2⟩
        | false =>
          rw [if_neg Bool.false_ne_true] at q3 ⊢
          exact ⟨H3, M3, av, acc, (e1.trans e2).trans e3, w3, ra.mono (e2.trans e3), q3⟩
    · exact q1.elim
  · left
    have ei : i = its.length := by omega
    subst ei
    rw [List.drop_length] at q1
    obtain ⟨g1, q1⟩ := q1
    obtain ⟨w5, n1, n2, n3⟩ := w1.unframe hF (K.zm (fun _ _ e => e) e1 w.zz)
    exact ⟨(wk _ H1 M H e1 w1 g1).2.1, hk H1 H M acc av e1 w5 n1 n2 hF n3 ra q1⟩
theorem de_lcX {elt tg iter : Expr} {ifs : List Expr} {scope : Scope} {own : List (Str × Nat)} {pos : Pos} {wi : WI} {g : TG} {ow : List Nat} {gd : D → Env → Option Env} {wt : WT} {we : WE} {wx : WE} (hc : X.calm = true) (hN : X.N.Nodup) (hi : DI X tg iter wi) (ok : BlkOk X.N X.env.scope scope own)
    (hg : ∀ (s : Shared) (H : Hp) (C : Addr) (cl : List (Str × Addr)) (fp : List Addr), DG (X.blk s H scope (compEnvC scope cl C X.env) fp) tg g ow gd) (hgd : GD X.K g ow gd)
    (ht : ∀ (s : Shared) (H : Hp) (C : Addr) (cl : List (Str × Addr)) (fp : List Addr), DTs (X.blk s H scope (compEnvC scope cl C X.env) fp) ifs wt)
    (he : ∀ (s : Shared) (H : Hp) (C : Addr) (cl : List (Str × Addr)) (fp : List Addr), DE (X.blk s H scope (compEnvC scope cl C X.env) fp) elt we)
    (ho : ∀ i ∈ ow, i ∈ own.map (·.2)) (hs : ∀ x, foldedSetIterable iter X.env x = pure x)
    (hx : ∀ Γ M k, wx Γ M k → ∃ kd, wi Γ M (fun its G M1 => lcD gd wt we G (wipeD Γ (own.map (·.2))) its [] M1 kd) ∧ ∀ Fr H0 H M ds vs L Q, Cont X.K Fr H0 k Q → Wd X.K Fr H0 M H → H0 L = none → M L = none → Fr L = none → H L = some (.lst vs) → Dats X.K H0 vs ds → kd ds M → Q (.ref L) H) :
    DE X (.ListComp elt [⟨tg, iter, ifs, 0⟩] scope pos) wx := by
  obtain ⟨ti, hpi, hti⟩ := hi.run
  refine de_of (pe_lc (tt := liftT X.K wt) (te := liftE X.K we) hc hN hpi ok (fun s H C cl fp => (hg s H C cl fp).pg) (fun s H C cl fp => (ht s H C cl fp).run) (fun s H C cl fp => (he s H C cl fp).run) hs) fun σ H Q Γ Fr H0 M k h1 h2 h3 h4 => ?_
  obtain ⟨kd, h3, hk⟩ := hx Γ M k h3
  refine hti σ H Γ Fr H0 M _ _ h1 h2 h3 fun J its G H1 H0' M' e1 w1 q1 wk L hL => ?_
  exact lc_heart (Qd := fun L H => Q (.ref L) H) (ti := ti) (wi := wi) hgd ho (h1.mono e1) w1 wk q1 hL fun H2 H' M2 ds vs' e2 w2 n1 n2 n3 n4 rd qk => hk Fr H2 H' M2 ds vs' L Q (h4.mono (e1.trans e2)) w2 n1 n2 n3 n4 rd qk
theorem de_lc {elt tg iter : Expr} {ifs : List Expr} {scope : Scope} {own : List (Str × Nat)} {pos : Pos} {wi : WI} {g : TG} {ow : List Nat} {gd : D → Env → Option Env} {wt : WT} {we : WE} (hc : X.calm = true) (hN : X.N.Nodup) (hi : DI X tg iter wi) (ok : BlkOk X.N X.env.scope scope own)
    (hg : ∀ (s : Shared) (H : Hp) (C : Addr) (cl : List (Str × Addr)) (fp : List Addr), DG (X.blk s H scope (compEnvC scope cl C X.env) fp) tg g ow gd) (hgd : GD X.K g ow gd)
    (ht : ∀ (s : Shared) (H : Hp) (C : Addr) (cl : List (Str × Addr)) (fp : List Addr), DTs (X.blk s H scope (compEnvC scope cl C X.env) fp) ifs wt)
    (he : ∀ (s : Shared) (H : Hp) (C : Addr) (cl : List (Str × Addr)) (fp : List Addr), DE (X.blk s H scope (compEnvC scope cl C X.env) fp) elt we)
    (ho : ∀ i ∈ ow, i ∈ own.map (·.2) := by decide) (hs : ∀ x, foldedSetIterable iter X.env x = pure x := by intro _; rfl) : DE X (.ListComp elt [⟨tg, iter, ifs, 0⟩] scope pos) (wLc wi gd wt we (own.map (·.2))) :=
  de_lcX hc hN hi ok hg hgd ht he ho hs fun Γ M k h => ⟨_, h, fun Fr H0 H M ds vs L Q h4 w n1 n2 n3 n4 rd qk =>
    h4 _ (upd H0 L (.lst vs)) H _ M (same_new n1) (w.adopt n1 n2 n3 n4) (.lst upd_same (rd.mono (same_new n1))) qk⟩
/-- name = [..] on one line -/
theorem ds_setLcX {i : Nat} {y : Str} {py : Pos} {elt tg iter : Expr} {ifs : List Expr} {scope : Scope} {own : List (Str × Nat)} {pos spos : Pos} {wi : WI} {g : TG} {ow : List Nat} {gd : D → Env → Option Env} {wt : WT} {we : WE} {wx : WE} (hc : X.calm = true) (hN : X.N.Nodup) (hy : X.N[i]? = some y) (hyl : X.env.scope.names.lookup y = some .local)
    (hsw : swapsWith (.ListComp elt [⟨tg, iter, ifs, 0⟩] scope pos) (some (.Name y py)) spos.line X.env = pure true) (hi : DI X tg iter wi) (ok : BlkOk X.N X.env.scope scope own)
    (hg : ∀ (s : Shared) (H : Hp) (C : Addr) (cl : List (Str × Addr)) (fp : List Addr), DG (X.blk s H scope (compEnvC scope cl C X.env) fp) tg g ow gd) (hgd : GD X.K g ow gd)
    (ht : ∀ (s : Shared) (H : Hp) (C : Addr) (cl : List (Str × Addr)) (fp : List Addr), DTs (X.blk s H scope (compEnvC scope cl C X.env) fp) ifs wt)
    (he : ∀ (s : Shared) (H : Hp) (C : Addr) (cl : List (Str × Addr)) (fp : List Addr), DE (X.blk s H scope (compEnvC scope cl C X.env) fp) elt we)
    (ho : ∀ i ∈ ow, i ∈ own.map (·.2)) (hs : ∀ x, foldedSetIterable iter X.env x = pure x)
    (hx : ∀ Γ M k, wx Γ M k → ∃ kd, wi Γ M (fun its G M1 => lcD gd wt we G (wipeD Γ (own.map (·.2))) its [] M1 kd) ∧ ∀ Fr H0 H M ds vs L Q, Cont X.K Fr H0 k Q → Wd X.K Fr H0 M H → H0 L = none → M L = none → Fr L = none → H L = some (.lst vs) → Dats X.K H0 vs ds → kd ds M → Q (.ref L) H) :
    DS X (.Assign [.Name y py] (.ListComp elt [⟨tg, iter, ifs, 0⟩] scope pos) spos) (wSet i wx) := by
  obtain ⟨ti, hpi, hti⟩ := hi.run
  refine ds_of (ps_setLc (tt := liftT X.K wt) (te := liftE X.K we) hc hN hy hyl hsw hpi ok (fun s H C cl fp => (hg s H C cl fp).pg) (fun s H C cl fp => (ht s H C cl fp).run) (fun s H C cl fp => (he s H C cl fp).run) hs) fun D σ H Γ Fr H0 M k h1 h2 h3 h4 => ?_
  obtain ⟨kd, h3, hk⟩ := hx Γ M _ h3
  refine hti σ H Γ Fr H0 M _ _ h1 h2 h3 fun J its G H1 H0' M' e1 w1 q1 wk L hL => ?_
  refine lc_heart (Qd := fun L H => gName i (.ref L) σ H D.nx) (ti := ti) (wi := wi) hgd ho (h1.mono e1) w1 wk q1 hL fun H2 H' M2 ds vs' e2 w2 n1 n2 n3 n4 rd qk => ?_
  refine hk Fr H2 H' M2 ds vs' L (fun v H => gName i v σ H D.nx) (fun v H3 H'' d M3 e3 w3 r3 q3 => ?_) w2 n1 n2 n3 n4 rd qk
  exact h4.nx _ H3 H'' _ M3 ((e1.trans e2).trans e3) ((h1.mono ((e1.trans e2).trans e3)).set i r3) w3 q3
theorem ds_setLc {i : Nat} {y : Str} {py : Pos} {elt tg iter : Expr} {ifs : List Expr} {scope : Scope} {own : List (Str × Nat)} {pos spos : Pos} {wi : WI} {g : TG} {ow : List Nat} {gd : D → Env → Option Env} {wt : WT} {we : WE} (hc : X.calm = true) (hN : X.N.Nodup) (hi : DI X tg iter wi) (ok : BlkOk X.N X.env.scope scope own)
    (hg : ∀ (s : Shared) (H : Hp) (C : Addr) (cl : List (Str × Addr)) (fp : List Addr), DG (X.blk s H scope (compEnvC scope cl C X.env) fp) tg g ow gd) (hgd : GD X.K g ow gd)
    (ht : ∀ (s : Shared) (H : Hp) (C : Addr) (cl : List (Str × Addr)) (fp : List Addr), DTs (X.blk s H scope (compEnvC scope cl C X.env) fp) ifs wt)
    (he : ∀ (s : Shared) (H : Hp) (C : Addr) (cl : List (Str × Addr)) (fp : List Addr), DE (X.blk s H scope (compEnvC scope cl C X.env) fp) elt we)
    (hsw : swapsWith (.ListComp elt [⟨tg, iter, ifs, 0⟩] scope pos) (some (.Name y py)) spos.line X.env = pure true)
    (hy : X.N[i]? = some y := by rfl) (hyl : X.env.scope.names.lookup y = some .local := by rfl)
    (ho : ∀ i ∈ ow, i ∈ own.map (·.2) := by decide) (hs : ∀ x, foldedSetIterable iter X.env x = pure x := by intro _; rfl) : DS X (.Assign [.Name y py] (.ListComp elt [⟨tg, iter, ifs, 0⟩] scope pos) spos) (wSet i (wLc wi gd wt we (own.map (·.2)))) :=
  ds_setLcX hc hN hy hyl hsw hi ok hg hgd ht he ho hs fun Γ M k h => ⟨_, h, fun Fr H0 H M ds vs L Q h4 w n1 n2 n3 n4 rd qk =>
    h4 _ (upd H0 L (.lst vs)) H _ M (same_new n1) (w.adopt n1 n2 n3 n4) (.lst upd_same (rd.mono (same_new n1))) qk⟩
end
/-! ### a def -/
section
variable {P : Program} {w : World} {K : PySem.W.Frag} {mg : Str → Option Value} {base : Heap}
def startD (N : List Str) (ds : List D) : Env := ds.map some ++ List.replicate (N.length - ds.length) none
theorem slots_start {K : KZ} {H : Hp} {N : List Str} {vs : List V} {ds : List D} (h : Dats K H vs ds) : Slots K H (L2.start N vs) (startD N ds) := by
  have hl := h.length
  refine ⟨by unfold L2.start startD; simp [hl], fun i d e => ?_⟩
  unfold startD at e
  by_cases hi : i < ds.length
  · rw [List.getElem?_append_left (by simpa using hi), List.getElem?_map] at e
    cases q : ds[i]? with
    | none => rw [q] at e; cases e
    | some d' =>
      rw [q] at e; cases e
      obtain ⟨v, e2, r⟩ := h.get q
      refine ⟨v, ?_, r⟩
      unfold L2.start
      rw [List.getElem?_append_left (by simpa [hl] using hi), List.getElem?_map, e2]; rfl
  · rw [List.getElem?_append_right (by simpa using hi)] at e
    have := List.mem_of_getElem? e
    simp at this
abbrev fin (k : KD) : KS := ⟨fun _ M => k .non M, k, fun _ _ => False, fun _ _ => False⟩
theorem Fun.okD {K : PySem.W.Frag} {x qual : Str} {st : Stmt} {f : Addr} {fd : FuncData} {N ps : List Str} {k : Nat} {F : FD} {ws : WS} (Fu : Fun K x qual st f fd) (S : FnScope N ps (defScope st))
    (hbody : ∀ (cdv : Value) (A : Around) (outer : List PySem.Env) (s : Shared) (H : Hp) (E : XK), DG.RoomG k (A.deeper (PyProof.Rows.envOfC qual (defScope st) s.heap.objs.size f cdv)) → DSs (topX (cxOf CX0 P w K mg base N qual (defScope st) f cdv A outer s H E).nox) (defBody st) ws)
    (hw : ∀ ds M kd, F ds M kd → ds.length = ps.length ∧ ws (fin kd) (startD N ds) M) : DFn P w K mg base (k + 1) f fd ps F := by
  refine DG.fnG Fu S (fun vs H Q E h => ?_) (fun cdv A outer s H vs Q E hr h => ?_)
  · obtain ⟨Fr, H0, M, ds, kd, w, r, q, c⟩ := h
    rw [r.length]; exact (hw ds M kd q).1
  · obtain ⟨Fr, H0, M, ds, kd, w, r, q, c⟩ := h
    refine ⟨_, (hbody cdv A outer s H E hr).run.nox, ?_⟩
    refine ⟨startD N ds, Fr, H0, M, fin kd, slots_start r, w, (hw ds M kd q).2, ⟨fun σ' H0' H' Γ' M' e s w q => c .non H0' H' .non M' e w .non q, c, fun _ _ _ _ _ _ _ _ q => q.elim, fun _ _ _ _ _ _ _ _ q => q.elim⟩⟩
end
end DL

set_option autoImplicit false
set_option maxRecDepth 100000
set_option maxHeartbeats 2000000
namespace DL
open PySem L2
section
variable {X : CxZ} {K : KZ} {e a b : Expr} {es : List Expr}

/-! ### + - * // % ** -/
def rdAdd : D → D → Mem → KD → Prop := fun x y M k => match x, y with
  | .int i, .int j => k (.int (i + j)) M
  | .str s, .str t => s.length + t.length ≤ sizeLine ∧ k (.str (s ++ t)) M
  | .tup xs, .tup ys => xs.length + ys.length ≤ sizeLine ∧ k (.tup (xs ++ ys)) M
  | x, y => match asL M x, asL M y with
    | some xs, some ys => xs.length + ys.length ≤ sizeLine ∧ k (.lst (xs ++ ys)) M
    | _, _ => False
theorem dats_nil {H : Hp} {vs : List V} {ds : List D} (h : Dats K H vs ds) : vs = [] ↔ ds = [] := by
  cases h <;> simp
theorem op_addA : ∃ r, OpR X (binaryOp .Add) r ∧ OpD X.K r rdAdd := by
  refine ⟨_, op_add.or (op_add_str.or (op_catA.or op_cat)), fun Fr H0 M H x y vx vy k Q w rx ry h c => ?_⟩
  unfold rdAdd at h
  split at h
  · cases rx; cases ry; exact .inl ⟨_, _, rfl, rfl, c _ H0 H _ M (Same.refl _) w (.int _) h⟩
  · cases rx; cases ry; exact .inr (.inl ⟨_, _, rfl, rfl, h.1, c _ H0 H _ M (Same.refl _) w (.str _) h.2⟩)
  · cases rx with
    | tup hs hd =>
      cases ry with
      | tup hs2 hd2 =>
        rename_i a vs b ws
        refine .inr (.inr (.inl ⟨a, b, vs, ws, rfl, rfl, same_t w.ex hs, same_t w.ex hs2, by rw [hd.length, hd2.length]; exact h.1, fun e => ?_, fun e1 e2 => ?_, fun _ _ p hp => ?_⟩))
        · have : _ = [] := (dats_nil hd).mp e
          subst this
          exact c _ H0 H _ M (Same.refl _) w (.tup hs2 hd2) (by simpa using h.2)
        · have : _ = [] := (dats_nil hd2).mp e2
          subst this
          exact c _ H0 H _ M (Same.refl _) w (.tup hs hd) (by simpa using h.2)
        · exact c _ _ _ _ M (same_new (w.fresh hp)) (w.new hp) (.tup (.of upd_same) ((hd.append hd2).mono (same_new (w.fresh hp)))) h.2
  · split at h
    · rename_i xs ys e1 e2
      obtain ⟨a, vs, rfl, h1, d1⟩ := asL_ok w rx e1
      obtain ⟨b, ws, rfl, h2, d2⟩ := asL_ok w ry e2
      refine .inr (.inr (.inr ⟨a, b, vs, ws, rfl, rfl, h1, h2, by rw [d1.length, d2.length]; exact h.1, fun p hp => ?_⟩))
      exact c _ _ _ _ M (same_new (w.fresh hp)) (w.new hp) (.lst upd_same ((d1.append d2).mono (same_new (w.fresh hp)))) h.2
    · exact h.elim
theorem de_add {wa wb : WE} {pos : Pos} (ha : DE X a wa) (hb : DE X b wb) : DE X (.BinOp a .Add b pos) (wOp rdAdd wa wb) := by
  obtain ⟨r, h1, h2⟩ := op_addA (X := X)
  exact de_op h1 h2 ha hb
/-- two ints under a condition -/
def rdI (C : Int → Int → Prop) (g : Int → Int → D) : D → D → Mem → KD → Prop := fun x y M k => match x, y with | .int i, .int j => C i j ∧ k (g i j) M | _, _ => False
theorem opd_I {C : Int → Int → Prop} {g : Int → Int → V} {g' : Int → Int → D} (hg : ∀ i j H, Dat K H (g i j) (g' i j)) : OpD K (rI C g) (rdI C g') := fun Fr H0 M H x y vx vy k Q w rx ry h c => by
  unfold rdI at h
  split at h
  · cases rx; cases ry; exact ⟨_, _, rfl, rfl, h.1, c _ H0 H _ M (Same.refl _) w (hg _ _ _) h.2⟩
  · exact h.elim
def rdI0 (g : Int → Int → D) : D → D → Mem → KD → Prop := fun x y M k => match x, y with | .int i, .int j => k (g i j) M | _, _ => False
theorem opd_I0 {g : Int → Int → V} {g' : Int → Int → D} (hg : ∀ i j H, Dat K H (g i j) (g' i j)) : OpD K (rI0 g) (rdI0 g') := fun Fr H0 M H x y vx vy k Q w rx ry h c => by
  unfold rdI0 at h
  split at h
  · cases rx; cases ry; exact ⟨_, _, rfl, rfl, c _ H0 H _ M (Same.refl _) w (hg _ _ _) h⟩
  · exact h.elim
theorem de_sub {wa wb : WE} {pos : Pos} (ha : DE X a wa) (hb : DE X b wb) : DE X (.BinOp a .Sub b pos) (wOp (rdI0 fun i j => .int (i - j)) wa wb) := de_op op_sub (opd_I0 fun _ _ _ => .int _) ha hb
theorem de_mul {wa wb : WE} {pos : Pos} (ha : DE X a wa) (hb : DE X b wb) : DE X (.BinOp a .Mult b pos) (wOp (rdI CMul fun i j => .int (i * j)) wa wb) := de_op op_mul (opd_I fun _ _ _ => .int _) ha hb
/-- by a positive divisor below 2 ^ 30 -/
theorem de_div {wa wb : WE} {pos : Pos} (ha : DE X a wa) (hb : DE X b wb) : DE X (.BinOp a .FloorDiv b pos) (wOp (rdI CDiv fun i j => .int (i / j)) wa wb) := de_op op_fdiv (opd_I fun _ _ _ => .int _) ha hb
theorem de_mod {wa wb : WE} {pos : Pos} (ha : DE X a wa) (hb : DE X b wb) : DE X (.BinOp a .Mod b pos) (wOp (rdI (fun _ j => 0 < j) fun i j => .int (i % j)) wa wb) := de_op op_mod (opd_I fun _ _ _ => .int _) ha hb
theorem de_pow {wa wb : WE} {pos : Pos} (ha : DE X a wa) (hb : DE X b wb) : DE X (.BinOp a .Pow b pos) (wOp (rdI CPow fun i j => .int (i ^ j.toNat)) wa wb) := de_op op_pow (opd_I fun _ _ _ => .int _) ha hb
def rdU (g : Int → D) : D → Mem → KD → Prop := fun x M k => match x with | .int i => k (g i) M | _ => False
def wUn (rd : D → Mem → KD → Prop) (wa : WE) : WE := fun Γ M k => wa Γ M fun x M1 => rd x M1 k
theorem de_neg {wa : WE} {pos : Pos} (ha : DE X a wa) : DE X (.UnaryOp .USub a pos) (wUn (rdU fun i => .int (-i)) wa) :=
  de_of (pe_un un_neg ha.run) fun σ H Q Γ Fr H0 M k h1 h2 h3 h4 => ⟨Γ, Fr, H0, M, _, h1, h2, h3, fun v H1 H' d M' e1 w1 r1 q1 => by
    unfold rdU at q1
    split at q1
    · cases r1; exact ⟨_, rfl, h4 _ H1 H' _ M' e1 w1 (.int _) q1⟩
    · exact q1.elim⟩

/-! ### comparisons -/
def rdOrd (p : Int → Int → Bool) (q : Str → Str → Bool) : D → D → Mem → KD → Prop := fun x y M k => match x, y with
  | .int i, .int j => k (.bl (p i j)) M
  | .str i, .str j => k (.bl (q i j)) M
  | _, _ => False
theorem opd_ord {p : Int → Int → Bool} {q : Str → Str → Bool} {r r' : R2} (h : ∀ i j H (Q : VK), Q (.bl (p i j)) H → r (.int i) (.int j) H Q) (h' : ∀ i j H (Q : VK), Q (.bl (q i j)) H → r' (.str i) (.str j) H Q) : OpD K (fun x y H Q => r x y H Q ∨ r' x y H Q) (rdOrd p q) := fun Fr H0 M H x y vx vy k Q w rx ry z c => by
  unfold rdOrd at z
  split at z
  · cases rx; cases ry; exact .inl (h _ _ _ _ (c _ H0 H _ M (Same.refl _) w (.bl _) z))
  · cases rx; cases ry; exact .inr (h' _ _ _ _ (c _ H0 H _ M (Same.refl _) w (.bl _) z))
  · exact z.elim
abbrev rdLt := rdOrd (fun i j => decide (i < j)) (fun i j => decide (i.cps.toList < j.cps.toList))
abbrev rdLe := rdOrd (fun i j => decide (i ≤ j)) (fun i j => !decide (j.cps.toList < i.cps.toList))
theorem op_ltA : ∃ r, OpR X (compareOp .Lt) r ∧ OpD X.K r rdLt := ⟨_, op_lt.or op_lt_str, opd_ord (fun _ _ _ _ z => ⟨_, _, rfl, rfl, z⟩) fun _ _ _ _ z => ⟨_, _, rfl, rfl, z⟩⟩
theorem op_leA : ∃ r, OpR X (compareOp .LtE) r ∧ OpD X.K r rdLe := ⟨_, op_le.or op_le_str, opd_ord (fun _ _ _ _ z => ⟨_, _, rfl, rfl, z⟩) fun _ _ _ _ z => ⟨_, _, rfl, rfl, z⟩⟩
abbrev rdGt := rdOrd (fun i j => decide (j < i)) (fun i j => decide (j.cps.toList < i.cps.toList))
abbrev rdGe := rdOrd (fun i j => decide (j ≤ i)) (fun i j => !decide (i.cps.toList < j.cps.toList))
theorem op_gtA : ∃ r, OpR X (compareOp .Gt) r ∧ OpD X.K r rdGt := ⟨_, op_gt.or op_gt_str, opd_ord (fun _ _ _ _ z => ⟨_, _, rfl, rfl, z⟩) fun _ _ _ _ z => ⟨_, _, rfl, rfl, z⟩⟩
theorem op_geA : ∃ r, OpR X (compareOp .GtE) r ∧ OpD X.K r rdGe := ⟨_, op_ge.or op_ge_str, opd_ord (fun _ _ _ _ z => ⟨_, _, rfl, rfl, z⟩) fun _ _ _ _ z => ⟨_, _, rfl, rfl, z⟩⟩

mutual
/-- what == looks at -/
def toP (M : Mem) : D → Option PyData
  | .non => some .none
  | .bl b => some (.bool b)
  | .int i => some (.int i)
  | .str s => some (.str s)
  | .tup ds => match toPs M ds with | some ps => some (.tuple ps) | none => none
  | .lst ds => match toPs M ds with | some ps => some (.list ps) | none => none
  | _ => none
def toPs (M : Mem) : List D → Option (List PyData)
  | [] => some []
  | d :: ds => match toP M d, toPs M ds with | some p, some ps => some (p :: ps) | _, _ => none
end
/-- a cell at the outmost place -/
def toPC (M : Mem) : D → Option PyData
  | .cel a => match M a with | some (.lst ds) => (match toPs M ds with | some ps => some (.list ps) | none => none) | _ => none
  | d => toP M d
mutual
theorem toP_ok {Fr H0 H : Hp} {M : Mem} (w : Wd K Fr H0 M H) : ∀ (d : D) (v : V) (p : PyData), Dat K H0 v d → toP M d = some p → Dp K H v p
  | .non, _, _, .non, e => by cases e; exact .non
  | .bl _, _, _, .bl b, e => by cases e; exact .bl b
  | .int _, _, _, .int b, e => by cases e; exact .int b
  | .str _, _, _, .str b, e => by cases e; exact .str b
  | .tup ds, _, _, .tup hs hd, e => by
    unfold toP at e
    split at e
    · rename_i ps q; cases e; exact .tup (same_t w.ex hs) (toPs_ok w ds _ ps hd q)
    · cases e
  | .lst ds, _, _, .lst hs hd, e => by
    unfold toP at e
    split at e
    · rename_i ps q; cases e; exact .lst (.of (w.ex _ _ hs)) (toPs_ok w ds _ ps hd q)
    · cases e
  | .scr _, _, _, _, e => by cases e
  | .cel _, _, _, _, e => by cases e
  | .ty _, _, _, _, e => by cases e
  | .ftp _, _, _, _, e => by cases e
theorem toPs_ok {Fr H0 H : Hp} {M : Mem} (w : Wd K Fr H0 M H) : ∀ (ds : List D) (vs : List V) (ps : List PyData), Dats K H0 vs ds → toPs M ds = some ps → DpAll K H vs ps
  | [], _, _, .nil, e => by cases e; exact .nil
  | d :: ds, _, _, .cons h hs, e => by
    unfold toPs at e
    split at e
    · rename_i p ps q1 q2; cases e; exact .cons (toP_ok w d _ p h q1) (toPs_ok w ds _ ps hs q2)
    · cases e
end
theorem toPC_ok {Fr H0 H : Hp} {M : Mem} (w : Wd K Fr H0 M H) {d : D} {v : V} {p : PyData} (r : Dat K H0 v d) (e : toPC M d = some p) : Dp K H v p := by
  cases d with
  | cel a =>
    unfold toPC at e
    simp only at e
    split at e
    · rename_i ds q
      obtain ⟨a', vs, rfl, h1, h2⟩ := asL_ok (ds := ds) w r (by unfold asL; simp only [q])
      split at e
      · rename_i ps q2; cases e; exact .lst (.of h1) (toPs_ok w ds _ ps h2 q2)
      · cases e
    · cases e
  | _ => exact toP_ok w _ v p r e
def rdEqP (f : Bool → Bool) : D → D → Mem → KD → Prop := fun x y M k => match toPC M x, toPC M y with
  | some p, some q => SeqAt.shaped p = true ∧ SeqAt.shaped q = true ∧ k (.bl (f (PyData.eqv p q))) M
  | _, _ => False
def rdEq (f : Bool → Bool) : D → D → Mem → KD → Prop := fun x y M k => match x, y with
  | .str s, .str t => k (.bl (f (decide (s = t)))) M
  | x, y => rdEqP f x y M k
theorem str_dec {s t : Str} : decide (V.str s = V.str t) = decide (s = t) := by rw [decide_eq_decide]; simp
theorem opd_eqP : OpD K (rEqD K) (rdEqP id) := fun Fr H0 M H x y vx vy k Q w rx ry h c => by
  unfold rdEqP at h
  split at h
  · rename_i p q e1 e2
    exact ⟨p, q, toPC_ok w rx e1, toPC_ok w ry e2, h.1, h.2.1, c _ H0 H _ M (Same.refl _) w (.bl _) h.2.2⟩
  · exact h.elim
theorem opd_neP : OpD K (rNeD K) (rdEqP not) := fun Fr H0 M H x y vx vy k Q w rx ry h c => by
  unfold rdEqP at h
  split at h
  · rename_i p q e1 e2
    exact ⟨p, q, toPC_ok w rx e1, toPC_ok w ry e2, h.1, h.2.1, c _ H0 H _ M (Same.refl _) w (.bl _) h.2.2⟩
  · exact h.elim
theorem opd_eq : OpD K (fun x y H Q => rEq x y H Q ∨ rEqD K x y H Q) (rdEq id) := fun Fr H0 M H x y vx vy k Q w rx ry h c => by
  unfold rdEq at h
  split at h
  · cases rx; cases ry
    exact .inl ⟨rfl, by rw [str_dec]; exact c _ H0 H _ M (Same.refl _) w (.bl _) h⟩
  · exact .inr (opd_eqP Fr H0 M H _ _ _ _ k Q w rx ry h c)
theorem opd_ne : OpD K (fun x y H Q => rNe x y H Q ∨ rNeD K x y H Q) (rdEq not) := fun Fr H0 M H x y vx vy k Q w rx ry h c => by
  unfold rdEq at h
  split at h
  · cases rx; cases ry
    exact .inl ⟨rfl, by rw [str_dec]; exact c _ H0 H _ M (Same.refl _) w (.bl _) h⟩
  · exact .inr (opd_neP Fr H0 M H _ _ _ _ k Q w rx ry h c)
/-- is None, of types, of truths -/
def rdIs (f : Bool → Bool) : D → D → Mem → KD → Prop := fun x y M k => match x, y with
  | .ty m, .ty n => k (.bl (f (decide (m = n)))) M
  | .bl m, .bl n => k (.bl (f (decide (m = n)))) M
  | .non, .non => k (.bl (f true)) M
  | .bl _, .non => k (.bl (f false)) M
  | .int _, .non => k (.bl (f false)) M
  | .str _, .non => k (.bl (f false)) M
  | .tup _, .non => k (.bl (f false)) M
  | .lst _, .non => k (.bl (f false)) M
  | .cel _, .non => k (.bl (f false)) M
  | _, _ => False
theorem op_isA : ∃ r, OpR X (compareOp .Is) r ∧ OpD X.K r (rdIs id) := ⟨_, op_isTyB.or (op_isBl.or op_isN), fun Fr H0 M H x y vx vy k Q w rx ry h c => by
  unfold rdIs at h
  split at h
  · cases rx; cases ry; exact .inl ⟨_, _, rfl, rfl, c _ H0 H _ M (Same.refl _) w (.bl _) h⟩
  · cases rx; cases ry; exact .inr (.inl ⟨_, _, rfl, rfl, c _ H0 H _ M (Same.refl _) w (.bl _) h⟩)
  all_goals first
    | exact h.elim
    | (cases ry; cases rx <;> exact .inr (.inr ⟨rfl, c _ H0 H _ M (Same.refl _) w (.bl _) h⟩))⟩
def seqD (M : Mem) : D → Option (List D)
  | .tup ds => some ds
  | d => asR M d
theorem seqD_ok {Fr H0 H : Hp} {M : Mem} {v : V} {d : D} {ds : List D} (w : Wd K Fr H0 M H) (r : Dat K H0 v d) (h : seqD M d = some ds) : ∃ a vs, v = .ref a ∧ (SqL K H a vs ∨ SqT K H a vs) ∧ Dats K H0 vs ds := by
  cases d with
  | tup ds => cases h; cases r with | tup hs hd => exact ⟨_, _, rfl, .inr (same_t w.ex hs), hd⟩
  | _ => obtain ⟨a, vs, e, h1, h2⟩ := asR_ok (ds := ds) w r (by exact h); exact ⟨a, vs, e, .inl h1, h2⟩
/-! ### subscripts -/
def rdIx : D → D → Mem → KD → Prop := fun x y M k => match y with
  | .int i => (match x with
    | .str z => z.length ≤ sizeLine ∧ (match atI z.cps.toList i with | some c => k (.str ⟨#[c]⟩) M | none => False)
    | x => match seqD M x with | some ds => (match atI ds i with | some d => k d M | none => False) | none => False)
  | _ => False
theorem atI_dats {H : Hp} {vs : List V} {ds : List D} {i : Int} {d : D} (h : Dats K H vs ds) (e : atI ds i = some d) : ∃ v, atI vs i = some v ∧ Dat K H v d := by
  unfold atI at e ⊢
  rw [h.length]
  cases q : ixN ds.length i with
  | none => rw [q] at e; cases e
  | some j =>
    rw [q] at e
    obtain ⟨v, h1, h2⟩ := h.get (i := j) e
    exact ⟨v, h1, h2⟩
theorem opd_ix : OpD K (rIx K) rdIx := fun Fr H0 M H x y vx vy k Q w rx ry h c => by
  unfold rdIx at h
  split at h
  · rename_i i
    cases ry
    split at h
    · rename_i z
      cases rx
      obtain ⟨hz, h⟩ := h
      split at h
      · rename_i c' e; exact .inr (.inr ⟨_, _, _, rfl, rfl, hz, e, c _ H0 H _ M (Same.refl _) w (.str _) h⟩)
      · exact h.elim
    · split at h
      · rename_i ds e
        obtain ⟨a, vs, rfl, hs, hd⟩ := seqD_ok w rx e
        split at h
        · rename_i d e2
          obtain ⟨v, h1, h2⟩ := atI_dats hd e2
          rcases hs with hs | hs
          · exact .inl ⟨a, vs, _, v, rfl, rfl, hs, h1, c _ H0 H _ M (Same.refl _) w h2 h⟩
          · exact .inr (.inl ⟨a, vs, _, v, rfl, rfl, hs, h1, c _ H0 H _ M (Same.refl _) w h2 h⟩)
        · exact h.elim
      · exact h.elim
  · exact h.elim
theorem de_ix {wa wb : WE} {pos : Pos} (ha : DE X a wa) (hb : DE X b wb) (hs : PlainIx b := by exact fun _ _ => rfl) : DE X (.Subscript a b pos) (wOp rdIx wa wb) :=
  de_of (pe_ix ix_seq ha.run hb.run hs) fun _ _ _ _ _ _ _ _ h1 h2 h3 h4 => lift_op opd_ix h1 h2 h3 h4
/-- d[k] -/
def keyD : D → Option Key
  | .int i => some (.inl i)
  | .str s => some (.inr s)
  | _ => none
def lookD (kvs : List (Key × D)) (k : Key) : Option D := (kvs.find? fun kv => decide (kv.1 = k)).map (·.2)
def rdGet : D → D → Mem → KD → Prop := fun x y M k => match x with
  | .cel a => (match M a with
    | some (.dct kvs) => (match keyD y with
      | some κ => (match lookD kvs κ with | some d => k d M | none => False)
      | none => False)
    | _ => False)
  | _ => False
def wGet (wa wb : WE) : WE := wOp rdGet wa wb
/-- slices -/
abbrev WO := Env → Mem → (Option Int → Mem → Prop) → Prop
def liftO (K : KZ) (w : WO) : TO := fun σ H Q => ∃ Γ Fr H0 M k, Slots K H0 σ Γ ∧ Wd K Fr H0 M H ∧ w Γ M k ∧ ∀ o H0' H' M', Same H0 H0' → Wd K Fr H0' M' H' → k o M' → Q o H'
structure DO (X : CxZ) (e : Option Expr) (w : WO) : Prop where
  run : PO X e (liftO X.K w)
def woNone : WO := fun _ M k => k none M
def woSome (w : WE) : WO := fun Γ M k => w Γ M fun d M1 => match d with | .int i => k (some i) M1 | _ => False
theorem do_none : DO X none woNone := ⟨⟨fun pins s σ H Q I ⟨Γ, Fr, H0, M, k, h1, h2, h3, h4⟩ => po_none.run pins s σ H Q I (h4 none H0 H M (Same.refl _) h2 h3)⟩⟩
theorem do_some {w : WE} (h : DE X e w) : DO X (some e) (woSome w) := ⟨⟨fun pins s σ H Q I ⟨Γ, Fr, H0, M, k, h1, h2, h3, h4⟩ => (po_some h.run).run pins s σ H Q I ⟨Γ, Fr, H0, M, _, h1, h2, h3, fun v H1 H' d M' e1 w1 r1 q1 => by
  split at q1
  · cases r1; exact ⟨_, rfl, h4 _ H1 H' M' e1 w1 q1⟩
  · exact q1.elim⟩⟩⟩
def cutD {α : Type} (xs : List α) (lo hi : Option Int) : List α := (xs.drop (HT.sIx xs.length 0 lo)).take (HT.sIx xs.length xs.length hi - HT.sIx xs.length 0 lo)
theorem cut_dats {H : Hp} {vs : List V} {ds : List D} (h : Dats K H vs ds) (lo hi : Option Int) : Dats K H (cutV vs lo hi) (cutD ds lo hi) := by
  unfold cutV cutD; rw [h.length]; exact (h.drop _).take _
def rdSl : D → Option Int → Option Int → Mem → KD → Prop := fun x lo hi M k => match x with
  | .tup ds => k (.tup (cutD ds lo hi)) M
  | .str z => z.length ≤ sizeLine ∧ k (.str (cutS z lo hi)) M
  | x => match asR M x with | some ds => k (.lst (cutD ds lo hi)) M | none => False
def wSl (we : WE) (wl wh : WO) : WE := fun Γ M k => we Γ M fun x M1 => wl Γ M1 fun lo M2 => wh Γ M2 fun hi M3 => rdSl x lo hi M3 k
theorem cutD_whole {α : Type} {xs : List α} {lo hi : Option Int} (h : HT.sIx xs.length 0 lo = 0 ∧ HT.sIx xs.length xs.length hi = xs.length) : cutD xs lo hi = xs := by
  unfold cutD; rw [h.1, h.2]; simp
theorem de_slice {lo hi : Option Expr} {we : WE} {wl wh : WO} {pos p2 : Pos} (he : DE X e we) (hl : DO X lo wl) (hh : DO X hi wh) : DE X (.Subscript e (.Slice lo hi none p2) pos) (wSl we wl wh) :=
  de_of (pe_slice (sl_tupA.or (sl_str.or sl_list)) he.run hl.run hh.run) fun σ H Q Γ Fr H0 M k h1 h2 h3 h4 => by
    refine ⟨Γ, Fr, H0, M, _, h1, h2, h3, fun v H1 H' d M' e1 w1 r1 q1 => ?_⟩
    refine ⟨Γ, Fr, H1, M', _, h1.mono e1, w1, q1, fun l H2 H'' M'' e2 w2 q2 => ?_⟩
    refine ⟨Γ, Fr, H2, M'', _, h1.mono (e1.trans e2), w2, q2, fun u H3 H''' M3 e3 w3 q3 => ?_⟩
    have r3 := r1.mono (e2.trans e3)
    have c3 := h4.mono ((e1.trans e2).trans e3)
    unfold rdSl at q3
    split at q3
    · cases r3 with
      | tup hs hd =>
        rename_i a vs
        refine .inl ⟨a, vs, rfl, same_t w3.ex hs, fun hw => ?_, fun _ p hp => ?_⟩
        · rw [hd.length] at hw
          rw [cutD_whole hw] at q3
          exact c3 _ H3 H''' _ M3 (Same.refl _) w3 (.tup hs hd) q3
        · exact c3 _ _ _ _ M3 (same_new (w3.fresh hp)) (w3.new hp) (.tup (.of upd_same) ((cut_dats hd _ _).mono (same_new (w3.fresh hp)))) q3
    · cases r3; exact .inr (.inl ⟨_, rfl, q3.1, c3 _ H3 H''' _ M3 (Same.refl _) w3 (.str _) q3.2⟩)
    · split at q3
      · rename_i ds ed
        obtain ⟨a, vs, rfl, hs, hd⟩ := asR_ok w3 r3 ed
        exact .inr (.inr ⟨a, vs, rfl, hs, fun p hp => c3 _ _ _ _ M3 (same_new (w3.fresh hp)) (w3.new hp) (.lst upd_same ((cut_dats hd _ _).mono (same_new (w3.fresh hp)))) q3⟩)
      · exact q3.elim
/-! ### stores into a list -/
def rdSt (x y v : D) (M : Mem) (k : Mem → Prop) : Prop := match x, y with
  | .cel a, .int i => (match M a with
    | some (.lst ds) => (match ixN ds.length i with | some j => k (setM M a (.lst (ds.set j v))) | none => False)
    | _ => False)
  | _, _ => False
def wSub (wa wi wv : WE) : WS := fun k Γ M => wv Γ M fun v M1 => wa Γ M1 fun x M2 => wi Γ M2 fun y M3 => rdSt x y v M3 (k.nx Γ)
theorem ds_sub {o i v : Expr} {wa wi wv : WE} {pos' pos : Pos} (ho : DE X o wa) (hi : DE X i wi) (hv : DE X v wv)
    (ha : ∀ v, assign (.Subscript o i pos') X.env v = (do
      let ov ← holding [v] (eval o X.env)
      let iv ← holding [v, ov] (eval i X.env)
      standAt pos'
      holding [v, ov, iv] (setItem ov iv v)
      release [v, ov, iv] []) := by intro _; rfl) (hs : swapsWithSole [.Subscript o i pos'] v pos.line X.env = pure false := by rfl) (hw : swappedStores [.Subscript o i pos'] v X.env = pure none := by rfl)
    (h1 : (assignEach [.Subscript o i pos'] X.env).map (·.2) = [assign (.Subscript o i pos') X.env] := by rfl) : DS X (.Assign [.Subscript o i pos'] v pos) (wSub wa wi wv) :=
  ds_of (ps_asg hv.run (pg_sub ho.run hi.run set_list ha) hs hw h1) fun D σ H Γ Fr H0 M k h1 h2 h3 h4 => by
    refine ⟨Γ, Fr, H0, M, _, h1, h2, h3, fun v H1 H' d M' e1 w1 r1 q1 => ?_⟩
    refine ⟨Γ, Fr, H1, M', _, h1.mono e1, w1, q1, fun x H2 H'' dx M2 e2 w2 r2 q2 => ?_⟩
    refine ⟨Γ, Fr, H2, M2, _, h1.mono (e1.trans e2), w2, q2, fun y H3 H''' dy M3 e3 w3 r3 q3 => ?_⟩
    unfold rdSt at q3
    split at q3
    · rename_i a i
      split at q3
      · rename_i ds e
        split at q3
        · rename_i j ej
          obtain ⟨_, o, ho, ck⟩ := w3.mem a _ e
          cases ck with
          | lst hd =>
            cases r2; cases r3
            refine ⟨a, _, i, j, rfl, rfl, ho, by rw [hd.length]; exact ej, ?_⟩
            exact h4.nx σ H3 _ Γ _ ((e1.trans e2).trans e3) (h1.mono ((e1.trans e2).trans e3)) (w3.set e (.lst (hd.set (r1.mono (e2.trans e3)) j))) q3
        · exact q3.elim
      · exact q3.elim
    · exact q3.elim

/-! ### methods of lists -/
def MtD (K : KZ) (r : V → List V → Hp → VK → Prop) (rd : D → List D → Mem → KD → Prop) : Prop :=
  ∀ Fr H0 M H v d vs ds k Q, Wd K Fr H0 M H → Dat K H0 v d → Dats K H0 vs ds → rd d ds M k → Cont K Fr H0 k Q → r v vs H Q
def isCel (M : Mem) : D → Prop | .cel a => ∃ ds, M a = some (.lst ds) | _ => False
def wMt (rd : D → List D → Mem → KD → Prop) (wo : WE) (wa : WA) : WE := fun Γ M k => wo Γ M fun d M1 => isCel M1 d ∧ wa Γ M1 fun ds M2 => rd d ds M2 k
theorem de_mt {o : Expr} {name : Str} {id : String} {apos cpos : Pos} {wo : WE} {wa : WA} {r : V → List V → Hp → VK → Prop} {rd : D → List D → Mem → KD → Prop} (slot : Slot "list" name id) (hty : typeOf (.builtin id) = pure (.type "method_descriptor")) (hm : MtR X id r) (hd : MtD X.K r rd) (ho : DE X o wo) (ha : DA X (e :: es) wa)
    (hbase : attributeBase o name X.env (eval o X.env) = eval o X.env := by rfl)
    (hfew : ((backTo cpos (starEach (e :: es) X.env)).all (fun x => !x.1) && (backToKw cpos (keywordEach [] X.env)).all (fun x => x.1.isSome)
      && decide ((e :: es).length + ([] : List Keyword).length + (if ([] : List Keyword).isEmpty then 0 else 1) < 30)) = true := by rfl)
    (hline : (apos.endLine == cpos.line) = true := by rfl) (hs : starEach (e :: es) X.env = (false, eval e X.env) :: starEach es X.env := by rfl) (hplain : (backTo cpos (starEach es X.env)).any (·.1) = false := by rfl) :
    DE X (.Call (.Attribute o name apos) (e :: es) [] cpos) (wMt rd wo wa) :=
  de_of (pe_bm PySem.F.plainAttrs_list slot hty hm ho.run ha.run hbase hfew hline hs hplain) fun σ H Q Γ Fr H0 M k h1 h2 h3 h4 => by
    refine ⟨Γ, Fr, H0, M, _, h1, h2, h3, fun v H1 H' d M' e1 w1 r1 q1 => ?_⟩
    obtain ⟨qc, q1⟩ := q1
    refine ⟨?_, Γ, Fr, H1, M', _, h1.mono e1, w1, q1, fun vs H2 H'' ds M2 e2 w2 r2 q2 => hd Fr H2 M2 H'' v d vs ds k Q w2 (r1.mono e2) r2 q2 (h4.mono (e1.trans e2))⟩
    cases d with
    | cel a =>
      obtain ⟨ds, hc⟩ := qc
      obtain ⟨a', vs, e3, e4, e5⟩ := asL_ok (ds := ds) w1 r1 (by unfold asL; simp only [hc])
      subst e3
      exact .inl ⟨rfl, _, .of e4⟩
    | _ => exact qc.elim
def rdAppend : D → List D → Mem → KD → Prop := fun x ds M k => match x, ds with
  | .cel a, [y] => (match M a with | some (.lst xs) => xs.length < sizeLine ∧ k .non (setM M a (.lst (xs ++ [y]))) | _ => False)
  | _, _ => False
theorem mtd_append : MtD K rAppend rdAppend := fun Fr H0 M H v d vs ds k Q w r rs h c => by
  cases d with
  | cel a =>
    match ds, rs, h with
    | [y], rs, h =>
      simp only [rdAppend] at h
      split at h
      · rename_i xs e
        obtain ⟨u, rfl, ru⟩ := dats1 rs
        obtain ⟨_, o, ho, ck⟩ := w.mem a _ e
        cases ck with
        | lst hd => cases r; exact ⟨a, _, u, rfl, rfl, ho, by rw [hd.length]; exact h.1, c _ H0 _ _ _ (Same.refl _) (w.set e (.lst (hd.append (.one ru)))) .non h.2⟩
      · exact h.elim
  | _ => exact h.elim
theorem de_append {o : Expr} {apos cpos : Pos} {wo we : WE} (ho : DE X o wo) (he : DE X e we)
    (hs : starEach [e] X.env = [(false, eval e X.env)] := by rfl)
    (hbase : attributeBase o "append" X.env (eval o X.env) = eval o X.env := by rfl)
    (hfew : ((backTo cpos (starEach [e] X.env)).all (fun x => !x.1) && (backToKw cpos (keywordEach [] X.env)).all (fun x => x.1.isSome)
      && decide ([e].length + ([] : List Keyword).length + (if ([] : List Keyword).isEmpty then 0 else 1) < 30)) = true := by rfl)
    (hline : (apos.endLine == cpos.line) = true := by rfl) (hplain : (backTo cpos (starEach [] X.env)).any (·.1) = false := by rfl) : DE X (.Call (.Attribute o "append" apos) [e] [] cpos) (wMt rdAppend wo (wCons we wNil)) :=
  de_mt PySem.F.slot_list_append PySem.F.type_list_append mt_append mtd_append ho (da_cons he da_nil hs) hbase hfew hline hs hplain
def rdPopAt : D → List D → Mem → KD → Prop := fun x ds M k => match x, ds with
  | .cel a, [.int i] => (match M a with
    | some (.lst xs) => (-(2 ^ 63) ≤ i ∧ i < 2 ^ 63) ∧ (match seqIndex? i xs.length with
      | some j => (match xs[j]? with | some y => k y (setM M a (.lst (xs.eraseIdx j))) | none => False)
      | none => False)
    | _ => False)
  | _, _ => False
theorem mtd_popAt : MtD K rPopAt rdPopAt := fun Fr H0 M H v d vs ds k Q w r rs h c => by
  cases d with
  | cel a =>
    match ds, rs, h with
    | [.int i], rs, h =>
      simp only [rdPopAt] at h
      split at h
      · rename_i xs e
        obtain ⟨hb, h⟩ := h
        split at h
        · rename_i j ej
          split at h
          · rename_i y ey
            obtain ⟨u, rfl, ru⟩ := dats1 rs
            cases ru
            obtain ⟨_, o, ho, ck⟩ := w.mem a _ e
            cases ck with
            | lst hd =>
              cases r
              obtain ⟨u, e1, ru⟩ := hd.get ey
              exact ⟨a, _, i, j, u, rfl, rfl, ho, hb.1, hb.2, by rw [hd.length]; exact ej, e1, c _ H0 _ _ _ (Same.refl _) (w.set e (.lst (hd.eraseIdx j))) ru h⟩
          · exact h.elim
        · exact h.elim
      · exact h.elim
  | _ => exact h.elim
theorem de_popAt {o : Expr} {apos cpos : Pos} {wo we : WE} (ho : DE X o wo) (he : DE X e we)
    (hs : starEach [e] X.env = [(false, eval e X.env)] := by rfl)
    (hbase : attributeBase o "pop" X.env (eval o X.env) = eval o X.env := by rfl)
    (hfew : ((backTo cpos (starEach [e] X.env)).all (fun x => !x.1) && (backToKw cpos (keywordEach [] X.env)).all (fun x => x.1.isSome)
      && decide ([e].length + ([] : List Keyword).length + (if ([] : List Keyword).isEmpty then 0 else 1) < 30)) = true := by rfl)
    (hline : (apos.endLine == cpos.line) = true := by rfl) (hplain : (backTo cpos (starEach [] X.env)).any (·.1) = false := by rfl) : DE X (.Call (.Attribute o "pop" apos) [e] [] cpos) (wMt rdPopAt wo (wCons we wNil)) :=
  de_mt PySem.F.slot_list_pop PySem.F.type_list_pop mt_popAt mtd_popAt ho (da_cons he da_nil hs) hbase hfew hline hs hplain
/-- sep.join(texts) -/
def strsD : List D → Option (List Str)
  | [] => some []
  | .str s :: ds => match strsD ds with | some l => some (s :: l) | none => none
  | _ => none
def wJoin (wo we : WE) : WE := fun Γ M k => wo Γ M fun x M1 => match x with
  | .str a => we Γ M1 fun y M2 => (match seqD M2 y with
    | some ds => (match strsD ds with | some l => (l.map (·.length)).sum + l.length * a.length ≤ 16777216 ∧ k (.str (Txt.join a l)) M2 | none => False)
    | none => False)
  | _ => False
/-! ### built-ins -/
def rdLen : FD := fun ds M k => match ds with
  | [.str z] => z.length ≤ sizeLine ∧ k (.int z.length) M
  | [x] => (match seqD M x with | some xs => k (.int xs.length) M | none => False)
  | _ => False
theorem calld_len : CallD K (fun xs H Q => (∃ z, xs = [V.str z] ∧ z.length ≤ sizeLine ∧ Q (.int z.length) H) ∨ ∃ p ys, xs = [V.ref p] ∧ (SqL K H p ys ∨ SqT K H p ys) ∧ Q (.int ys.length) H) rdLen := fun Fr H0 M H vs ds k Q w r h c => by
  unfold rdLen at h
  split at h
  · obtain ⟨v, rfl, rv⟩ := dats1 r
    cases rv
    exact .inl ⟨_, rfl, h.1, c _ H0 H _ M (Same.refl _) w (.int _) h.2⟩
  · obtain ⟨v, rfl, rv⟩ := dats1 r
    split at h
    · rename_i xs e
      obtain ⟨a, ws, rfl, hs, hd⟩ := seqD_ok w rv e
      exact .inr ⟨a, ws, rfl, hs, by rw [hd.length]; exact c _ H0 H _ M (Same.refl _) w (.int _) h⟩
    · exact h.elim
  · exact h.elim
theorem de_len {we : WE} {p pos : Pos} (hm : X.mg "len" = none) (he : DE X e we) (hs : starEach [e] X.env = (false, eval e X.env) :: starEach [] X.env := by rfl) (hg : Gl X "len" := by rfl) (hpl : (backTo pos (starEach [] X.env)).any (·.1) = false := by rfl) : DE X (.Call (.Name "len" p) [e] [] pos) (wCall rdLen (wCons we wNil)) :=
  de_callB (call_len_str.or call_len_seq) calld_len hm PySem.boot_len (da_cons he da_nil hs) hg (by decide) (by decide) hs hpl
/-- type(x) -/
def tyD (M : Mem) : D → Option String
  | .non => some "NoneType"
  | .bl _ => some "bool"
  | .int _ => some "int"
  | .str _ => some "str"
  | .tup _ => some "tuple"
  | .lst _ => some "list"
  | .scr _ => some "list"
  | .cel a => (match M a with | some (.lst _) => some "list" | some (.dct _) => some "dict" | _ => none)
  | .ty _ => none
  | .ftp _ => none
theorem tyB_ok {Fr H0 H : Hp} {M : Mem} {v : V} {d : D} {T : String} (w : Wd K Fr H0 M H) (r : Dat K H0 v d) (e : tyD M d = some T) : TyB K H v T := by
  cases r with
  | cel a =>
    unfold tyD at e
    simp only at e
    split at e
    · rename_i ds q
      cases e
      obtain ⟨_, o, ho, ck⟩ := w.mem a _ q
      cases ck with | lst hd => exact .lst (.of ho)
    · rename_i kvs q
      cases e
      obtain ⟨_, o, ho, ck⟩ := w.mem a _ q
      cases ck with | dct hd => exact .dK ho
    · cases e
  | non => cases e; exact .non
  | bl b => cases e; exact .bl b
  | int b => cases e; exact .int b
  | str b => cases e; exact .str b
  | tup hs hd => cases e; exact .tup (same_t w.ex hs)
  | lst hs hd => cases e; exact .lst (.of (w.ex _ _ hs))
  | scr hs hd => cases e; exact .lst (same_l w.ex hs)
  | ty n => cases e
  | ftp _ _ _ => cases e
def rdType : FD := fun ds M k => match ds with | [x] => (match tyD M x with | some T => k (.ty T) M | none => False) | _ => False
theorem calld_type : CallD K (rTyp K) rdType := fun Fr H0 M H vs ds k Q w r h c => by
  unfold rdType at h
  split at h
  · obtain ⟨v, rfl, rv⟩ := dats1 r
    split at h
    · rename_i T e
      exact ⟨v, T, rfl, tyB_ok w rv e, c _ H0 H _ M (Same.refl _) w (.ty T) h⟩
    · exact h.elim
  · exact h.elim
theorem de_type {we : WE} {p pos : Pos} (hm : X.mg "type" = none) (he : DE X e we) (hs : starEach [e] X.env = (false, eval e X.env) :: starEach [] X.env := by rfl) (hg : Gl X "type" := by rfl) (hpl : (backTo pos (starEach [] X.env)).any (·.1) = false := by rfl) : DE X (.Call (.Name "type" p) [e] [] pos) (wCall rdType (wCons we wNil)) :=
  de_callTy call_type1 calld_type hm PyProof.Rows.boot_type (da_cons he da_nil hs) hg (by decide) (by decide) hs hpl
/-- isinstance(x, T), T a built-in class -/
def isiB (a b : String) : Bool := a == b || (a == "bool" && b == "int")
end
end DL

set_option autoImplicit false
set_option maxRecDepth 100000
namespace DL
open PySem PySem.Spec PyProof.Rows L2
open Sem (wp)
set_option maxHeartbeats 2000000
section
variable {prog : Program} {w : World} {A : Around} {E : Value → Shared → Prop} {s : Shared}
end
/-- D-level: enumerate of a tuple or a list -/
def pairsFrom (ds : List D) : List D := ds.zipIdx.map fun (d, i) => .tup [.int (i : Nat), d]
theorem pairsFrom_get {ds : List D} {i : Nat} {d : D} (h : (pairsFrom ds)[i]? = some d) : ∃ x, ds[i]? = some x ∧ d = .tup [.int (i : Nat), x] := by
  unfold pairsFrom at h
  rw [List.getElem?_map, List.getElem?_zipIdx] at h
  cases q : ds[i]? with
  | none => rw [q] at h; cases h
  | some x => rw [q] at h; cases h; exact ⟨x, rfl, by simp⟩
theorem pairsFrom_len (ds : List D) : (pairsFrom ds).length = ds.length := by simp [pairsFrom]
def wiEnT (wa : WA) : WI := fun Γ M k => wa Γ M fun ds M1 => match ds with | [.tup ds] => k (pairsFrom ds) gAny M1 | _ => False
def wiEnL (wa : WA) : WI := fun Γ M k => wa Γ M fun ds M1 => match ds with | [d] => (match asR M1 d with | some ds => k (pairsFrom ds) (gAt d ds) M1 | none => False) | _ => False
theorem new_pair {K : KZ} {Fr H0 H : Hp} {M : Mem} {T : Addr} {x y : V} {c d : D} (w : Wd K Fr H0 M H) (h : H T = none) (rx : Dat K H0 x c) (ry : Dat K H0 y d) :
    ∃ H1, Same H0 H1 ∧ Wd K Fr H1 M (upd H T (.tup [x, y])) ∧ Dat K H1 (.ref T) (.tup [c, d]) :=
  ⟨_, same_new (w.fresh h), w.new h, .tup (.of upd_same) (.cons (rx.mono (same_new (w.fresh h))) (.cons (ry.mono (same_new (w.fresh h))) .nil))⟩
theorem walks_enL {K : KZ} {H0 : Hp} {a : Addr} {d : D} {ds : List D} (r : Dat K H0 (.ref a) d) : Walks K (Ite K a) H0 (pairsFrom ds) (gAt d ds) := fun Fr H0' M H e w g => by
  obtain ⟨a', vs, ea, hs, hd⟩ := asR_ok w (r.mono e) g
  cases ea
  have hl : vs.length = (pairsFrom ds).length := by rw [pairsFrom_len, hd.length]
  refine ⟨fun i hi => ?_, ⟨vs, hs, by omega⟩, fun i x H' d hd' y => ?_⟩
  · have h2 : i < vs.length := by omega
    exact ⟨vs, vs[i], hs, by simp [h2]⟩
  · obtain ⟨T, v, rfl, hT, rfl, hy⟩ := y
    obtain ⟨d', e2, rfl⟩ := pairsFrom_get hd'
    obtain ⟨v', e3, r3⟩ := hd.get e2
    have e4 := hy vs hs
    rw [e3] at e4; cases e4
    exact new_pair w hT (.int _) r3
section
variable {X : CxZ} {e e2 : Expr} {wa : WA} {p pos tpos : Pos} {elts : List Expr} {kk : Nat}
theorem di_enumL (hm : X.mg "enumerate" = none) (ha : DA X [e] wa) (hg : Gl X "enumerate" := by rfl) (hs : starEach [e] X.env = [(false, eval e X.env)] := by rfl) :
    DI X (.Tuple elts kk tpos) (.Call (.Name "enumerate" p) [e] [] pos) (wiEnL wa) :=
  ⟨_, pi_enum hg hm ha.run hs, fun σ H Γ Fr H0 M k R h1 h2 h3 h4 => ⟨Γ, Fr, H0, M, _, h1, h2, h3, fun vs H1 H' ds M' e1 w1 r1 q1 => by
    split at q1
    · obtain ⟨v, rfl, rv⟩ := dats1 r1
      split at q1
      · rename_i ds ed
        obtain ⟨a, ws, rfl, hs, hd⟩ := asR_ok w1 rv ed
        exact ⟨_, _, rfl, hs, h4 _ _ _ H' H1 M' e1 w1 q1 (walks_enL rv)⟩
      · exact q1.elim
    · exact q1.elim⟩⟩
/-- zip of two tuples, of two lists -/
def zipD (xs ys : List D) : List D := List.zipWith (fun x y => .tup [x, y]) xs ys
def wiZip (wa : WA) : WI := fun Γ M k => wa Γ M fun ds M1 => match ds with
  | [.tup xs, .tup ys] => k (zipD xs ys) gAny M1
  | [x, y] => (match asR M1 x, asR M1 y with | some xs, some ys => k (zipD xs ys) (fun M => gAt x xs M ∧ gAt y ys M) M1 | _, _ => False)
  | _ => False
end
end DL

set_option autoImplicit false
set_option maxRecDepth 100000
namespace DL
open PySem PySem.Spec PyProof.Rows L2
set_option maxHeartbeats 2000000
/-! ### more built-ins -/
def rdIsiA : FD := fun ds M k => match ds with
    | [x, .ty T] => (match tyD M x with | some S => (["bool", "int", "str", "tuple"].contains T = true ∧ (∀ l, x ≠ .scr l) ∧ k (.bl (isiB S T)) M) | none => False)
    | _ => False
theorem calld_isi {K : KZ} : CallD K (rIsi K) rdIsiA := fun Fr H0 M H vs ds k Q w r h c => by
  unfold rdIsiA at h
  split at h
  · obtain ⟨v, u, rfl, rv, ru⟩ := dats2 r
    cases ru
    split at h
    · rename_i T _ S e
      obtain ⟨hT, hx, h⟩ := h
      have kb : ∀ S ∈ ["NoneType", "bool", "int", "str", "tuple", "list", "dict"], ∀ T ∈ ["bool", "int", "str", "tuple"], kitB S T = some (isiB S T) := by decide +kernel
      have hS : S ∈ ["NoneType", "bool", "int", "str", "tuple", "list", "dict"] ∧ TyX K H v (.type S) := by
        cases rv with
        | non => cases e; exact ⟨by decide, .base .non⟩
        | bl b => cases e; exact ⟨by decide, .base (.bl b)⟩
        | int b => cases e; exact ⟨by decide, .base (.int b)⟩
        | str b => cases e; exact ⟨by decide, .base (.str b)⟩
        | tup hs hd =>
          cases e
          refine ⟨by decide, ?_⟩
          rcases hs with (hs | ⟨o, hs⟩) | ⟨o, its, n, h1, h2, _⟩
          · exact .base (.tup (w.ex _ _ hs))
          · exact .fTuple (w.ex _ _ hs)
          · exact .kTuple h1 h2
        | lst hs hd => cases e; exact ⟨by decide, .base (.lst (w.ex _ _ hs))⟩
        | scr hs hd => exact absurd rfl (hx _)
        | cel a =>
          unfold tyD at e
          simp only at e
          split at e
          · rename_i ds q
            cases e
            obtain ⟨_, o, ho, ck⟩ := w.mem a _ q
            cases ck with | lst hd => exact ⟨by decide, .base (.lst ho)⟩
          · rename_i kvs q
            cases e
            obtain ⟨_, o, ho, ck⟩ := w.mem a _ q
            cases ck with | dct hd => exact ⟨by decide, .base (.dK ho)⟩
          · cases e
        | ty n => cases e
        | ftp _ _ _ => cases e
      refine ⟨v, .ty T, .type S, .type T, isiB S T, rfl, .ty T, hS.2, kit_ty (kb S hS.1 T (by simpa using hT)), c _ H0 H _ M (Same.refl _) w (.bl _) h⟩
    · exact h.elim
  · exact h.elim
theorem de_isi {X : CxZ} {a b : Expr} {wa wb : WE} {p pos : Pos} (hm : X.mg "isinstance" = none) (ha : DE X a wa) (hb : DE X b wb) (hs : starEach [a, b] X.env = (false, eval a X.env) :: starEach [b] X.env := by rfl) (hs2 : starEach [b] X.env = (false, eval b X.env) :: starEach [] X.env := by rfl)
    (hg : Gl X "isinstance" := by rfl) (hpl : (backTo pos (starEach [b] X.env)).any (·.1) = false := by rfl) : DE X (.Call (.Name "isinstance" p) [a, b] [] pos) (wCall rdIsiA (wCons wa (wCons wb wNil))) :=
  de_callB call_isi calld_isi hm PyProof.Rows.boot_isinstance (da_cons ha (da_cons hb da_nil hs2) hs) hg (by decide) (by decide) hs hpl
def boolsD : List D → Option (List Bool)
  | [] => some []
  | .bl b :: ds => match boolsD ds with | some l => some (b :: l) | none => none
  | _ => none
theorem boolsD_ok {K : KZ} {H : Hp} : ∀ {ds : List D} {vs : List V} {l : List Bool}, Dats K H vs ds → boolsD ds = some l → vs = l.map V.bl
  | [], _, _, .nil, e => by cases e; rfl
  | .bl s :: ds, _, _, .cons h hs, e => by
    unfold boolsD at e
    split at e
    · rename_i l q; cases e; cases h; rw [boolsD_ok hs q]; rfl
    · cases e
  | .non :: _, _, _, _, e => by cases e
  | .str _ :: _, _, _, _, e => by cases e
  | .int _ :: _, _, _, _, e => by cases e
  | .tup _ :: _, _, _, _, e => by cases e
  | .lst _ :: _, _, _, _, e => by cases e
  | .scr _ :: _, _, _, _, e => by cases e
  | .cel _ :: _, _, _, _, e => by cases e
  | .ty _ :: _, _, _, _, e => by cases e
  | .ftp _ :: _, _, _, _, e => by cases e
def rdAll : FD := fun ds M k => match ds with
  | [x] => (match asR M x with | some xs => (match boolsD xs with | some l => k (.bl (l.all id)) M | none => False) | none => False)
  | _ => False
theorem calld_all {K : KZ} : CallD K (rAll K) rdAll := fun Fr H0 M H vs ds k Q w r h c => by
  unfold rdAll at h
  split at h
  · obtain ⟨v, rfl, rv⟩ := dats1 r
    split at h
    · rename_i xs e
      split at h
      · rename_i l el
        obtain ⟨a, ws, rfl, hs, hd⟩ := asR_ok w rv e
        have := boolsD_ok hd el
        subst this
        exact ⟨a, l, rfl, hs, c _ H0 H _ M (Same.refl _) w (.bl _) h⟩
      · exact h.elim
    · exact h.elim
  · exact h.elim
theorem de_all {X : CxZ} {e : Expr} {we : WE} {p pos : Pos} (hc : X.calm = true) (hm : X.mg "all" = none) (he : DE X e we) (hs : starEach [e] X.env = (false, eval e X.env) :: starEach [] X.env := by rfl) (hg : Gl X "all" := by rfl) (hpl : (backTo pos (starEach [] X.env)).any (·.1) = false := by rfl) :
    DE X (.Call (.Name "all" p) [e] [] pos) (wCall rdAll (wCons we wNil)) :=
  de_callB (cr_all hc) calld_all hm PyProof.Rows.boot_all (da_cons he da_nil hs) hg (by decide) (by decide) hs hpl
def rdInt : FD := fun ds M k => match ds with
  | [.int i] => k (.int i) M
  | [.bl b] => k (.int (if b then 1 else 0)) M
  | _ => False
theorem calld_int {K : KZ} : CallD K (fun xs H Q => (∃ i, xs = [V.int i] ∧ Q (.int i) H) ∨ ∃ k, xs = [V.bl k] ∧ Q (.int (if k then 1 else 0)) H) rdInt := fun Fr H0 M H vs ds k Q w r h c => by
  unfold rdInt at h
  split at h
  · obtain ⟨v, rfl, rv⟩ := dats1 r
    cases rv
    exact .inl ⟨_, rfl, c _ H0 H _ M (Same.refl _) w (.int _) h⟩
  · obtain ⟨v, rfl, rv⟩ := dats1 r
    cases rv
    exact .inr ⟨_, rfl, c _ H0 H _ M (Same.refl _) w (.int _) h⟩
  · exact h.elim
theorem de_intof {X : CxZ} {e : Expr} {we : WE} {p pos : Pos} (hm : X.mg "int" = none) (he : DE X e we) (hs : starEach [e] X.env = (false, eval e X.env) :: starEach [] X.env := by rfl) (hg : Gl X "int" := by rfl) (hpl : (backTo pos (starEach [] X.env)).any (·.1) = false := by rfl) :
    DE X (.Call (.Name "int" p) [e] [] pos) (wCall rdInt (wCons we wNil)) :=
  de_callTy call_int1 calld_int hm PyProof.Rows.boot_int (da_cons he da_nil hs) hg (by decide) (by decide) hs hpl
/-- tuple(list or tuple) -/
def rdTuple : FD := fun ds M k => match ds with
  | [x] => (match seqD M x with | some xs => k (.tup xs) M | none => False)
  | _ => False
theorem calld_tuple {K : KZ} : CallD K (fun xs H Q => ∃ p ys, xs = [V.ref p] ∧ ((SqL K H p ys ∧ ∀ l, H l = none → Q (.ref l) (upd H l (.tup ys))) ∨ (SqT K H p ys ∧ Q (.ref p) H))) rdTuple := fun Fr H0 M H vs ds k Q w r h c => by
  unfold rdTuple at h
  split at h
  · rename_i x
    obtain ⟨v, rfl, rv⟩ := dats1 r
    split at h
    · rename_i xs e
      cases x with
      | tup xs' =>
        cases e
        cases rv with
        | tup hs hd => exact ⟨_, _, rfl, .inr ⟨same_t w.ex hs, c _ H0 H _ M (Same.refl _) w (.tup hs hd) h⟩⟩
      | _ =>
        obtain ⟨a, ws, rfl, hs, hd⟩ := asR_ok (ds := xs) w rv (by exact e)
        exact ⟨a, ws, rfl, .inl ⟨hs, fun l hl => c _ _ _ _ M (same_new (w.fresh hl)) (w.new hl) (.tup (.of upd_same) (hd.mono (same_new (w.fresh hl)))) h⟩⟩
    · exact h.elim
  · exact h.elim
theorem de_tuple {X : CxZ} {e : Expr} {we : WE} {p pos : Pos} (hm : X.mg "tuple" = none) (he : DE X e we) (hs : starEach [e] X.env = (false, eval e X.env) :: starEach [] X.env := by rfl) (hg : Gl X "tuple" := by rfl) (hpl : (backTo pos (starEach [] X.env)).any (·.1) = false := by rfl) :
    DE X (.Call (.Name "tuple" p) [e] [] pos) (wCall rdTuple (wCons we wNil)) :=
  de_callTy call_tuple_of calld_tuple hm PyProof.Rows.boot_tuple (da_cons he da_nil hs) hg (by decide) (by decide) hs hpl
def putD (kvs : List (Key × D)) (k : Key) (v : D) : List (Key × D) :=
  if (kvs.any fun kv => decide (kv.1 = k)) = true then kvs.map (fun kv => if kv.1 = k then (kv.1, v) else kv) else kvs ++ [(k, v)]
def mergeD (kvs more : List (Key × D)) : List (Key × D) := more.foldl (fun acc kv => putD acc kv.1 kv.2) kvs
end DL

set_option autoImplicit false
set_option maxRecDepth 100000
namespace DL
open PySem PySem.Spec PyProof.Rows L2
set_option maxHeartbeats 2000000
section
variable {X : CxZ} {a b c : Expr} {wa wb wc : WE} {pos : Pos}
/-- a comparison's rule with its reading -/
def CmpD (X : CxZ) (op : CmpOp) (rd : D → D → Mem → KD → Prop) : Prop := ∃ r, OpR X (compareOp op) r ∧ OpD X.K r rd
theorem de_cmpA {op : CmpOp} {rd : D → D → Mem → KD → Prop} (h : CmpD X op rd) (ha : DE X a wa) (hb : DE X b wb) (hm : behindInMarks op b = false := by first | exact nomark _ | (with_unfolding_all rfl)) : DE X (.Compare a [op] [b] pos) (wOp rd wa wb) := by
  obtain ⟨r, h1, h2⟩ := h
  exact de_cmp h1 h2 ha hb hm
theorem dt_cmpA {op : CmpOp} {rd : D → D → Mem → KD → Prop} (h : CmpD X op rd) (ha : DE X a wa) (hb : DE X b wb) (hm : behindInMarks op b = false := by first | exact nomark _ | (with_unfolding_all rfl)) : DT X (.Compare a [op] [b] pos) (wTst (wOp rd wa wb)) := by
  obtain ⟨r, h1, h2⟩ := h
  exact dt_cmp h1 h2 ha hb hm
theorem dt_chainA {op op' : CmpOp} {rd rd' : D → D → Mem → KD → Prop} (h : CmpD X op rd) (h' : CmpD X op' rd') (ha : DE X a wa) (hb : DE X b wb) (hc : DE X c wc) (hm : lastMarks [op, op'] [b, c] = false := by with_unfolding_all rfl) : DT X (.Compare a [op, op'] [b, c] pos) (wTst (wChain rd rd' wa wb wc)) := by
  obtain ⟨r, h1, h2⟩ := h
  obtain ⟨r', h3, h4⟩ := h'
  exact dt_chain h1 h2 h3 h4 ha hb hc hm
theorem c_lt : CmpD X .Lt rdLt := op_ltA
theorem c_le : CmpD X .LtE rdLe := op_leA
theorem c_gt : CmpD X .Gt rdGt := op_gtA
theorem c_ge : CmpD X .GtE rdGe := op_geA
theorem c_eq {k : Nat} (hr : DG.RoomG k X.A) : CmpD X .Eq (rdEq id) := ⟨_, op_eq.or (op_eqD hr.r.units), opd_eq⟩
theorem c_ne {k : Nat} (hr : DG.RoomG k X.A) : CmpD X .NotEq (rdEq not) := ⟨_, op_ne.or (op_neD hr.r.units), opd_ne⟩
theorem c_is : CmpD X .Is (rdIs id) := op_isA
end
/-- a def of the text: where it stands, how it binds -/
structure Def (K : PySem.W.Frag) (mg : Str → Option Value) (x : Str) (st : Stmt) (ps : List Str) (f : Addr) (fd : FuncData) : Prop where
  F : Fun K x x st f fd
  at_ : mg x = some (.ref f)
  b : Binds K fd ps []
theorem de_own {X : CxZ} {F : FD} {f : Addr} {fd : FuncData} {ps : List Str} {x : Str} {st : Stmt} {k j : Nat} {e : Expr} {es : List Expr} {p pos : Pos} {wa : WA} (d : Def X.K X.mg x st ps f fd) (G : DFn X.prog X.w X.K X.mg X.base k f fd ps F) (hr : DG.RoomG j X.A) (hk : k ≤ j)
    (ha : DA X (e :: es) wa) (hg : Gl X x := by rfl) (hdb : (x == ("__debug__" : Str)) = false := by decide) (he : starEach (e :: es) X.env = (false, eval e X.env) :: starEach es X.env := by rfl) (hpl : (backTo pos (starEach es X.env)).any (·.1) = false := by rfl) : DE X (.Call (.Name x p) (e :: es) [] pos) (wCall F wa) :=
  de_call G (hr.mono hk) d.at_ d.F.kp d.b ha hg hdb he hpl
theorem DFn.mono {P : Program} {w : World} {K : PySem.W.Frag} {mg : Str → Option Value} {base : Heap} {j k : Nat} {f : Addr} {fd : FuncData} {ps : List Str} {F : FD} (G : DFn P w K mg base j f fd ps F) (h : j ≤ k) : DFn P w K mg base k f fd ps F := DG.FnG.mono G h
end DL

set_option autoImplicit false
set_option maxRecDepth 100000
namespace DL
open PySem L2
set_option maxHeartbeats 2000000
/-- .. by an invariant -/
theorem lc_inv {gd : D → Env → Option Env} {wt : WT} {we : WE} {G : Mem → Prop} {Γ : Env} {k : List D → Mem → Prop} (I : List D → List D → Mem → Prop) (hG : ∀ ds acc M, I ds acc M → G M) (h0 : ∀ acc M, I [] acc M → k acc M)
    (hs : ∀ d ds acc M, I (d :: ds) acc M → ∃ Γ', gd d Γ = some Γ' ∧ ∀ (ky : KD) (kn : Mem → Prop), (∀ y M2, acc.length < sizeLine → I ds (acc ++ [y]) M2 → ky y M2) → (∀ M2, I ds acc M2 → kn M2) → wt Γ' M fun b M1 => if b = true then we Γ' M1 ky else kn M1)
    (hl : ∀ ds acc M, I ds acc M → acc.length + ds.length ≤ sizeLine) : ∀ its acc M, I its acc M → lcD gd wt we G Γ its acc M k
  | [], acc, M, h => ⟨hG _ _ _ h, h0 acc M h⟩
  | d :: ds, acc, M, h => by
    refine ⟨hG _ _ _ h, ?_⟩
    obtain ⟨Γ', e, q⟩ := hs d ds acc M h
    rw [e]
    refine q (fun y M2 => acc.length < sizeLine ∧ lcD gd wt we G Γ ds (acc ++ [y]) M2 k) _ (fun y M2 hlt i => ⟨hlt, lc_inv I hG h0 hs hl ds _ M2 i⟩) (fun M2 i => lc_inv I hG h0 hs hl ds acc M2 i)

theorem shaped_int {i : Int} : SeqAt.shaped (.int i) = true := by
  unfold SeqAt.shaped PyData.canLay0 PyData.depth; rfl
theorem eq_int {f : Bool → Bool} {s t : Int} {M : Mem} {k : KD} (h : k (.bl (f (decide (s = t)))) M) : rdEq f (.int s) (.int t) M k := by
  refine ⟨shaped_int, shaped_int, ?_⟩
  have e : PyData.eqv (.int s) (.int t) = decide (s = t) := by
    show (s == t) = _
    rw [Bool.beq_eq_decide_eq]
  rw [e]; exact h
/-- flat things: None, ints, texts -/
inductive Flat : D → Prop
  | non : Flat .non
  | int (i : Int) : Flat (.int i)
  | str (s : Str) : PyData.strOk s = true → Flat (.str s)
end DL

set_option autoImplicit false
set_option maxRecDepth 100000
namespace DL
open PySem L2
set_option maxHeartbeats 2000000
section
variable {M : Mem} {k : KD} {i j n : Int} {s t : Str} {d x y : D} {ds es : List D} {a : Addr} {c : Nat}
theorem at0 {α : Type} (x : α) (r : List α) : atI (x :: r) 0 = some x := by
  have := atI_nat (xs := x :: r) (j := 0) (v := x) rfl
  simpa using this
theorem at1 {α : Type} (x y : α) (r : List α) : atI (x :: y :: r) 1 = some y := by
  have := atI_nat (xs := x :: y :: r) (j := 1) (v := y) rfl
  simpa using this
theorem at2 {α : Type} (x y z : α) (r : List α) : atI (x :: y :: z :: r) 2 = some z := by
  have := atI_nat (xs := x :: y :: z :: r) (j := 2) (v := z) rfl
  simpa using this
theorem ix_cel (e : M a = some (.lst ds)) (h : atI ds i = some d) (hk : k d M) : rdIx (.cel a) (.int i) M k := by
  unfold rdIx seqD asR
  simp only [e, h]; exact hk
theorem ix_tup (h : atI ds i = some d) (hk : k d M) : rdIx (.tup ds) (.int i) M k := by
  unfold rdIx seqD
  simp only [h]; exact hk
theorem ix_lst (h : atI ds i = some d) (hk : k d M) : rdIx (.lst ds) (.int i) M k := by
  unfold rdIx seqD asR
  simp only [h]; exact hk
theorem r_add (hk : k (.int (i + j)) M) : rdAdd (.int i) (.int j) M k := hk
theorem r_addS (hz : s.length + t.length ≤ sizeLine) (hk : k (.str (s ++ t)) M) : rdAdd (.str s) (.str t) M k := ⟨hz, hk⟩
theorem r_mul (h : (-(2 ^ 64) < i ∧ i < 2 ^ 64) ∨ (-(2 ^ 64) < j ∧ j < 2 ^ 64)) (hk : k (.int (i * j)) M) : rdI CMul (fun i j => .int (i * j)) (.int i) (.int j) M k := ⟨h, hk⟩
theorem r_div (h : 0 < j) (h' : j < 1073741824) (hk : k (.int (i / j)) M) : rdI CDiv (fun i j => .int (i / j)) (.int i) (.int j) M k := ⟨⟨h, h'⟩, hk⟩
theorem r_mod (h : 0 < j) (hk : k (.int (i % j)) M) : rdI (fun _ j => 0 < j) (fun i j => .int (i % j)) (.int i) (.int j) M k := ⟨h, hk⟩
theorem r_pow (h : 0 ≤ j) (h2 : j ≤ 1000000) (h3 : i.natAbs < 2 ^ 64) (hk : k (.int (i ^ j.toNat)) M) : rdI CPow (fun i j => .int (i ^ j.toNat)) (.int i) (.int j) M k := ⟨⟨h, h2, h3⟩, hk⟩
theorem eq_intT {f : Bool → Bool} (hk : k (.bl (f true)) M) : rdEq f (.int i) (.int i) M k := eq_int (by rw [decide_eq_true rfl]; exact hk)
theorem eq_intF {f : Bool → Bool} (h : i ≠ j) (hk : k (.bl (f false)) M) : rdEq f (.int i) (.int j) M k := eq_int (by rw [decide_eq_false h]; exact hk)
theorem r_U {g : Int → D} (hk : k (g i) M) : rdU g (.int i) M k := hk
theorem r_ordI {p : Int → Int → Bool} {q : Str → Str → Bool} (hk : k (.bl (p i j)) M) : rdOrd p q (.int i) (.int j) M k := hk
theorem r_lenT (hk : k (.int ds.length) M) : rdLen [.tup ds] M k := hk
theorem r_lenL (hk : k (.int ds.length) M) : rdLen [.lst ds] M k := hk
theorem r_lenR (hk : k (.int ds.length) M) : rdLen [.scr ds] M k := hk
theorem r_lenC (e : M a = some (.lst ds)) (hk : k (.int ds.length) M) : rdLen [.cel a] M k := by
  unfold rdLen seqD asR; simp only [e]; exact hk
theorem r_app (e : M a = some (.lst ds)) (hz : ds.length < sizeLine) (hk : k .non (setM M a (.lst (ds ++ [d])))) : rdAppend (.cel a) [d] M k := by
  unfold rdAppend; simp only [e]; exact ⟨hz, hk⟩
theorem r_pop0 (e : M a = some (.lst (d :: ds))) (hk : k d (setM M a (.lst ds))) : rdPopAt (.cel a) [.int 0] M k := by
  unfold rdPopAt; simp only [e]
  refine ⟨by decide, ?_⟩
  have h1 : seqIndex? 0 (d :: ds).length = some 0 := by
    obtain ⟨h, _⟩ := ixN_seq (n := (d :: ds).length) (i := 0) (j := 0) (by unfold ixN; simp)
    exact h
  rw [h1]; exact hk
theorem isC (e : M a = some (.lst ds)) : isCel M (.cel a) := ⟨ds, e⟩
theorem cut_take {α : Type} (xs : List α) (n : Nat) : cutD xs none (some (n : Int)) = xs.take n := by
  unfold cutD
  rw [HT.sIx_none, HT.sIx_nat]
  simp
theorem r_slR {lo hi : Option Int} (hk : k (.lst (cutD ds lo hi)) M) : rdSl (.scr ds) lo hi M k := hk
theorem r_tupC (e : M a = some (.lst ds)) (hk : k (.tup ds) M) : rdTuple [.cel a] M k := by
  unfold rdTuple seqD asR; simp only [e]; exact hk
theorem r_intB {b : Bool} (hk : k (.int (if b then 1 else 0)) M) : rdInt [.bl b] M k := hk
theorem r_isi {T S : String} (h1 : tyD M x = some S) (hT : ["bool", "int", "str", "tuple"].contains T = true) (h2 : ∀ l, x ≠ .scr l) (hk : k (.bl (isiB S T)) M) : rdIsiA [x, .ty T] M k := by
  unfold rdIsiA; simp only [h1]; exact ⟨hT, h2, hk⟩
theorem r_st {v : D} {j : Nat} {kk : Mem → Prop} (e : M a = some (.lst ds)) (h : ixN ds.length i = some j) (hk : kk (setM M a (.lst (ds.set j v)))) : rdSt (.cel a) (.int i) v M kk := by
  unfold rdSt; simp only [e, h]; exact hk
theorem ix_nat {n i : Nat} (h : i < n) : ixN n (i : Int) = some i := by
  unfold ixN
  rw [if_pos (by omega), if_pos (by omega), Int.toNat_natCast]
theorem tt {A B : Prop} (h : A) : (if true = true then A else B) := by rw [if_pos rfl]; exact h
theorem ff {A B : Prop} (h : B) : (if false = true then A else B) := by rw [if_neg Bool.false_ne_true]; exact h
theorem tt' {b : Bool} {A B : Prop} (e : b = true) (h : A) : (if b = true then A else B) := by rw [if_pos e]; exact h
theorem ff' {b : Bool} {A B : Prop} (e : b = false) (h : B) : (if b = true then A else B) := by rw [e]; exact ff h
theorem bb {b : Bool} {A B : Prop} (h1 : b = true → A) (h2 : b = false → B) : (if b = true then A else B) := by
  cases b
  · exact ff (h2 rfl)
  · exact tt (h1 rfl)
theorem z1 {n : Nat} (h : n ≤ 1000000) : n ≤ sizeLine := Nat.le_trans h (by decide)
theorem z2 {n : Nat} (h : n ≤ 1000000) : n < sizeLine := Nat.lt_of_le_of_lt h (by decide)
end
end DL

set_option autoImplicit false
set_option maxRecDepth 100000
set_option maxHeartbeats 4000000
/-! sets of texts, made of a list of texts: counted, or laid out in their order -/
namespace TS
open PySem PySem.Spec PyProof.Rows L2 PySem.Froz
/-- the texts met, the newest first, each once -/
def addU (l : List Str) (k : Str) : List Str := if k ∈ l then l else k :: l
def uni (xs : List Str) : List Str := xs.foldl addU []
theorem addU_len {l : List Str} {k : Str} : (addU l k).length ≤ l.length + 1 := by
  unfold addU; split
  · omega
  · simp
theorem fold_len : ∀ (xs l : List Str), (xs.foldl addU l).length ≤ l.length + xs.length
  | [], l => by simp
  | x :: xs, l => by
    have h := fold_len xs (addU l x)
    have := addU_len (l := l) (k := x)
    rw [List.foldl_cons, List.length_cons]; omega
theorem uni_len (xs : List Str) : (uni xs).length ≤ xs.length := by
  have := fold_len xs []; simpa [uni] using this
theorem uni_snoc (xs : List Str) (k : Str) : uni (xs ++ [k]) = addU (uni xs) k := by
  unfold uni; rw [List.foldl_append]; rfl
/-- the table rises and can be walked -/
def Way (w : World) (D : SD) : Prop := Ris D.2.2.place.toList ∧ (w.params.followText "set-order" = true ∨ D.2.2.led = true)
theorem way_tail {w : World} {ep : Nat} {es : Array (Int × Value)} {t : SetTable} {b : Bool} (h : Way w (es, ep, t)) : Way w (tailTx ep es t b) := by
  unfold tailTx; split
  · exact ⟨relayAll_ris t es _, h.2.imp id fun z => (relayAll_led t es _).trans z⟩
  · exact h
theorem way_add {w : World} {D : SD} {h : Int} {v : Value} (W : Way w D) : Way w (addTx h v D) := by
  unfold addTx
  refine way_tail ?_
  have a := layNew_ris D.2.2 D.1 h v W.1
  have b := W.2.imp id fun z => (layNew_led D.2.2 D.1 h v).trans z
  split
  · exact ⟨a, b⟩
  · exact ⟨a, b⟩
/-- the set at a holds the texts l -/
def SetS (P : Program) (w : World) (h : Heap) (a : Addr) (l : List Str) : Prop := ∃ D, h.get? a = some (sObj "set" D) ∧ TxOk P w D l ∧ Way w D
theorem SetS.at {P : Program} {w : World} {h h' : Heap} {a : Addr} {l : List Str} (x : SetS P w h a l) (k : ∀ o, h.get? a = some o → h'.get? a = some o) : SetS P w h' a l :=
  let ⟨D, e, r⟩ := x; ⟨D, k _ e, r⟩
section
variable {P : Program} {w : World} {A : Around} {E : Value → Shared → Prop} {s : Shared} {a : Addr} {l : List Str}
theorem add_s {k : Str} {u : Tok} {Q : Bool → Shared → Prop} (x : SetS P w s.heap a l) (hb : l.length + 1 < scanBound)
    (h : ∀ b h', Heap.SameBut a s.heap h' → SetS P w h' a (addU l k) → Q b { s with heap := h' }) : wpAny (model P w) A (setAddHashed a (.str k u) (hashStr w k)) Q E s := by
  obtain ⟨D, ho, F, W⟩ := x
  by_cases hk : k ∈ l
  · have h1 := h false s.heap (Heap.SameBut.refl a s.heap) ⟨D, ho, by unfold addU; rw [if_pos hk]; exact F, W⟩
    obtain ⟨es, ep, t⟩ := D
    have sz : es.size = l.length := F.sz
    have el : ElemsOf (strKind P w) es.toList := F.el
    have hf : t.fits es.size = true := F.fit
    have ky : (strKind P w).is k (.str k u) = true := is_str k u
    unfold setAddHashed setAddHashedIn
    apply wpAny_holding
    apply wpAny_bind
    refine wpAny_setState_of ho (show (sObj "set" (es, ep, t)).data = _ from rfl) hf ?_
    dsimp only
    rw [byScan_of (x := Value.str k u) rfl (by omega) el, if_pos rfl]
    unfold setAddByScan
    apply wpAny_bind
    apply wpAny_bind
    apply wpAny_rule
    apply wpAny_bind
    refine wpAny_setScan_of (knd := strKind P w) ky ho (show (sObj "set" (es, ep, t)).data = _ from rfl) hf el ?_
    cases q : List.findIdx? (fun e => (strKind P w).is k e.2) es.toList with
    | some j => exact wpAny_pure (wpAny_pure h1)
    | none =>
      obtain ⟨e, he, z⟩ := (F.mem k).mp hk
      have c := List.findIdx?_eq_none_iff.mp q e he
      rw [z] at c; cases c
  · refine add_x ho F hk hb (h true _ (Heap.SameBut.update s.heap a _) ⟨_, get_upd _ ho rfl, ?_, way_add W⟩)
    unfold addU; rw [if_neg hk]; exact add_ok u F
/-- the loop of update over texts -/
theorem loop {I : Addr} {fp wr : List Addr} {G : Array GenState → Array GenState → Prop} {n : Nat} {Pv : Nat → Value → Prop} {St : Nat → Shared → Prop} {R : Result → Shared → Prop} {xs : List Str} {S : Addr}
    (W : WalksS P w A.in1 I fp wr G n Pv St) (nf : S ∉ fp) (hn : xs.length = n) (hb : n + 1 < scanBound) (hv : ∀ i v, Pv i v → ∃ y t, xs[i]? = some y ∧ v = .str y t)
    : ∀ (k i : Nat) (s : Shared), k + i = n → St i s → SetS P w s.heap S (uni (xs.take i)) →
      (∀ s', Moved (S :: wr) G s s' → SetS P w s'.heap S (uni xs) → R (.ok (.ret .none)) s') → codeAny (model P w) A (.builtin "set.update.loop" ⟨[.ref S, .ref I], []⟩) R s := by
  have nw : S ∉ wr := fun z => nf (W.sub _ z)
  intro k
  induction k with
  | zero =>
    intro i s hk st hs hR
    have e : i = n := by omega
    subst e
    apply codeAny_builtin F.entry_set_update_loop
    rw [Around.under_plainId (F.plain_set_update_loop) _]
    apply wpAny_bind (m := pyNext (.ref I))
    refine W.done s _ _ st fun s' hm => ?_
    rw [List.take_of_length_le (by omega)] at hs
    refine wpAny_pure (hR s' (hm.mono fun b z => List.mem_cons_of_mem _ z) (hs.at fun o z => ?_))
    exact hm.heap S o nw z
  | succ k ih =>
    intro i s hk st hs hR
    apply codeAny_builtin F.entry_set_update_loop
    rw [Around.under_plainId (F.plain_set_update_loop) _]
    apply wpAny_bind (m := pyNext (.ref I))
    refine W.item i s _ _ (by omega) st fun v s' hP st' hm => ?_
    obtain ⟨y, t, hy, rfl⟩ := hv i v hP
    have hs' := hs.at (h' := s'.heap) fun o z => hm.heap S o nw z
    show wpAny _ A.in1 (holding [Value.str y t] (setAdd S (.str y t)) >>= _) _ _ s'
    apply wpAny_bind
    apply wpAny_holding
    unfold setAdd
    apply wpAny_holding
    apply wpAny_bind
    refine (strKind P w).pyHash (k := y) (is_str y t) ?_
    have ul := uni_len (xs.take i)
    rw [List.length_take] at ul
    refine add_s (s := { s' with toks := s'.toks + 1 }) hs' (by omega) fun b h' sb h2 => ?_
    refine wpAny_pure ⟨plainId_quiet (F.plain_set_update_loop) _, ih (i + 1) _ (by omega) (W.frame _ s' _ _ st' (Nat.le_succ _) fun c hc o e => ?_) ?_ fun s2 hm2 h3 => ?_⟩
    · exact (sb.2 c fun z => nf (z ▸ hc)).trans e
    · rw [List.take_add_one, hy, Option.toList_some, uni_snoc]; exact h2
    · refine hR s2 (Moved.trans W.gtrans ((hm.mono fun c z => List.mem_cons_of_mem _ z).then_heap (Nat.le_succ _) fun c o hc e => ?_) hm2) h3
      exact (sb.2 c fun z => hc (z ▸ List.mem_cons_self)).trans e
/-- the bare set that is laid first -/
def bare (w : World) : Obj := { cls := .type "set", dict := none, data := .set #[] 0 (.fresh 0 0 (!w.params.followText "set-order")) }
end
end TS

set_option autoImplicit false
set_option maxRecDepth 100000
set_option maxHeartbeats 4000000
namespace TS
open PySem PySem.Spec PyProof.Rows L2 PySem.Froz
section
variable {P : Program} {w : World} {A : Around} {E : Value → Shared → Prop} {s : Shared} {b : Addr} {l : List Str}
end
end TS

set_option autoImplicit false
set_option maxRecDepth 100000
set_option maxHeartbeats 4000000
/-! a tuple turned about: t[::-1] -/
namespace RT
open PySem PySem.Spec PyProof.Rows L2 HT
section
variable {P : Program} {w : World} {A : Around} {E : Value → Shared → Prop} {s : Shared}
end
section
variable {X : Cx}
end
end RT

set_option autoImplicit false
set_option maxRecDepth 100000
set_option maxHeartbeats 4000000
namespace DL
open PySem PySem.Spec PyProof.Rows L2
section
variable {X : CxZ}
/-! ### the truth of a value -/
def rdTru : D → Mem → (Bool → Mem → Prop) → Prop := fun d M k => match d with
  | .non => k false M
  | .bl b => k b M
  | .int i => k (i != 0) M
  | .str y => y.length ≤ sizeLine ∧ k ((y.length : Int) != 0) M
  | .tup ds => k (!ds.isEmpty) M
  | d => (match asR M d with | some ds => k (!ds.isEmpty) M | none => False)
def wTru (we : WE) : WT := fun Γ M k => we Γ M fun d M1 => rdTru d M1 k
/-! ### t[::-1] -/
/-! ### {} -/
def wDNew : WE := fun _ M k => ∀ p, M p = none → k (.cel p) (setM M p (.dct []))
theorem de_dnew {pos : Pos} : DE X (.Dict [] [] pos) wDNew :=
  de_of pe_dnewK fun σ H Q Γ Fr H0 M k h1 h2 h3 h4 p hp => h4 _ H0 _ _ _ (Same.refl _) (h2.newM hp (.dct .nil)) (.cel p) (h3 p (h2.freshM hp))
/-! ### list(x) -/
/-! ### len(set(xs)), sorted(set(xs)), xs a list of texts -/
end
end DL

set_option autoImplicit false
set_option maxRecDepth 100000
set_option maxHeartbeats 4000000
namespace DL
open PySem PySem.Spec PyProof.Rows L2
section
variable {X : CxZ}
end
/-! ### data without cells, and its equality -/
/-- lists of texts -/
theorem toPs_strs (M : Mem) : ∀ l : List Str, toPs M (l.map D.str) = some (l.map PyData.str)
  | [] => rfl
  | s :: l => by rw [List.map_cons]; unfold toPs toP; rw [toPs_strs M l]; rfl
theorem eqv_strs : ∀ l m : List Str, PyData.eqvAll (l.map .str) (m.map .str) = decide (l = m)
  | [], [] => by unfold PyData.eqvAll; rfl
  | [], _ :: _ => by rw [List.map_nil, List.map_cons]; unfold PyData.eqvAll; simp
  | _ :: _, [] => by rw [List.map_nil, List.map_cons]; unfold PyData.eqvAll; simp
  | a :: l, b :: m => by
    rw [List.map_cons, List.map_cons]
    unfold PyData.eqvAll
    rw [eqv_strs l m]
    unfold PyData.eqv
    rw [Bool.eq_iff_iff]
    simp
theorem eq_strs {f : Bool → Bool} {l m : List Str} {M : Mem} {k : KD} (h1 : ∀ s ∈ l, PyData.strOk s = true) (h2 : ∀ s ∈ m, PyData.strOk s = true) (hk : k (.bl (f (decide (l = m)))) M) : rdEq f (.lst (l.map D.str)) (.lst (m.map D.str)) M k := by
  have sh : ∀ l : List Str, (∀ s ∈ l, PyData.strOk s = true) → SeqAt.shaped (.list (l.map PyData.str)) = true := fun l h => by
    have c : PyData.canLayAll0 (l.map PyData.str) = true ∧ PyData.depthAll (l.map PyData.str) = 0 := by
      induction l with
      | nil => exact ⟨by unfold PyData.canLayAll0; rfl, by unfold PyData.depthAll; rfl⟩
      | cons a l ih =>
        have ih := ih fun s hs => h s (List.mem_cons_of_mem _ hs)
        rw [List.map_cons]
        unfold PyData.canLayAll0 PyData.depthAll
        rw [ih.1, ih.2]
        exact ⟨by unfold PyData.canLay0; rw [h a List.mem_cons_self]; rfl, by unfold PyData.depth; rfl⟩
    unfold SeqAt.shaped PyData.canLay0 PyData.depth
    rw [c.1, c.2]; rfl
  have tp : ∀ l : List Str, toPC M (.lst (l.map D.str)) = some (.list (l.map PyData.str)) := fun l => by
    show toP M (.lst _) = _
    unfold toP; rw [toPs_strs]
  show rdEqP f (.lst (l.map D.str)) (.lst (m.map D.str)) M k
  unfold rdEqP
  rw [tp, tp]
  refine ⟨sh l h1, sh m h2, ?_⟩
  have : PyData.eqv (.list (l.map .str)) (.list (m.map .str)) = decide (l = m) := by unfold PyData.eqv; exact eqv_strs l m
  rw [this]; exact hk
end DL

set_option autoImplicit false
set_option maxRecDepth 100000
set_option maxHeartbeats 4000000
/-! what repr tells of data: nested lists and tuples, bare dicts among them -/
namespace RP
open PySem PySem.Spec PyProof.Rows L2
mutual
inductive DR (K : PySem.W.Frag) (H : Hp) : V → PyData → Prop
  | non : DR K H .non .none
  | bl (b : Bool) : DR K H (.bl b) (.bool b)
  | int (i : Int) : DR K H (.int i) (.int i)
  | str (y : Str) : DR K H (.str y) (.str y)
  | lst {a : Addr} {vs : List V} {ps : List PyData} : SqL K H a vs → DRs K H vs ps → DR K H (.ref a) (.list ps)
  | tup {a : Addr} {vs : List V} {ps : List PyData} : SqT K H a vs → DRs K H vs ps → DR K H (.ref a) (.tuple ps)
  | bare {a : Addr} : Rd H a (.dK []) → DR K H (.ref a) (.dict [])
  | one {a : Addr} {x : Str} {v : V} {p : PyData} : Rd H a (.dK [(.inr x, v)]) → DR K H v p → DR K H (.ref a) (.dict [(.str x, p)])
inductive DRs (K : PySem.W.Frag) (H : Hp) : List V → List PyData → Prop
  | nil : DRs K H [] []
  | cons {v : V} {vs : List V} {p : PyData} {ps : List PyData} : DR K H v p → DRs K H vs ps → DRs K H (v :: vs) (p :: ps)
end
section
variable {X : Cx} {P : Program} {w : World} {pins : List (Addr × Obj)} {σ : List (Option V)} {H : Hp} {s : Shared}
/-- how the value at hand is shown within another -/
def Part (P : Program) (w : World) (s : Shared) (u : Value) (p : PyData) : Prop := ∃ as bs, Reads s.heap u p as ∧ ReadAtMost s.heap p.depth bs ∧ ReprK P w bs s.heap p.depth u p.shown
def Parts (P : Program) (w : World) (s : Shared) (us : List Value) (ps : List PyData) : Prop :=
  ∃ as bs, ReadsAll s.heap us ps as ∧ ReadAtMost s.heap (PyData.depthAll ps) bs ∧ ReprAllK P w bs s.heap (PyData.depthAll ps) us (PyData.shownAll ps)
theorem leaf {u : Value} {p : PyData} (r : Reads s.heap u p []) (h : ReprIs P w u p.shown) : Part P w s u p := ⟨[], [], r, (fun _ z => by cases z), .of_is h _ _ _⟩
/-- a bare dict's place -/
theorem bare_at (I : Inv X pins σ H s) {a : Addr} (e : Rd H a (.dK [])) : ∃ o n, s.heap.get? a = some o ∧ o.cls = .type "dict" ∧ o.data = .dict #[] n ∧ (a == sysModules) = false := by
  obtain ⟨_, hs, vs, r, o, es, ep, g, ex, d, _, pr, _⟩ := dk_rd I.hok e
  cases r
  have : es.toList = [] := by
    cases q : es.toList with
    | nil => rfl
    | cons e l => rw [q] at pr; cases pr
  have he : es = #[] := by cases es; simp only at this; rw [this]
  rw [he] at d
  exact ⟨o, ep, g, ex.1, d, hs⟩
/-- a dict of one entry -/
theorem one_at (I : Inv X pins σ H s) {a : Addr} {x : Str} {v : V} (e : Rd H a (.dK [(.inr x, v)])) :
    ∃ o en n t, s.heap.get? a = some o ∧ o.cls = .type "dict" ∧ o.data = .dict #[en] n ∧ (a == sysModules) = false ∧ en.key = .str x t ∧ RelV v en.val := by
  obtain ⟨_, hs, vs, r, o, es, ep, g, ex, d, _, pr, _⟩ := dk_rd I.hok e
  cases r with
  | @cons _ q _ ur hq rr =>
    cases rr
    obtain ⟨κ, u⟩ := q
    obtain ⟨ek, ru⟩ := hq
    have ek : Sum.inr x = κ := ek
    subst ek
    obtain ⟨l⟩ := es
    have pr : PySem.Pairs (mixKind X.prog X.w) l [(.inr x, u)] := pr
    cases pr with
    | @cons en _ es' _ h1 h2 h3 =>
      cases h3
      have h1 : keyIs (.inr x) en.key = true := h1
      have h2 : en.val = u := h2
      have ru : RelV v u := ru
      rcases keyIs_shape h1 with ⟨i, t, z, _⟩ | ⟨y, t, z, ey⟩
      · cases z
      · cases z
        exact ⟨o, en, ep, t, g, ex.1, d, hs, ey, by rw [h2]; exact ru⟩
theorem shown_one (x : Str) (p : PyData) : PyData.shown (.dict [(.str x, p)]) = dictText [PyData.shown (.str x) ++ ": " ++ p.shown] := by
  have e1 : PyData.shownKv [(.str x, p)] = [PyData.shown (.str x) ++ ": " ++ p.shown] := by simp only [PyData.shownKv]
  rw [← e1]
  conv => lhs; unfold PyData.shown
theorem one_le {x : Str} {p : PyData} {n : Nat} (h : (PyData.shown (.dict [(.str x, p)])).length ≤ n) : (PyData.shown (.str x)).length ≤ n ∧ p.shown.length ≤ n := by
  rw [shown_one] at h
  have h := Nat.le_trans (dictText_mem_le (ps := [PyData.shown (.str x) ++ ": " ++ p.shown]) List.mem_cons_self) h
  rw [Str.length_append, Str.length_append] at h
  exact ⟨by omega, by omega⟩
theorem depth_one (x : Str) (p : PyData) : PyData.depth (.dict [(.str x, p)]) = p.depth + 1 := by
  simp only [PyData.depth, PyData.depthKv]
  omega
theorem show_one {x : Str} {p : PyData} (h : PyData.showable (.dict [(.str x, p)]) = true) : p.showable = true := by
  unfold PyData.showable PyData.showableKv at h
  simp only [Bool.and_eq_true] at h
  exact h.1.2
mutual
theorem DR.part (I : Inv X pins σ H s) : ∀ (p : PyData) (v : V) (u : Value), DR X.K H v p → RelV v u → p.showable = true → p.shown.length ≤ sizeLine → Part P w s u p
  | .none, _, _, h, r, _, _ => by cases h; cases r; exact leaf .none (by unfold PyData.shown; exact ReprIs.none)
  | .bool b, _, _, h, r, _, _ => by cases h; cases r; exact leaf (.bool b) (by unfold PyData.shown; exact ReprIs.bool b)
  | .int i, _, _, h, r, hs, _ => by
    cases h; obtain ⟨t, rfl⟩ := r
    exact leaf (.int i t) (by unfold PyData.shown; exact ReprIs.int t (by unfold PyData.showable at hs; simpa using hs))
  | .str y, _, _, h, r, _, hz => by
    cases h; obtain ⟨t, rfl⟩ := r
    exact leaf (.str y t) (by unfold PyData.shown at *; exact ReprIs.str y t hz)
  | .list ps, _, _, h, r, hs, hz => by
    cases h with
    | lst sq hd =>
      cases r
      obtain ⟨its, rv, ⟨o, n, g, hc, _, dt⟩, _⟩ := I.list sq
      have hz2 : (listText (PyData.shownAll ps)).length ≤ sizeLine := by unfold PyData.shown at hz; exact hz
      obtain ⟨as, bs, r1, r2, r3⟩ := DR.parts I ps _ its hd rv (by unfold PyData.showable at hs; exact hs) fun t ht => Nat.le_trans (listText_mem_le ht) hz2
      have rd : Reads s.heap _ (.list ps) _ := .list g hc dt r1
      have dd : PyData.depthAll ps + 1 = PyData.depth (.list ps) := by unfold PyData.depth; rfl
      have nm := not_mem_of_deeper rd (n := PyData.depthAll ps) (by omega) r2
      refine ⟨_, _, rd, ReadAtMost.cons rd (by omega) r2, ?_⟩
      rw [← dd]
      unfold PyData.shown
      cases its with
      | nil =>
        cases r1
        unfold PyData.shownAll
        rw [listText_nil]
        exact ReprK.listEmpty g hc dt
      | cons x l => exact ReprK.list g hc dt nm (by simpa using r3.length_eq) fun i y e => r3.item i y (by simpa using e)
  | .tuple ps, _, _, h, r, hs, hz => by
    cases h with
    | tup sq hd =>
      cases r
      obtain ⟨its, rv, ⟨o, g, hc, n, dt⟩, _⟩ := I.tuple sq
      have hz2 : (tupleText (PyData.shownAll ps)).length ≤ sizeLine := by unfold PyData.shown at hz; exact hz
      obtain ⟨as, bs, r1, r2, r3⟩ := DR.parts I ps _ its hd rv (by unfold PyData.showable at hs; exact hs) fun t ht => Nat.le_trans (tupleText_mem_le ht) hz2
      have rd : Reads s.heap _ (.tuple ps) _ := .tuple g hc dt r1
      have dd : PyData.depthAll ps + 1 = PyData.depth (.tuple ps) := by unfold PyData.depth; rfl
      have nm := not_mem_of_deeper rd (n := PyData.depthAll ps) (by omega) r2
      refine ⟨_, _, rd, ReadAtMost.cons rd (by omega) r2, ?_⟩
      rw [← dd]
      unfold PyData.shown
      exact ReprK.tuple g hc dt nm r3
  | .dict kvs, _, _, h, r, hs, hz => by
    cases h with
    | bare e =>
      cases r
      obtain ⟨o, n, g, hc, dt, sm⟩ := bare_at I e
      have rd : Reads s.heap _ (.dict []) _ := .dict (kvs := []) g hc dt .nil .nil
      refine ⟨_, _, rd, ReadAtMost.cons (n := 0) (bs := []) rd (Nat.zero_le _) (fun _ z => by cases z), ?_⟩
      have dd : PyData.depth (.dict []) = 0 + 1 := by unfold PyData.depth PyData.depthKv; rfl
      rw [dd]
      unfold PyData.shown PyData.shownKv
      exact ReprK.dict g hc dt sm (fun z => by cases z) .nil
    | @one _ x v p e hp =>
      cases r
      obtain ⟨o, en, n, t, g, hc, dt, sm, ek, ru⟩ := one_at I e
      obtain ⟨l1, l2⟩ := one_le hz
      obtain ⟨as, bs, r1, r2, r3⟩ := DR.part I p v en.val hp ru (show_one hs) l2
      have rd : Reads s.heap _ (.dict [(.str x, p)]) _ := .dict g hc dt (show ReadsAll s.heap [en.key] [.str x] ([] ++ []) from .cons (by rw [ek]; exact .str x t) .nil) (show ReadsAll s.heap [en.val] [p] (as ++ []) from .cons r1 .nil)
      have nm := not_mem_of_deeper rd (n := p.depth) (by rw [depth_one]; omega) r2
      have ra := ReadAtMost.cons rd (n := p.depth) (by rw [depth_one]; omega) r2
      refine ⟨_, _, rd, ra, ?_⟩
      rw [depth_one, shown_one]
      refine ReprK.dict g hc dt sm nm (.cons ?_ r3 .nil)
      rw [ek]
      exact .of_is (by unfold PyData.shown at l1 ⊢; exact ReprIs.str x t l1) _ _ _
theorem DR.parts (I : Inv X pins σ H s) : ∀ (ps : List PyData) (vs : List V) (us : List Value), DRs X.K H vs ps → Vals vs us → PyData.showableAll ps = true → (∀ t ∈ PyData.shownAll ps, t.length ≤ sizeLine) → Parts P w s us ps
  | [], _, _, h, r, _, _ => by
    cases h; cases r
    exact ⟨[], [], .nil, (fun _ z => by cases z), by unfold PyData.shownAll; exact .nil⟩
  | p :: ps, _, _, h, r, hs, hz => by
    cases h with
    | cons h1 h2 =>
      cases r with
      | cons q1 q2 =>
        unfold PyData.showableAll at hs
        rw [Bool.and_eq_true] at hs
        unfold PyData.shownAll at hz
        obtain ⟨a1, b1, x1, x2, x3⟩ := DR.part I p _ _ h1 q1 hs.1 (hz _ List.mem_cons_self)
        obtain ⟨a2, b2, y1, y2, y3⟩ := DR.parts I ps _ _ h2 q2 hs.2 fun t ht => hz t (List.mem_cons_of_mem _ ht)
        refine ⟨_, b1 ++ b2, .cons x1 y1, ?_, ?_⟩
        · unfold PyData.depthAll
          exact (x2.mono (Nat.le_max_left _ _)).append (y2.mono (Nat.le_max_right _ _))
        · unfold PyData.depthAll PyData.shownAll
          exact .cons ((x3.more fun b hb => List.mem_append_left _ hb).level_le (Nat.le_max_left _ _)) (y3.more_le (fun b hb => List.mem_append_right _ hb) (Nat.le_max_right _ _))
end
/-- the same at the outmost place -/
theorem shows (I : Inv X pins σ H s) {a : Addr} {p : PyData} (h : DR X.K H (.ref a) p) (hs : p.showable = true) (hz : p.shown.length ≤ sizeLine) : ∃ T idr, ShowsBy P w s.heap a p T idr := by
  cases h with
  | lst sq hd =>
    rename_i vs ps
    obtain ⟨its, rv, ⟨o, n, g, hc, _, dt⟩, _⟩ := I.list sq
    have hz2 : (listText (PyData.shownAll ps)).length ≤ sizeLine := by unfold PyData.shown at hz; exact hz
    obtain ⟨as, bs, r1, r2, r3⟩ := DR.parts (P := P) (w := w) I ps _ its hd rv (by unfold PyData.showable at hs; exact hs) fun t ht => Nat.le_trans (listText_mem_le ht) hz2
    have rd : Reads s.heap _ (.list ps) _ := .list g hc dt r1
    have dd : PyData.depthAll ps + 1 = PyData.depth (.list ps) := by unfold PyData.depth; rfl
    have nm := not_mem_of_deeper rd (n := PyData.depthAll ps) (by omega) r2
    refine ⟨"list", "list.__repr__", F.slot_list_repr.toG, F.slot_list_str, F.slot_list_format, fun s' k => ⟨o, k _ _ g, hc⟩, fun A E s' Q hg hu hk hQ => ?_⟩
    rw [← dd] at hu
    unfold PyData.shown at hQ
    cases its with
    | nil =>
      cases r1
      unfold PyData.shownAll at hQ
      rw [listText_nil] at hQ
      exact call_list_repr_empty ⟨o, hk _ _ g, hc⟩ (hk _ _ g) dt (hQ s'.heap _ _ fun _ _ z => z)
    | cons x l => exact call_list_reprK g hc dt nm (by simpa using r3.length_eq) (fun i y e => r3.item i y (by simpa using e)) hg (fun b _ => Clear.nil b) hu hk hQ hz2
  | tup sq hd =>
    rename_i vs ps
    obtain ⟨its, rv, ⟨o, g, hc, n, dt⟩, _⟩ := I.tuple sq
    have hz2 : (tupleText (PyData.shownAll ps)).length ≤ sizeLine := by unfold PyData.shown at hz; exact hz
    obtain ⟨as, bs, r1, r2, r3⟩ := DR.parts (P := P) (w := w) I ps _ its hd rv (by unfold PyData.showable at hs; exact hs) fun t ht => Nat.le_trans (tupleText_mem_le ht) hz2
    have rd : Reads s.heap _ (.tuple ps) _ := .tuple g hc dt r1
    have dd : PyData.depthAll ps + 1 = PyData.depth (.tuple ps) := by unfold PyData.depth; rfl
    have nm := not_mem_of_deeper rd (n := PyData.depthAll ps) (by omega) r2
    refine ⟨"tuple", "tuple.__repr__", F.slot_tuple_repr, F.slot_tuple_str, F.slot_tuple_format, fun s' k => ⟨o, k _ _ g, hc⟩, fun A E s' Q hg hu hk hQ => ?_⟩
    rw [← dd] at hu
    unfold PyData.shown at hQ
    exact call_tuple_reprK g hc dt nm r3 hg (fun b _ => Clear.nil b) hu hk hQ hz2
  | bare e =>
    obtain ⟨o, n, g, hc, dt, sm⟩ := bare_at I e
    refine ⟨"dict", "dict.__repr__", F.slot_dict_repr, F.slot_dict_str, F.slot_dict_format, fun s' k => ⟨o, k _ _ g, hc⟩, fun A E s' Q hg hu hk hQ => ?_⟩
    have dd : PyData.depth (.dict []) = 0 + 1 := by unfold PyData.depth PyData.depthKv; rfl
    rw [dd] at hu
    unfold PyData.shown PyData.shownKv at hQ
    exact call_dict_reprK (as := []) g hc dt sm (fun z => by cases z) .nil hg (fun b _ => Clear.nil b) hu hk hQ (by unfold PyData.shown PyData.shownKv at hz; exact hz)
  | @one _ x v p e hp =>
    obtain ⟨o, en, n, t, g, hc, dt, sm, ek, ru⟩ := one_at I e
    obtain ⟨l1, l2⟩ := one_le hz
    obtain ⟨as, bs, r1, r2, r3⟩ := DR.part (P := P) (w := w) I p v en.val hp ru (show_one hs) l2
    have rd : Reads s.heap _ (.dict [(.str x, p)]) _ := .dict g hc dt (show ReadsAll s.heap [en.key] [.str x] ([] ++ []) from .cons (by rw [ek]; exact .str x t) .nil) (show ReadsAll s.heap [en.val] [p] (as ++ []) from .cons r1 .nil)
    have nm := not_mem_of_deeper rd (n := p.depth) (by rw [depth_one]; omega) r2
    refine ⟨"dict", "dict.__repr__", F.slot_dict_repr, F.slot_dict_str, F.slot_dict_format, fun s' k => ⟨o, k _ _ g, hc⟩, fun A E s' Q hg hu hk hQ => ?_⟩
    rw [depth_one] at hu
    rw [shown_one] at hQ
    refine call_dict_reprK g hc dt sm nm (.cons ?_ r3 .nil) hg (fun b _ => Clear.nil b) hu hk hQ (by rw [shown_one] at hz; exact hz)
    rw [ek]
    exact .of_is (by unfold PyData.shown at l1 ⊢; exact ReprIs.str x t l1) _ _ _
end
def rRepr (K : PySem.W.Frag) : List V → Hp → VK → Prop := fun xs H Q => ∃ v p, xs = [v] ∧ DR K H v p ∧ p.showable = true ∧ p.shown.length ≤ sizeLine ∧ p.depth ≤ 64 ∧ Q (.str p.shown) H
theorem call_reprN {X : Cx} {k : Nat} (un : X.A.units + 16 * k + 200 < cLine) (hg : X.A.guards = some []) : CallR X (.builtin "repr") (rRepr X.K) := by
  intro pins s σ H xs us Q I rs h
  obtain ⟨v, p, rfl, hd, hs, hz, dp, q⟩ := h
  obtain ⟨u, rfl, r⟩ := vals1 rs
  cases v with
  | ref a =>
    cases r
    obtain ⟨T, idr, S⟩ := shows (P := X.prog) (w := X.w) I hd hs hz
    refine call_repr_slot (by omega) (S.typeIs s fun _ _ z => z) S.slotRepr (S.call X.A.in1 _ s _ hg (by show X.A.units + 1 + p.depth < cLine; omega) (fun _ _ z => z) fun h' u' tk hk => ⟨_, _, rfl, ?_⟩)
    exact ⟨.str p.shown, H, I.kept (t' := tk) fun b o e => hk b o e, ⟨_, rfl⟩, q⟩
  | non =>
    cases hd; cases r
    unfold PyData.shown at q
    exact PySem.P.repr_of_none ⟨.str _, H, I.tok _, ⟨_, rfl⟩, q⟩
  | bl b =>
    cases hd; cases r
    unfold PyData.shown at q
    exact PySem.P.repr_of_bool ⟨.str _, H, I.tok _, ⟨_, rfl⟩, q⟩
  | int i =>
    cases hd; obtain ⟨t, rfl⟩ := r
    unfold PyData.shown at q
    exact PySem.P.repr_of_int (by unfold PyData.showable at hs; simpa using hs) ⟨.str _, H, I.tok _, ⟨_, rfl⟩, q⟩
  | str y =>
    cases hd; obtain ⟨t, rfl⟩ := r
    unfold PyData.shown at q hz
    exact PySem.P.repr_of_str ⟨.str _, H, I.tok _, ⟨_, rfl⟩, q⟩ hz
  | _ => cases hd
theorem call_repr {X : Cx} {k : Nat} (hr : DG.RoomG k X.A) : CallR X (.builtin "repr") (rRepr X.K) := call_reprN hr.r.un hr.g
end RP

set_option autoImplicit false
set_option maxRecDepth 100000
set_option maxHeartbeats 4000000
/-! repr in the layer; truths as numbers; a text's capitals; str() of anything -/
namespace DL
open PySem PySem.Spec PyProof.Rows L2
mutual
def toR (M : Mem) : D → Option PyData
  | .non => some .none
  | .bl b => some (.bool b)
  | .int i => some (.int i)
  | .str s => some (.str s)
  | .tup ds => match toRs M ds with | some ps => some (.tuple ps) | none => none
  | .lst ds => match toRs M ds with | some ps => some (.list ps) | none => none
  | .cel a => match M a with | some (.dct []) => some (.dict []) | _ => none
  | _ => none
def toRs (M : Mem) : List D → Option (List PyData)
  | [] => some []
  | d :: ds => match toR M d, toRs M ds with | some p, some ps => some (p :: ps) | _, _ => none
end
section
variable {K : KZ} {Fr H0 H : Hp} {M : Mem}
mutual
theorem toR_ok (w : Wd K Fr H0 M H) : ∀ (d : D) (v : V) (p : PyData), Dat K H0 v d → toR M d = some p → RP.DR K H v p
  | .non, _, _, .non, e => by cases e; exact .non
  | .bl _, _, _, .bl b, e => by cases e; exact .bl b
  | .int _, _, _, .int b, e => by cases e; exact .int b
  | .str _, _, _, .str b, e => by cases e; exact .str b
  | .tup ds, _, _, .tup hs hd, e => by
    unfold toR at e
    split at e
    · rename_i ps q; cases e; exact .tup (same_t w.ex hs) (toRs_ok w ds _ ps hd q)
    · cases e
  | .lst ds, _, _, .lst hs hd, e => by
    unfold toR at e
    split at e
    · rename_i ps q; cases e; exact .lst (.of (w.ex _ _ hs)) (toRs_ok w ds _ ps hd q)
    · cases e
  | .cel a, _, _, .cel _, e => by
    unfold toR at e
    split at e
    · rename_i q
      cases e
      obtain ⟨_, o, ho, hc⟩ := w.mem _ _ q
      cases hc with
      | dct r => cases r; exact .bare (.inl ho)
    · cases e
  | .scr _, _, _, _, e => by cases e
  | .ty _, _, _, _, e => by cases e
  | .ftp _, _, _, _, e => by cases e
theorem toRs_ok (w : Wd K Fr H0 M H) : ∀ (ds : List D) (vs : List V) (ps : List PyData), Dats K H0 vs ds → toRs M ds = some ps → RP.DRs K H vs ps
  | [], _, _, .nil, e => by cases e; exact .nil
  | d :: ds, _, _, .cons h t, e => by
    unfold toRs at e
    split at e
    · rename_i p ps q1 q2
      cases e
      exact .cons (toR_ok w d _ p h q1) (toRs_ok w ds _ ps t q2)
    · cases e
end
def rdRepr : FD := fun ds M k => match ds with
  | [x] => (match toR M x with | some p => p.showable = true ∧ p.shown.length ≤ sizeLine ∧ p.depth ≤ 64 ∧ k (.str p.shown) M | none => False)
  | _ => False
theorem calld_repr : CallD K (RP.rRepr K) rdRepr := fun Fr H0 M H vs ds k Q w r h c => by
  unfold rdRepr at h
  split at h
  · obtain ⟨v, rfl, rv⟩ := dats1 r
    split at h
    · rename_i p e
      exact ⟨v, p, rfl, toR_ok w _ _ _ rv e, h.1, h.2.1, h.2.2.1, c _ H0 H _ M (Same.refl _) w (.str _) h.2.2.2⟩
    · exact h.elim
  · exact h.elim
end
theorem boot_repr : bootBuiltins "repr" = some (.builtin "repr") := by decide +kernel
theorem de_repr {X : CxZ} {k : Nat} {e : Expr} {we : WE} {p pos : Pos} (hr : DG.RoomG k X.A) (hm : X.mg "repr" = none) (he : DE X e we) (hs : starEach [e] X.env = (false, eval e X.env) :: starEach [] X.env := by rfl) (hg : Gl X "repr" := by rfl) (hpl : (backTo pos (starEach [] X.env)).any (·.1) = false := by rfl) :
    DE X (.Call (.Name "repr" p) [e] [] pos) (wCall rdRepr (wCons we wNil)) :=
  de_callB (RP.call_repr hr) calld_repr hm boot_repr (da_cons he da_nil hs) hg (by decide) (by decide) hs hpl
end DL

set_option autoImplicit false
set_option maxRecDepth 100000
set_option maxHeartbeats 4000000
/-! a tuple of anything, held against the empty one -/
namespace EQ
open PySem PySem.Spec PyProof.Rows L2
section
variable {X : Cx}
end
/-! a text held against a dict -/
/-! such a thing in a list or tuple of texts -/
section
variable {X : Cx} {pins : List (Addr × Obj)} {σ : List (Option V)} {H : Hp} {s : Shared}
end
end EQ

set_option autoImplicit false
set_option maxRecDepth 100000
set_option maxHeartbeats 4000000
/-! held against the empty tuple; anything looked for among texts -/
namespace DL
open PySem PySem.Spec PyProof.Rows L2
section
variable {X : CxZ} {K : KZ}
/-- none of the dicts whose keys are tuples -/
def oldC : Cell → Bool
  | .dnt .. => false
  | .rng .. => false
  | .ctab .. => false
  | .dcf .. => false
  | .ins .. => false
  | .exc _ _ _ => false
  | _ => true
end
end DL

set_option autoImplicit false
set_option maxRecDepth 100000
set_option maxHeartbeats 4000000
/-! str() of what is no text, a text's capitals -/
namespace DL
open PySem PySem.Spec PyProof.Rows L2
section
variable {X : CxZ}
/-! + and - where a truth may stand for a number -/
end
end DL

set_option autoImplicit false
set_option maxRecDepth 100000
set_option maxHeartbeats 4000000
/-! data whose showing fits: plain signs, numbers below 10 ** 12, bare dicts alone; its weight and depth -/
namespace DL
open PySem PySem.Spec PyProof.Rows L2
def plain (s : Str) : Bool := s.cps.toList.all fun c => decide (c < 128)
mutual
def fit (N : Nat) (M : Mem) : D → Bool
  | .non => true
  | .bl _ => true
  | .int i => decide (i.natAbs < N)
  | .str s => plain s
  | .tup ds => fits N M ds
  | .lst ds => fits N M ds
  | .cel a => match M a with | some (.dct []) => true | _ => false
  | _ => false
def fits (N : Nat) (M : Mem) : List D → Bool
  | [] => true
  | d :: ds => fit N M d && fits N M ds
end
mutual
def heavy : D → Nat
  | .int _ => 41
  | .str s => s.length
  | .tup ds => heavies ds
  | .lst ds => heavies ds
  | _ => 0
def heavies : List D → Nat
  | [] => 0
  | d :: ds => heavy d + 1 + heavies ds
end
mutual
def far : D → Nat
  | .tup ds => fars ds + 1
  | .lst ds => fars ds + 1
  | .cel _ => 1
  | _ => 0
def fars : List D → Nat
  | [] => 0
  | d :: ds => max (far d) (fars ds)
end
theorem log_small {i : Int} (h : i.natAbs < 10 ^ 12) : i.natAbs.log2 ≤ 40 := by
  by_cases z : i.natAbs = 0
  · rw [z]; decide
  · have : i.natAbs.log2 < 41 := (Nat.log2_lt z).mpr (by omega)
    omega
mutual
theorem fit_R {N : Nat} {M : Mem} (hN : N ≤ 10 ^ 12) : ∀ d, fit N M d = true → ∃ p, toR M d = some p ∧ p.showable = true ∧ p.leavesShort 13 = true ∧ p.weight ≤ heavy d ∧ p.depth = far d
  | .non, _ => ⟨_, rfl, by unfold PyData.showable; rfl, by unfold PyData.leavesShort; rfl, by unfold PyData.weight; omega, by unfold PyData.depth far; rfl⟩
  | .bl _, _ => ⟨_, rfl, by unfold PyData.showable; rfl, by unfold PyData.leavesShort; rfl, by unfold PyData.weight; omega, by unfold PyData.depth far; rfl⟩
  | .int i, h => by
    unfold fit at h
    have h : i.natAbs < 10 ^ 12 := Nat.lt_of_lt_of_le (of_decide_eq_true h) hN
    have lg := log_small h
    refine ⟨_, rfl, by unfold PyData.showable; exact decide_eq_true (by omega), by unfold PyData.leavesShort; exact decide_eq_true (PyData.shown_int_le h), ?_, by unfold PyData.depth far; rfl⟩
    unfold PyData.weight heavy
    split <;> omega
  | .str s, h => by
    unfold fit plain at h
    refine ⟨_, rfl, by unfold PyData.showable; rfl, ?_, by unfold PyData.weight heavy; exact Nat.le_refl _, by unfold PyData.depth far; rfl⟩
    unfold PyData.leavesShort
    rw [List.all_eq_true] at h ⊢
    intro c hc
    have := of_decide_eq_true (h c hc)
    exact decide_eq_true (by omega)
  | .tup ds, h => by
    unfold fit at h
    obtain ⟨ps, e, a, b, c, d⟩ := fits_R hN ds h
    exact ⟨.tuple ps, by unfold toR; rw [e], by unfold PyData.showable; exact a, by unfold PyData.leavesShort; exact b, by unfold PyData.weight heavy; exact c, by unfold PyData.depth far; rw [d]⟩
  | .lst ds, h => by
    unfold fit at h
    obtain ⟨ps, e, a, b, c, d⟩ := fits_R hN ds h
    exact ⟨.list ps, by unfold toR; rw [e], by unfold PyData.showable; exact a, by unfold PyData.leavesShort; exact b, by unfold PyData.weight heavy; exact c, by unfold PyData.depth far; rw [d]⟩
  | .cel a, h => by
    unfold fit at h
    split at h
    · rename_i q
      exact ⟨.dict [], by unfold toR; rw [q], by unfold PyData.showable PyData.showableKv; rfl, by unfold PyData.leavesShort PyData.leavesShortKv; rfl, by unfold PyData.weight PyData.weightKv; omega, by unfold PyData.depth PyData.depthKv far; rfl⟩
    · cases h
  | .scr _, h => by unfold fit at h; cases h
  | .ty _, h => by unfold fit at h; cases h
  | .ftp _, h => by unfold fit at h; cases h
theorem fits_R {N : Nat} {M : Mem} (hN : N ≤ 10 ^ 12) : ∀ ds, fits N M ds = true → ∃ ps, toRs M ds = some ps ∧ PyData.showableAll ps = true ∧ PyData.leavesShortAll 13 ps = true ∧ PyData.weightAll ps ≤ heavies ds ∧ PyData.depthAll ps = fars ds
  | [], _ => ⟨[], rfl, by unfold PyData.showableAll; rfl, by unfold PyData.leavesShortAll; rfl, by unfold PyData.weightAll heavies; omega, by unfold PyData.depthAll fars; rfl⟩
  | d :: ds, h => by
    unfold fits at h
    rw [Bool.and_eq_true] at h
    obtain ⟨p, e1, a1, b1, c1, d1⟩ := fit_R hN d h.1
    obtain ⟨ps, e2, a2, b2, c2, d2⟩ := fits_R hN ds h.2
    refine ⟨p :: ps, by unfold toRs; rw [e1, e2], by unfold PyData.showableAll; rw [a1, a2]; rfl, by unfold PyData.leavesShortAll; rw [b1, b2]; rfl, ?_, by unfold PyData.depthAll fars; rw [d1, d2]⟩
    unfold PyData.weightAll heavies
    omega
end
/-- repr of such data: some text, the same whenever it is asked -/
theorem r_repr {N : Nat} {M : Mem} {d : D} {k : KD} (hN : N ≤ 10 ^ 12) (h : fit N M d = true) (hh : heavy d ≤ 1000000) (hf : far d ≤ 64) (hk : ∀ p, toR M d = some p → k (.str p.shown) M) : rdRepr [d] M k := by
  obtain ⟨p, e, a, b, c, dd⟩ := fit_R hN d h
  unfold rdRepr
  simp only [e]
  exact ⟨a, PyData.shown_fits (by decide) (by decide) b (by omega), by omega, hk p e⟩
end DL

set_option autoImplicit false
set_option maxRecDepth 100000
set_option maxHeartbeats 4000000
/-! what is shown of plain data is plain; capitals of plain texts -/
namespace DL
open PySem PySem.Spec PyProof.Rows L2
theorem plain_iff {s : Str} : plain s = true ↔ ∀ c ∈ s.cps.toList, c < 128 := by
  unfold plain
  rw [List.all_eq_true]
  exact ⟨fun h c hc => of_decide_eq_true (h c hc), fun h c hc => decide_eq_true (h c hc)⟩
theorem plain_app {s t : Str} (h : plain s = true) (g : plain t = true) : plain (s ++ t) = true := by
  rw [plain_iff] at *
  intro c hc
  have e : (s ++ t).cps.toList = s.cps.toList ++ t.cps.toList := by show (s.cps ++ t.cps).toList = _; simp
  rw [e] at hc
  rcases List.mem_append.mp hc with z | z
  · exact h c z
  · exact g c z
theorem char_plain : ∀ q ∈ [34, 39], ∀ c < 128, (PySem.Builtin.Str.reprChar q c).all (fun x => decide (x < 128)) = true := by decide +kernel
theorem quote_in (x : Str) : reprQuote x ∈ [34, 39] := by
  unfold reprQuote; split <;> simp
theorem fold_plain (q : Nat) (hq : q ∈ [34, 39]) : ∀ (l : List Nat) (acc : Array Nat), (∀ c ∈ l, c < 128) → (∀ c ∈ acc.toList, c < 128) → ∀ c ∈ (l.foldl (fun out c => out ++ (PySem.Builtin.Str.reprChar q c).toArray) acc).toList, c < 128
  | [], acc, _, h => h
  | a :: l, acc, hl, h => by
    rw [List.foldl_cons]
    refine fold_plain q hq l _ (fun c hc => hl c (List.mem_cons_of_mem _ hc)) fun c hc => ?_
    rw [Array.toList_append] at hc
    rcases List.mem_append.mp hc with z | z
    · exact h c z
    · have := List.all_eq_true.mp (char_plain q hq a (hl a List.mem_cons_self)) c (by simpa using z)
      exact of_decide_eq_true this
theorem text_plain {x : Str} (h : plain x = true) : plain (reprText x) = true := by
  rw [plain_iff] at *
  have q := quote_in x
  have q2 : reprQuote x < 128 := by
    simp only [List.mem_cons, List.not_mem_nil, or_false] at q
    omega
  intro c hc
  unfold reprText at hc
  simp only [Array.toList_push, ← Array.foldl_toList] at hc
  rcases List.mem_append.mp hc with z | z
  · exact fold_plain _ q x.cps.toList #[reprQuote x] h (fun c hc => by simp at hc; omega) c z
  · rw [List.mem_singleton] at z; omega
theorem join_plain (sep : Str) (hs : plain sep = true) : ∀ ts : List Str, (∀ t ∈ ts, plain t = true) → plain (Str.join sep ts) = true
  | [], _ => by show plain Str.empty = true; decide
  | [x], h => h x List.mem_cons_self
  | x :: y :: r, h => by
    show plain (x ++ sep ++ Str.join sep (y :: r)) = true
    exact plain_app (plain_app (h x List.mem_cons_self) hs) (join_plain sep hs (y :: r) fun t ht => h t (List.mem_cons_of_mem _ ht))
theorem from_plain : ∀ (ts : List Str) (k : Nat) (acc : Str), plain acc = true → (∀ t ∈ ts, plain t = true) → plain (textFrom k acc ts) = true
  | [], _, acc, h, _ => h
  | t :: ts, k, acc, h, g => by
    refine from_plain ts (k + 1) _ (plain_app (plain_app h ?_) (g t List.mem_cons_self)) fun t ht => g t (List.mem_cons_of_mem _ ht)
    split <;> decide +kernel
theorem list_plain {ts : List Str} (h : ∀ t ∈ ts, plain t = true) : plain (listText ts) = true :=
  plain_app (from_plain ts 0 _ (by decide +kernel) h) (by decide +kernel)
theorem tup_plain {ts : List Str} (h : ∀ t ∈ ts, plain t = true) : plain (tupleText ts) = true := by
  unfold tupleText
  refine plain_app (plain_app (by decide +kernel) (join_plain _ (by decide +kernel) ts h)) ?_
  split <;> decide +kernel
theorem num_plain (i : Int) : plain (Str.ofString (toString i)) = true := by
  rw [plain_iff]
  intro c hc
  rcases Nat.lt_or_ge c 128 with h | h
  · exact h
  · exact absurd hc (int_text_free' c ⟨by omega, by omega⟩ i)
mutual
theorem shown_plain {N : Nat} {M : Mem} : ∀ (d : D) (p : PyData), fit N M d = true → toR M d = some p → plain p.shown = true
  | .non, _, _, e => by cases e; unfold PyData.shown; decide +kernel
  | .bl b, _, _, e => by cases e; unfold PyData.shown; cases b <;> decide +kernel
  | .int i, _, _, e => by cases e; unfold PyData.shown; exact num_plain i
  | .str s, _, h, e => by cases e; unfold PyData.shown; unfold fit at h; exact text_plain h
  | .tup ds, _, h, e => by
    unfold fit at h
    unfold toR at e
    split at e
    · rename_i ps q; cases e; unfold PyData.shown; exact tup_plain (showns_plain ds ps h q)
    · cases e
  | .lst ds, _, h, e => by
    unfold fit at h
    unfold toR at e
    split at e
    · rename_i ps q; cases e; unfold PyData.shown; exact list_plain (showns_plain ds ps h q)
    · cases e
  | .cel a, _, h, e => by
    unfold toR at e
    split at e
    · cases e; unfold PyData.shown PyData.shownKv; decide +kernel
    · cases e
  | .scr _, _, _, e => by cases e
  | .ty _, _, _, e => by cases e
  | .ftp _, _, _, e => by cases e
theorem showns_plain {N : Nat} {M : Mem} : ∀ (ds : List D) (ps : List PyData), fits N M ds = true → toRs M ds = some ps → ∀ t ∈ PyData.shownAll ps, plain t = true
  | [], _, _, e => by cases e; unfold PyData.shownAll; intro t ht; cases ht
  | d :: ds, _, h, e => by
    unfold fits at h
    rw [Bool.and_eq_true] at h
    unfold toRs at e
    split at e
    · rename_i p ps q1 q2
      cases e
      unfold PyData.shownAll
      intro t ht
      rcases List.mem_cons.mp ht with z | z
      · rw [z]; exact shown_plain d p h.1 q1
      · exact showns_plain ds ps h.2 q2 t z
    · cases e
end
end DL

set_option autoImplicit false
set_option maxRecDepth 100000
set_option maxHeartbeats 4000000
/-! a module's dict with text keys: get, an item, in; statements one behind another -/
namespace DL
open PySem PySem.Spec PyProof.Rows L2
inductive Ents : List (Str × V) → List DictEntry → Prop
  | nil : Ents [] []
  | cons {k : Str} {v : V} {kvs : List (Str × V)} {e : DictEntry} {es : List DictEntry} (t : Tok) : e.key = .str k t → RelV v e.val → Ents kvs es → Ents ((k, v) :: kvs) (e :: es)
structure MDict (K : PySem.W.Frag) (w : World) (mg : Str → Option Value) (x : Str) (kvs : List (Str × V)) : Prop where
  ex : ∃ a es n, mg x = some (.ref a) ∧ KDict K w a es n ∧ Ents kvs es.toList
section
variable {X : CxZ} {x : Str} {kvs : List (Str × V)} {p apos cpos pos : Pos} {e : Expr} {ty : TE}
end
/-! by data -/
section
variable {X : CxZ} {x : Str} {kvs : List (Str × D)} {p apos cpos pos : Pos} {e : Expr} {we : WE}
/-! statements one behind another -/
theorem seq_step {u v : WS} {k : KS} {Γ : DL.Env} {M : Mem} (h : u ⟨v k, k.rt, k.bk, k.ct⟩ Γ M) : wSeq u v k Γ M := h
/-- a cut: what holds between them -/
theorem seq_join {u v : WS} {k : KS} {Γ : DL.Env} {M : Mem} (J : DL.Env → Mem → Prop) (h1 : ∀ Γ' M', J Γ' M' → v k Γ' M') (h2 : ∀ n : DL.Env → Mem → Prop, (∀ Γ' M', J Γ' M' → n Γ' M') → u ⟨n, k.rt, k.bk, k.ct⟩ Γ M) : wSeq u v k Γ M := h2 _ h1
end
section
variable {P : Program} {w : World} {K : PySem.W.Frag} {mg : Str → Option Value} {base : Heap}
theorem DFn.or {k : Nat} {f : Addr} {fd : FuncData} {ps : List Str} {F1 F2 : FD} (G1 : DFn P w K mg base k f fd ps F1) (G2 : DFn P w K mg base k f fd ps F2) : DFn P w K mg base k f fd ps (fun ds M kd => F1 ds M kd ∨ F2 ds M kd) :=
  ⟨fun vs H Q E ⟨Fr, H0, M, ds, kd, a, b, c, d⟩ => c.elim (fun q => G1.len vs H Q E ⟨Fr, H0, M, ds, kd, a, b, q, d⟩) (fun q => G2.len vs H Q E ⟨Fr, H0, M, ds, kd, a, b, q, d⟩),
   fun A o s H as us vs Q E r e bi v ⟨Fr, H0, M, ds, kd, a, b, c, d⟩ => c.elim (fun q => G1.run A o s H as us vs Q E r e bi v ⟨Fr, H0, M, ds, kd, a, b, q, d⟩) (fun q => G2.run A o s H as us vs Q E r e bi v ⟨Fr, H0, M, ds, kd, a, b, q, d⟩)⟩
/-- a contract over many -/
theorem DFn.all {ι : Type} {k : Nat} {f : Addr} {fd : FuncData} {ps : List Str} {F : ι → FD} (i0 : ι) (G : ∀ i, DFn P w K mg base k f fd ps (F i)) : DFn P w K mg base k f fd ps (fun ds M kd => ∃ i, F i ds M kd) :=
  ⟨fun vs H Q E ⟨Fr, H0, M, ds, kd, a, b, ⟨i, c⟩, d⟩ => (G i).len vs H Q E ⟨Fr, H0, M, ds, kd, a, b, c, d⟩,
   fun A o s H as us vs Q E r e bi v ⟨Fr, H0, M, ds, kd, a, b, ⟨i, c⟩, d⟩ => (G i).run A o s H as us vs Q E r e bi v ⟨Fr, H0, M, ds, kd, a, b, c, d⟩⟩
theorem DFn.none {k : Nat} {f : Addr} {fd : FuncData} {ps : List Str} : DFn P w K mg base k f fd ps (fun _ _ _ => False) :=
  ⟨fun vs H Q E ⟨_, _, _, _, _, _, _, h, _⟩ => h.elim, fun A outer s H args us vs Q E _ _ _ _ ⟨_, _, _, _, _, _, _, h, _⟩ => h.elim⟩
end
end DL

set_option autoImplicit false
set_option maxRecDepth 100000
set_option maxHeartbeats 4000000
/-! a def called without arguments -/
namespace DG
open PySem PySem.Spec PyProof.Rows L2
end DG
namespace DL
open PySem PySem.Spec PyProof.Rows L2
section
variable {X : CxZ} {K : KZ} {e a b : Expr} {es : List Expr}
def wCall0 (F : FD) : WE := fun _ M k => F [] M k
/-- two texts as they are -/
theorem eq_strA {f : Bool → Bool} {s t : Str} {M : Mem} {k : KD} (h : k (.bl (f (decide (s = t)))) M) : rdEq f (.str s) (.str t) M k := h
end
end DL

set_option autoImplicit false
set_option maxRecDepth 100000
set_option maxHeartbeats 4000000
/-! a local that holds one of several defs -/
namespace DG
open PySem PySem.Spec PyProof.Rows L2
section
variable {X : Cx} {k i : Nat} {x : Str} {p pos : Pos} {e : Expr} {es : List Expr} {t : TA}
/-- which defs may be called so -/
structure HeldG (P : Program) (w : World) (K : PySem.W.Frag) (mg : Str → Option Value) (base : Heap) (k : Nat) (f : Addr) (sp : Sp) : Prop where
  ex : ∃ (fd : FuncData) (ps : List Str), FnG P w K mg base CX0 k f fd ps sp ∧ PySem.W.keepIn K (.ref f) = true ∧ Binds K fd ps []
end
end DG
namespace DL
open PySem PySem.Spec PyProof.Rows L2
section
variable {X : CxZ} {K : KZ} {e a b : Expr} {es : List Expr}
structure HeldD (P : Program) (w : World) (K : PySem.W.Frag) (mg : Str → Option Value) (base : Heap) (k : Nat) (f : Addr) (F : FD) : Prop where
  ex : ∃ (fd : FuncData) (ps : List Str), DFn P w K mg base k f fd ps F ∧ PySem.W.keepIn K (.ref f) = true ∧ Binds K fd ps []
theorem Def.held {P : Program} {w : World} {K : PySem.W.Frag} {mg : Str → Option Value} {base : Heap} {k : Nat} {x : Str} {st : Stmt} {ps : List Str} {f : Addr} {fd : FuncData} {F : FD} (d : Def K mg x st ps f fd) (G : DFn P w K mg base k f fd ps F) : HeldD P w K mg base k f F :=
  ⟨fd, ps, G, d.F.kp, d.b⟩
/-! a dict written with texts for keys and whole numbers -/
inductive DPs : List (Option Expr) → List Expr → List (Str × Int) → Prop
  | nil : DPs [] [] []
  | cons {s : Str} {i : Int} {j1 j2} {p1 p2 : Pos} {ks : List (Option Expr)} {vs : List Expr} {l : List (Str × Int)} : DPs ks vs l → DPs (some (.Constant (.str s) j1 p1) :: ks) (.Constant (.int i) j2 p2 :: vs) ((s, i) :: l)
theorem DPs.len {ks : List (Option Expr)} {vs : List Expr} {l : List (Str × Int)} (h : DPs ks vs l) : ks.length = l.length ∧ vs.length = l.length ∧ ks.all (·.isSome) = true := by
  induction h with
  | nil => exact ⟨rfl, rfl, rfl⟩
  | cons _ ih => obtain ⟨a, b, c⟩ := ih; exact ⟨by simp [a], by simp [b], by simp only [List.all_cons, c]; rfl⟩
/-- xs.extend(ys) -/
def rdExtend : D → List D → Mem → KD → Prop := fun x ds M k => match x, ds with
  | .cel a, [y] => (match M a, asL M y with | some (.lst xs), some ys => xs.length + ys.length ≤ sizeLine ∧ k .non (setM M a (.lst (xs ++ ys))) | _, _ => False)
  | _, _ => False
theorem mtd_extend : MtD K rExtend rdExtend := fun Fr H0 M H v d vs ds k Q w r rs h c => by
  cases d with
  | cel a =>
    match ds, rs, h with
    | [y], rs, h =>
      simp only [rdExtend] at h
      split at h
      · rename_i xs ys ea ey
        obtain ⟨u, rfl, ru⟩ := dats1 rs
        cases r
        obtain ⟨n0, o, ho, hc⟩ := w.mem a _ ea
        cases hc with
        | lst rd =>
          obtain ⟨b, ws, rfl, h2, d2⟩ := asL_ok w ru ey
          refine ⟨a, b, _, ws, rfl, rfl, ho, h2, by rw [rd.length, d2.length]; exact h.1, ?_⟩
          exact c _ H0 _ _ _ (Same.refl _) (w.set ea (.lst (rd.append d2))) .non h.2
      · exact h.elim
    | [], _, h => exact h.elim
    | _ :: _ :: _, _, h => exact h.elim
  | _ => exact h.elim
theorem de_extend {o : Expr} {apos cpos : Pos} {wo we : WE} (ho : DE X o wo) (he : DE X e we)
    (hs : starEach [e] X.env = [(false, eval e X.env)] := by rfl)
    (hbase : attributeBase o "extend" X.env (eval o X.env) = eval o X.env := by rfl)
    (hfew : ((backTo cpos (starEach [e] X.env)).all (fun x => !x.1) && (backToKw cpos (keywordEach [] X.env)).all (fun x => x.1.isSome)
      && decide ([e].length + ([] : List Keyword).length + (if ([] : List Keyword).isEmpty then 0 else 1) < 30)) = true := by rfl)
    (hline : (apos.endLine == cpos.line) = true := by rfl) (hplain : (backTo cpos (starEach [] X.env)).any (·.1) = false := by rfl) : DE X (.Call (.Attribute o "extend" apos) [e] [] cpos) (wMt rdExtend wo (wCons we wNil)) :=
  de_mt PySem.F.slot_list_extend PySem.F.type_list_extend mt_extend mtd_extend ho (da_cons he da_nil hs) hbase hfew hline hs hplain
theorem r_ext {M : Mem} {a : Addr} {xs ys : List D} {y : D} {k : KD} (e : M a = some (.lst xs)) (ey : asL M y = some ys) (hz : xs.length + ys.length ≤ sizeLine) (hk : k .non (setM M a (.lst (xs ++ ys)))) : rdExtend (.cel a) [y] M k := by
  unfold rdExtend; simp only [e, ey]; exact ⟨hz, hk⟩
end
end DL

set_option autoImplicit false
set_option maxRecDepth 100000
set_option maxHeartbeats 4000000
/-! sets of texts, made of a list of texts: counted, or laid out in their order -/

namespace TS
open PySem PySem.Spec PyProof.Rows L2 PySem.Froz
section
variable {P : Program} {w : World} {A : Around} {E : Value → Shared → Prop} {s : Shared} {a : Addr} {l : List Str}
end
end TS
namespace DL
open PySem PySem.Spec PyProof.Rows L2
section
variable {X : CxZ} {K : KZ}
end
end DL

set_option autoImplicit false
set_option maxRecDepth 100000
set_option maxHeartbeats 4000000
namespace DL
open PySem PySem.Spec PyProof.Rows L2
section
variable {X : CxZ} {K : KZ}
end
end DL

set_option autoImplicit false
set_option maxRecDepth 100000
set_option maxHeartbeats 2000000
namespace DL
open PySem PySem.Spec PyProof.Rows L2
open Sem (wp)
/-! zip of a tuple and a list -/
structure Apt (z tI tO j1 j2 a b : Addr) : Prop where
  S : ZipSep2 z tI tO j1 j2 [j1, a] [j2, b]
  na : a ≠ j1
  nb : b ≠ j2
end DL
namespace DL
open PySem PySem.Spec PyProof.Rows L2
section
variable {X : CxZ} {e e2 : Expr} {elts : List Expr} {kk : Nat} {tpos p pos : Pos} {wa : WA}
end
end DL

set_option autoImplicit false
set_option maxRecDepth 100000
set_option maxHeartbeats 4000000
/-! anything held against the empty tuple -/
namespace EQ
open PySem PySem.Spec PyProof.Rows L2
section
variable {X : Cx}
end
end EQ
namespace DL
open PySem PySem.Spec PyProof.Rows L2
section
variable {X : CxZ} {K : KZ}
end
end DL

set_option autoImplicit false
set_option maxRecDepth 100000
set_option maxHeartbeats 4000000
namespace DL
open PySem PySem.Spec PyProof.Rows L2
section
variable {X : CxZ} {K : KZ} {e a b : Expr}
/-- xs * n, of a list -/
def rdRep : D → D → Mem → KD → Prop := fun x y M k => match asL M x, y with
  | some xs, .int n => (-(2 ^ 63) ≤ n ∧ n < 2 ^ 63) ∧ xs.length * n.toNat ≤ sizeLine ∧ k (.lst (List.replicate n.toNat xs).flatten) M
  | _, _ => False
theorem dats_flat {H : Hp} {vs : List V} {ds : List D} (h : Dats K H vs ds) : ∀ n : Nat, Dats K H (List.replicate n vs).flatten (List.replicate n ds).flatten
  | 0 => .nil
  | n + 1 => by
    rw [List.replicate_succ, List.replicate_succ, List.flatten_cons, List.flatten_cons]
    exact h.append (dats_flat h n)
theorem opd_rep : OpD K rRep rdRep := fun Fr H0 M H x y vx vy k Q w rx ry h c => by
  unfold rdRep at h
  split at h
  · rename_i xs n e1
    obtain ⟨a, vs, rfl, h1, d1⟩ := asL_ok w rx e1
    cases ry
    refine ⟨a, _, vs, rfl, rfl, h1, h.1.1, h.1.2, by rw [d1.length]; exact h.2.1, fun p hp => ?_⟩
    exact c _ _ _ _ M (same_new (w.fresh hp)) (w.new hp) (.lst upd_same ((dats_flat d1 _).mono (same_new (w.fresh hp)))) h.2.2
  · exact h.elim
theorem de_rep {wa wb : WE} {pos : Pos} (ha : DE X a wa) (hb : DE X b wb) : DE X (.BinOp a .Mult b pos) (wOp rdRep wa wb) := de_op op_rep opd_rep ha hb
end
end DL

set_option autoImplicit false
set_option maxRecDepth 100000
set_option maxHeartbeats 4000000
/-! sorted of texts, min and max of two whole numbers, a text's place in a list -/
namespace DL
open PySem PySem.Spec PyProof.Rows L2
section
variable {K : KZ} {X : CxZ}
def rdTwoI (g : Int → Int → Int) : FD := fun ds M k => match ds with | [.int i, .int j] => k (.int (g i j)) M | _ => False
theorem calld_two (g : Int → Int → Int) : CallD K (fun xs H Q => ∃ i j, xs = [.int i, .int j] ∧ Q (.int (g i j)) H) (rdTwoI g) := fun Fr H0 M H vs ds k Q w r h c => by
  unfold rdTwoI at h
  split at h
  · obtain ⟨v, u, rfl, rv, ru⟩ := dats2 r
    cases rv; cases ru
    exact ⟨_, _, rfl, c _ H0 H _ M (Same.refl _) w (.int _) h⟩
  · exact h.elim
theorem boot_min : bootBuiltins "min" = some (.builtin "min") := by decide +kernel
theorem de_min2 {a b : Expr} {wa wb : WE} {p pos : Pos} (hc : X.calm = true) (hm : X.mg "min" = none) (ha : DE X a wa) (hb : DE X b wb) (hs : starEach [a, b] X.env = (false, eval a X.env) :: starEach [b] X.env := by rfl) (hs2 : starEach [b] X.env = (false, eval b X.env) :: starEach [] X.env := by rfl)
    (hg : Gl X "min" := by rfl) (hpl : (backTo pos (starEach [b] X.env)).any (·.1) = false := by rfl) : DE X (.Call (.Name "min" p) [a, b] [] pos) (wCall (rdTwoI fun i j => if j < i then j else i) (wCons wa (wCons wb wNil))) :=
  de_callB (call_min2 hc) (calld_two _) hm boot_min (da_cons ha (da_cons hb da_nil hs2) hs) hg (by decide) (by decide) hs hpl
theorem r_min2 {i j : Int} {M : Mem} {k : KD} (h : k (.int (if j < i then j else i)) M) : rdTwoI (fun i j => if j < i then j else i) [.int i, .int j] M k := h
end
end DL

set_option autoImplicit false
set_option maxRecDepth 100000
set_option maxHeartbeats 4000000
/-! sorting by keys that are compared place by place up to the first that differs: tuples whose later places may be of unlike kinds -/
namespace SX
open PySem PySem.W PySem.SeqAt PySem.Calls PyProof.Rows
open AutoSeq1 (wpAny_loadPart')
open MeetsSeq MeetsSeq2 MeetsSeq3 SeqRoads2
/-! data that can be compared -/
mutual
def cmpb : PyData → PyData → Bool
  | .none, .none => true
  | .bool _, .bool _ => true
  | .int _, .int _ => true
  | .str _, .str _ => true
  | .list xs, .list ys => alikeAll xs ys
  | .tuple xs, .tuple ys => cmpbs xs ys
  | _, _ => false
def cmpbs : List PyData → List PyData → Bool
  | x :: xs, y :: ys => cmpb x y && (!PyData.eqv x y || cmpbs xs ys)
  | [], _ => true
  | _ :: _, [] => true
end
section
variable {prog : Program} {w : World} {A : Around} {E : Value → Shared → Prop} {s : Shared}
end
/-! one value reads as one datum -/
/-- every two can be compared, and are laid out plainly -/
structure AllC (ds : List PyData) : Prop where
  cmp : ∀ d, d ∈ ds → ∀ d', d' ∈ ds → cmpb d d' = true
  lay : ∀ d, d ∈ ds → d.canLay0 = true
end SX

set_option autoImplicit false
set_option maxRecDepth 100000
set_option maxHeartbeats 4000000
/-! sorted(xs, key=f), f a def of the program that makes what it likes and changes nothing -/
namespace SX
open PySem PySem.W PySem.SeqAt PySem.Calls PyProof.Rows
section
variable {prog : Program} {w : World} {A : Around} {E : Value → Shared → Prop} {s : Shared} {a kS : Addr} {b : Bool} {vs : List Value} {keys : Array Value} {e e1 : Nat} {P : PySem.Fin → Shared → Prop}
end
end SX
namespace DL
open PySem L2
section
variable {K : KZ} {Fr H0 H : Hp} {M M' : Mem}
/-- what is told of stays told of -/
def ExtA (M M' : Mem) : Prop := ∀ a c, M a = some c → M' a = some c
theorem ExtA.refl (M : Mem) : ExtA M M := fun _ _ e => e
theorem ExtA.trans {M M1 M2 : Mem} (a : ExtA M M1) (b : ExtA M1 M2) : ExtA M M2 := fun x c e => b x c (a x c e)
theorem ExtA.new {M M1 : Mem} {p : Addr} {c : Cell} (e : ExtA M M1) (hp : M p = none) : ExtA M (setM M1 p c) := fun a x q => by rw [setM_ne (neM q hp)]; exact e a x q
theorem ExtA.none {M M1 : Mem} {p : Addr} (e : ExtA M M1) (hp : M1 p = none) : M p = none := by
  cases q : M p with
  | none => rfl
  | some c => rw [e p c q] at hp; cases hp
end
end DL

set_option autoImplicit false
set_option maxRecDepth 100000
set_option maxHeartbeats 4000000
namespace DL
open PySem PySem.Spec PyProof.Rows L2
/-- what is asked of the keys -/
structure KeysOk (ds : List D) (key : D → PyData) : Prop where
  all : SX.AllC (ds.map key)
  srt : PySem.W.Sortable (ds.map key)
  dep : ∀ d ∈ ds, (key d).depth ≤ 64
/-! sorted of a tuple -/
section
variable {X : CxZ} {f : Addr} {fd : FuncData} {F : FD} {kk : Nat} {q : Str}
end
end DL

set_option autoImplicit false
set_option maxRecDepth 100000
set_option maxHeartbeats 4000000
namespace DL
open PySem PySem.Spec PyProof.Rows L2
section
variable {X : CxZ} {f : Addr} {fd : FuncData} {F : FD} {kk j : Nat} {q g : Str} {st : Stmt}
end
end DL

set_option autoImplicit false
set_option maxRecDepth 100000
set_option maxHeartbeats 4000000
/-! xs[::-1] of a list -/
namespace DL
open PySem L2
section
variable {X : CxZ}
end
end DL

set_option autoImplicit false
set_option maxRecDepth 100000
set_option maxHeartbeats 4000000
/-! data without cells: what repr tells of it hangs on nothing else -/
namespace DL
open PySem PySem.Spec PyProof.Rows L2
mutual
def pur : D → Bool
  | .non => true
  | .bl _ => true
  | .int i => decide (i.natAbs < 1000000000000)
  | .str s => plain s
  | .tup ds => purs ds
  | .lst ds => purs ds
  | _ => false
def purs : List D → Bool
  | [] => true
  | d :: ds => pur d && purs ds
end
mutual
def pd : D → PyData
  | .bl b => .bool b
  | .int i => .int i
  | .str s => .str s
  | .tup ds => .tuple (pds ds)
  | .lst ds => .list (pds ds)
  | _ => .none
def pds : List D → List PyData
  | [] => []
  | d :: ds => pd d :: pds ds
end
structure Pu (a b : Nat) (d : D) : Prop where
  ok : pur d = true
  hv : heavy d ≤ a
  fr : far d ≤ b
theorem Pu.up {a b a' b' : Nat} {d : D} (h : Pu a b d) (h1 : a ≤ a') (h2 : b ≤ b') : Pu a' b' d := ⟨h.ok, Nat.le_trans h.hv h1, Nat.le_trans h.fr h2⟩
end DL

set_option autoImplicit false
set_option maxRecDepth 100000
set_option maxHeartbeats 4000000
/-! f-strings, starred displays, stores into dicts, anything looked for in a tuple of data -/
namespace DL
open PySem PySem.Spec PyProof.Rows L2
section
variable {X : CxZ} {K : KZ}
/-! ### f-strings -/
inductive DJ (X : CxZ) : List Expr → List WE → Prop where
  | nil : DJ X [] []
  | cons {e : Expr} {w : WE} {es : List Expr} {ws : List WE} (h : DE X e w) (r : DJ X es ws) : DJ X (e :: es) (w :: ws)
/-! ### starred displays -/
/-! ### d[k] = v -/
/-! ### in a tuple of data -/
end
end DL

set_option autoImplicit false
set_option maxRecDepth 100000
set_option maxHeartbeats 4000000
/-! dicts whose keys are tuples of numbers, texts, None: as cells -/
namespace DL
open PySem PySem.Spec PyProof.Rows L2
abbrev NX := NestedKey × Addr × Value
section
variable {X : CxZ} {pins : List (Addr × Obj)} {σ : L2.St} {H H0 Fr : Hp} {s : Shared} {M : Mem} {K : KZ}
/-! ### entries -/
/-! ### the dict in the heap -/
/-- at a there is such a dict, its entries xs -/
structure ND (X : CxZ) (H : Hp) (a : Addr) (lk : Option Obj) (xs : List NX) : Prop where
  at_ : H a = some (.ext (DObj X.w a lk xs))
  nd : (xs.map (·.1)).Nodup
  sz : xs.length ≤ sizeLine
  ns : (a == sysModules) = false
  ks : ∃ Hk, Same Hk H ∧ ∀ x ∈ xs, Dat X.K Hk (.ref x.2.1) (kD x.1) ∧ x.1.depth ≤ 8
/-! ### {} -/
/-! ### d.get(k, x), k in d, d[k], d[k] = v -/
/-! ### for k in d -/
end
end DL

set_option autoImplicit false
set_option maxRecDepth 100000
set_option maxHeartbeats 4000000
/-! comprehensions of two fors -/
namespace DL
open PySem PySem.Spec PyProof.Rows L2
end DL

set_option autoImplicit false
set_option maxRecDepth 100000
set_option maxHeartbeats 4000000
/-! xs.remove(x) of data -/
namespace DL
open PySem PySem.Spec PyProof.Rows L2
section
variable {X : CxZ} {K : KZ}
theorem ru {k : Nat} {A : Around} (hr : DG.RoomG k A) : A.units + 66 < cLine := by have := hr.r.un; omega
end
end DL

set_option autoImplicit false
set_option maxRecDepth 100000
set_option maxHeartbeats 4000000
/-! data without cells whose numbers lie below 10 ** 18 -/
namespace DL
open PySem PySem.Spec PyProof.Rows L2
mutual
def purW : D → Bool
  | .non => true
  | .bl _ => true
  | .int i => decide (i.natAbs < 1000000000000000000)
  | .str s => plain s
  | .tup ds => pursW ds
  | .lst ds => pursW ds
  | _ => false
def pursW : List D → Bool
  | [] => true
  | d :: ds => purW d && pursW ds
end
/-- such data, how much of it, how deep -/
structure Pw (a b : Nat) (d : D) : Prop where
  ok : purW d = true
  hv : (pd d).weight ≤ a
  fr : (pd d).depth ≤ b
theorem Pw.up {a b a' b' : Nat} {d : D} (h : Pw a b d) (h1 : a ≤ a') (h2 : b ≤ b') : Pw a' b' d := ⟨h.ok, Nat.le_trans h.hv h1, Nat.le_trans h.fr h2⟩
end DL

set_option autoImplicit false
set_option maxRecDepth 100000
set_option maxHeartbeats 4000000
/-! a list that nobody will change again: no cell any more -/
namespace DL
open PySem PySem.Spec PyProof.Rows L2
section
variable {X : CxZ} {e : Expr}
end
end DL

set_option autoImplicit false
set_option maxRecDepth 100000
set_option maxHeartbeats 4000000
/-! comprehensions of dicts, whatever the kind of their keys -/
namespace DL
open PySem PySem.Spec PyProof.Rows L2
/-- a kind of dicts: what a new one is, what a store does -/
structure DKnd (P : Program) (w : World) (K : PySem.W.Frag) (A : Around) where
  fst : Addr → HO
  fresh : ∀ (H : Hp) (h : Heap), sysModules < h.objs.size → ObjOk P w H (h.push { cls := .type "dict", data := .dict #[] }) h.objs.size (fst h.objs.size)
  stp : Addr → V → V → Hp → (Hp → Prop) → Prop
  run : ∀ (Y : Cx), Y.prog = P → Y.w = w → Y.K = K → Y.A = A → ∀ (pn : List (Addr × Obj)) (σ : L2.St) (H : Hp) (t : Shared) (D : Addr) (y z : V) (u r : Value) (N : Hp → Prop) (E : Value → Shared → Prop) (Q : Unit → Shared → Prop),
    Inv Y pn σ H t → RelV y u → RelV z r → stp D y z H N → (∀ H' t', Inv Y pn σ H' t' → N H' → Q () t') → wpAny (model P w) A (dictSet D u r) Q E t
section
variable {X : CxZ} {pn : List (Addr × Obj)} {t0 : Shared} {σ : L2.St} {H0 : Hp} {Q : VK} {kx vx tg iter : Expr} {ifs : List Expr} {sc : Scope} {own : List (Str × Nat)} {pos pos' : Pos} {wi : TI} {g : TG} {tt : TT} {tk tv : TE}
end
end DL

set_option autoImplicit false
set_option maxRecDepth 100000
set_option maxHeartbeats 4000000
/-! comprehensions of dicts whose keys are tuples -/
namespace DL
open PySem PySem.Spec PyProof.Rows L2
section
variable {X : CxZ}
end
end DL

set_option autoImplicit false
set_option maxRecDepth 100000
set_option maxHeartbeats 4000000
/-! a range as a value, walked later -/
namespace DL
open PySem PySem.Spec PyProof.Rows L2
section
variable {X : CxZ} {K : KZ} {e a : Expr}
end
end DL

set_option autoImplicit false
set_option maxRecDepth 100000
set_option maxHeartbeats 4000000
/-! list(d.values()) -/
namespace DL
open PySem PySem.Spec PyProof.Rows L2
section
variable {X : CxZ} {K : KZ} {o : Expr} {td : TE} {apos cpos : Pos}
end
end DL

set_option autoImplicit false
set_option maxRecDepth 100000
set_option maxHeartbeats 4000000
/-! a sign in a text -/
namespace DL
open PySem PySem.Spec PyProof.Rows L2
section
variable {X : CxZ} {K : KZ}
end
end DL

set_option autoImplicit false
set_option maxRecDepth 100000
set_option maxHeartbeats 4000000
/-! dicts of plain keys: comprehensions, del, in; what is never reached -/
namespace DL
open PySem PySem.Spec PyProof.Rows L2
section
variable {X : CxZ} {K : KZ}
/-! del d[k] -/
/-! k in d -/
/-! {k: v for ..} -/
end
end DL

set_option autoImplicit false
set_option maxRecDepth 100000
set_option maxHeartbeats 4000000
/-! sorted(set(xs)), xs a list of whole numbers -/
namespace TSI
open PySem PySem.Spec PyProof.Rows L2 PySem.Froz
section
variable {P : Program} {w : World} {A : Around} {E : Value → Shared → Prop} {s : Shared}
end
end TSI
namespace DL
open PySem PySem.Spec PyProof.Rows L2
section
variable {X : CxZ}
end
end DL

set_option autoImplicit false
set_option maxRecDepth 100000
set_option maxHeartbeats 4000000
/-! str() of anything, a text too -/
namespace DL
open PySem PySem.Spec PyProof.Rows L2
section
variable {X : CxZ}
end
end DL

set_option autoImplicit false
set_option maxRecDepth 100000
set_option maxHeartbeats 4000000
/-! sorted with a lambda as its key -/
namespace DL
open PySem PySem.Spec PyProof.Rows L2 LamX NdefX
section
variable {X : CxZ} {pins : List (Addr × Obj)} {σ : L2.St} {H : Hp} {s : Shared}
/-! ### its body -/
end
/-! ### sorted -/
section
variable {X : CxZ} {x qn : Str} {m j : Nat} {e : Expr} {we wb : WE} {p lp kp kp2 pos : Pos} {params : Arguments} {body : Expr} {scope : Scope} {fr N : List Str} {js : List Nat}
end
end DL

set_option autoImplicit false
set_option maxRecDepth 100000
set_option maxHeartbeats 4000000
/-! the law's end where defs make lambdas: their tables stand in the memory from the start -/
namespace DL
open PySem PySem.Spec PyProof.Rows L2 LamX
/-! ### a known part with a mark behind it -/
def markO (xs : List Str) : Obj := { cls := .none, data := .fields (xs.map fun x => Value.str x 0).toArray }
abbrev marked (K : PySem.W.Frag) (xs : List Str) : PySem.W.Frag := K ++ [(mainGlobals, markO xs)]
theorem lamNames_marked (K : PySem.W.Frag) (xs : List Str) : lamNames (marked K xs) = xs := by
  unfold lamNames marked
  rw [List.getLast?_concat]
  show List.filterMap _ (xs.map fun x => Value.str x 0).toArray.toList = xs
  rw [List.toList_toArray, List.filterMap_map]
  induction xs with
  | nil => rfl
  | cons x r ih => rw [List.filterMap_cons]; simp only [Function.comp]; rw [ih]
section
variable {K : PySem.W.Frag} {xs : List Str}
theorem app_lk (h : (K.lookup mainGlobals).isSome = true) (a : Addr) : (marked K xs).lookup a = K.lookup a := by
  unfold marked
  rw [List.lookup_append]
  cases e : K.lookup a with
  | some o => rfl
  | none =>
    have ne : (a == mainGlobals) = false := by
      cases q : a == mainGlobals with
      | false => rfl
      | true => rw [eq_of_beq q] at e; rw [e] at h; cases h
    show (List.lookup a [(mainGlobals, markO xs)]) = none
    unfold List.lookup
    rw [ne]
    rfl
theorem has_main {x : Str} {v : Option Value} (h : PySem.W.nsIn K mainGlobals x = some v) : (K.lookup mainGlobals).isSome = true := by
  unfold PySem.W.nsIn at h
  split at h
  · rename_i e; rw [e]; rfl
  · cases h
theorem app_ns (h : (K.lookup mainGlobals).isSome = true) {n : Addr} {x : Str} : PySem.W.nsIn (marked K xs) n x = PySem.W.nsIn K n x := by
  unfold PySem.W.nsIn; rw [app_lk h]
theorem app_cd (h : (K.lookup mainGlobals).isSome = true) {c : Value} {x : Str} : PySem.W.codeIn (marked K xs) c x = PySem.W.codeIn K c x := by
  cases c with
  | ref a => unfold PySem.W.codeIn; simp only [app_lk h]
  | _ => rfl
theorem app_kp (h : (K.lookup mainGlobals).isSome = true) {f : Addr} {oc : Value} {od : Option Addr} {fd : FuncData} {sl : Array (Option Value)} (l : K.lookup f = some ⟨oc, od, .func fd, sl⟩) : PySem.W.keepIn (marked K xs) (.ref f) = true := by
  unfold PySem.W.keepIn; simp only [app_lk h, l]
theorem app_in (h : (K.lookup mainGlobals).isSome = true) {g : Heap} (X : K.In g) : (marked K xs).In g := fun a o e => X a o (by rw [← app_lk (xs := xs) h]; exact e)
end
/-! ### a def that makes lambdas, by its body -/
section
variable {P : Program} {w : World} {K : PySem.W.Frag} {mg : Str → Option Value} {base : Heap}
end
/-! ### the law's end -/
/-- the tables of the lambda-making defs in the heap at the start -/
structure TabsH (K : PySem.W.Frag) (h : Heap) : Prop where
  mt : ∀ P x, TabOf (topK K) P x → h.get? P = some { cls := .none, data := .fields #[] } ∧ K.lookup P = none
  one : ∀ P x y, TabOf (topK K) P x → TabOf (topK K) P y → x = y
  cd : ∀ x c P, x ∈ lamNames K → PySem.W.tabIn K x = some (c, P) → PySem.W.CodeHd h c P ∧ ∃ o, K.lookup c = some o
/-- what the law's def is told -/
def spLaw (K : PySem.W.Frag) : Sp := fun vs H Q _ => ∃ (a : Addr) (ns : List Int), vs = [.ref a] ∧ SqL K H a (ns.map V.int) ∧ ns.length ≤ 63 ∧ (∀ P x, TabOf (topK K) P x → H P = some (.tbl #[])) ∧ (∀ P x y, TabOf (topK K) P x → TabOf (topK K) P y → x = y) ∧ ∀ H', Q (.bl true) H'
theorem dats_ints {K : PySem.W.Frag} {H : Hp} : ∀ ns : List Int, Dats (topK K) H (ns.map V.int) (ns.map D.int)
  | [] => .nil
  | n :: ns => .cons (.int n) (dats_ints ns)
open Classical in
/-- the world at the law's start -/
theorem start_wd {K : PySem.W.Frag} {H : Hp} (hT : ∀ P x, TabOf (topK K) P x → H P = some (.tbl #[])) (hu : ∀ P x y, TabOf (topK K) P x → TabOf (topK K) P y → x = y) : ∃ H0 M, Wd (topK K) (fun _ => none) H0 M H ∧ ∀ a xs, SqL K H a xs → SqL K H0 a xs := by
  let t : Addr → Option Str := fun P => if h : ∃ x, TabOf (topK K) P x then some h.choose else none
  have t1 : ∀ P x, TabOf (topK K) P x → t P = some x := fun P x h => by
    have e : ∃ x, TabOf (topK K) P x := ⟨x, h⟩
    show (if h : ∃ x, TabOf (topK K) P x then some h.choose else none) = _
    rw [dif_pos e, hu P _ _ e.choose_spec h]
  have t2 : ∀ P x, t P = some x → TabOf (topK K) P x := fun P x h => by
    have h : (if h : ∃ x, TabOf (topK K) P x then some h.choose else none) = some x := h
    split at h
    · rename_i e; cases h; exact e.choose_spec
    · cases h
  refine ⟨fun b => if (t b).isSome then none else H b, fun b => (t b).map Cell.ctab, ⟨fun b u e => ?_, fun b c e => ?_, fun b u e => (nomatch e), fun P x h => by show (t P).map _ = _; rw [t1 P x h]; rfl, trivial⟩, fun a xs h => ?_⟩
  · have e : (if (t b).isSome then none else H b) = some u := e
    split at e
    · cases e
    · exact e
  · have e : (t b).map Cell.ctab = some c := e
    cases q : t b with
    | none => rw [q] at e; cases e
    | some x =>
      rw [q] at e
      cases e
      refine ⟨rfl, _, hT b x (t2 b x q), .tab ⟨True.intro, fun po u z => ?_⟩⟩
      have z : codeAmong po [] = some u := z
      simp [codeAmong] at z
  · have na : ∀ o : HO, H a = some o → (∀ ps, o ≠ .tbl ps) → (if (t a).isSome then none else H a) = some o := fun o e n => by
      cases q : t a with
      | none => exact e
      | some x => exact absurd (Option.some.inj (e.symm.trans (hT a x (t2 a x q)))) (n _)
    rcases h with (h | ⟨o, h⟩) | h
    · exact .inl (.inl (na _ h fun ps z => by cases z))
    · exact .inl (.inr ⟨o, na _ h fun ps z => by cases z⟩)
    · exact .inr h
def FLaw (F : FD) : Prop := ∀ (ns : List Int) (M : Mem) (k : KD), ns.length ≤ 63 → (∀ M', k (.bl true) M') → F [.scr (ns.map D.int)] M k
theorem law_sp {P : Program} {w : World} {K : PySem.W.Frag} {mg : Str → Option Value} {base : Heap} {k : Nat} {f : Addr} {fd : FuncData} {F : FD} (G : DFn P w K mg base k f fd ["script"] F) (hF : FLaw F) : DG.FnG P w K mg base CX0 k f fd ["script"] (spLaw K) :=
  DG.FnG.imp G fun vs H Q E ⟨a, ns, e, hs, hl, hT, hu, hq⟩ => by
    obtain ⟨H0, M, w, sq⟩ := start_wd hT hu
    exact ⟨_, H0, M, [.scr (ns.map D.int)], fun d _ => d = .bl true, w, (by rw [e]; exact .cons (.scr (sq a _ hs) (dats_ints ns)) .nil), hF ns M _ hl fun _ => rfl, fun v H0' H' d M' _ _ r z => (by subst z; cases r; exact hq H')⟩
section
variable {P : Program} {w : World} {K : PySem.W.Frag} {mg mb : Str → Option Value} {k : Nat} {fa a : Addr} {fd : FuncData} {s : Shared} {vs : List Value} {ns : List Int}
theorem call_tabs {H : Hp} (hT : ∀ P x, TabOf (topK K) P x → H P = some (.tbl #[])) (hH : ∀ b, H b = none ∨ (∃ x, TabOf (topK K) b x) ∨ (b = a ∧ K.lookup a = none ∧ ∃ xs, H b = some (.frz { cls := .type "list", data := .seq vs.toArray } (.lst xs)))) (TH : TabsH K s.heap) (hok : HOk P w H s.heap)
    (hl : s.heap.get? a = some { cls := .type "list", data := .seq vs.toArray }) (KX : K.In s.heap) (n1 : s.heap.Ns mainGlobals mg) (n2 : s.heap.Ns builtinsNs mb) (n3 : ∀ x : Str, x ≠ "__name__" → mb x = bootBuiltins x) (lim : s.heap.NoLimit) (gn : s.gens = #[]) (hr : Room k callerA)
    (bmain : ∃ (bm : Addr) (ob : Obj), mg "__builtins__" = some (.ref bm) ∧ bm ≠ builtinsNs ∧ s.heap.get? bm = some ob ∧ ob.cls = .type "module" ∧ ob.dict = some builtinsNs ∧ ob.data = .plain)
    (F : ∀ base : Heap, K.In base → base.Ns mainGlobals mg → (∀ x c P, x ∈ lamNames K → PySem.W.tabIn K x = some (c, P) → TabB base mg c P) → DG.FnG P w K mg base CX0 k fa fd ["script"] (spLaw K)) (bind : ∀ (s : Shared) (u : Value), BindsTo s fd ⟨[u], []⟩ [("script", u)])
    (hsp : spLaw K [.ref a] H (fun v _ => v = .bl true) fun _ _ _ => False) : codeAny (model P w) callerA (.call (.ref fa) ⟨[.ref a], []⟩) (DG.Told s) s := by
  -- what is tracked is the script or a table
  have kind : ∀ {b : Addr} {o : Obj}, s.heap.get? b = some o → (∀ xs n, o.data ≠ .seq xs n) → o.data ≠ .fields #[] → H b = none := fun {b o} e d1 d2 => by
    rcases hH b with z | ⟨x, z⟩ | ⟨z, _⟩
    · exact z
    · have := (TH.mt b x z).1
      rw [e] at this
      cases this
      exact absurd rfl d2
    · subst z
      rw [hl] at e
      cases e
      exact absurd rfl (d1 _ _)
  have bas : ∀ {b : Addr} {o : Obj}, s.heap.get? b = some o → H b = none → (hidT s.heap H).get? b = some o := fun e n => hidT_get e n
  have ns' : ∀ {b : Addr} {m : Str → Option Value}, s.heap.Ns b m → (hidT s.heap H).Ns b m := fun ⟨o, d, n, e, hd, r⟩ => ⟨o, d, n, bas e (kind e (fun xs n z => by rw [hd] at z; cases z) fun z => by rw [hd] at z; cases z), hd, r⟩
  have KB : K.In (hidT s.heap H) := fun b o e => bas (KX b o e) (by
    rcases hH b with z | ⟨x, z⟩ | ⟨z, z2, _⟩
    · exact z
    · rw [(TH.mt b x z).2] at e; cases e
    · subst z; rw [z2] at e; cases e)
  have dictG : ∀ {b : Addr} {o : Obj}, s.heap.get? b = some o → (∀ es n, o.data ≠ .dict es n) → b ≠ mainGlobals := fun {b o} e hn z => by
    obtain ⟨o', d, n, e', hd, _⟩ := n1
    rw [z, e'] at e
    cases e
    exact hn _ _ hd
  have TB : ∀ x c P, x ∈ lamNames K → PySem.W.tabIn K x = some (c, P) → TabB (hidT s.heap H) mg c P := fun x c P hx ht => by
    obtain ⟨hcd, oc, hoc⟩ := TH.cd x c P hx ht
    have hP := (TH.mt P x ⟨hx, c, ht⟩).1
    refine ⟨?_, ?_, fun z => dictG hP (fun es n z => by cases z) z.symm⟩
    · obtain ⟨o, us, fi, tf, fl, tg, inF, tx, tt, e, r⟩ := hcd
      refine ⟨o, us, fi, tf, fl, tg, inF, tx, tt, ?_, r⟩
      rw [KX c oc hoc] at e
      cases e
      exact KB c oc hoc
    · obtain ⟨bm, ob, b1, b2, b3, b4, b5, b6⟩ := bmain
      refine ⟨bm, ob, b1, b2, dictG b3 (fun es n z => by rw [b6] at z; cases z), fun z => ?_, bas b3 (kind b3 (fun xs n z => by rw [b6] at z; cases z) fun z => by rw [b6] at z; cases z), b4, b5, b6⟩
      rw [z, hP] at b3
      cases b3
      cases b6
  have Md : Mod K mg (hidT s.heap H) := by
    obtain ⟨c, l1, l2⟩ := lim
    exact ⟨KB, ns' n1, ⟨mb, ns' n2, n3⟩, c, ns' l1, l2⟩
  have E0 : Env0 P w K mg (hidT s.heap H) callerA [] s H := ⟨rfl, Md, fun b o e => of_hidT e, Nat.le_of_eq (hidT_size _ _), trivial, fun b z => (by cases z), hok, .of_eq gn⟩
  refine codeAny_mono ((F _ KB (ns' n1) TB).run callerA [] s H ⟨[.ref a], []⟩ [.ref a] [.ref a] (fun v _ => v = .bl true) (fun _ _ _ => False) ⟨hr, rfl⟩ E0 (bind s _) (.cons rfl .nil) hsp) fun r s' z => ?_
  match r, z with
  | .error e, z => exact (z : False).elim
  | .ok .next, z => exact z.elim
  | .ok .brk, z => exact z.elim
  | .ok .cont, z => exact z.elim
  | .ok (.ret u), ⟨v, H', os, br, un, ok', rv, q⟩ =>
    have q : v = .bl true := q
    subst q
    obtain rfl : u = Value.bool true := rv
    refine ⟨rfl, ⟨fun b o e => ?_, fun b o e => ?_⟩, os, br⟩
    · rcases hH b with z | ⟨x, z⟩ | ⟨z, _, xs, z3⟩
      · exact .inl (un.keep b o e z (fun z => by cases z) (fun z => by cases z))
      · obtain ⟨more, g⟩ := un.tbls b #[] (hT b x z)
        have g2 : s'.heap.get? b = some { cls := .none, data := .fields (#[] ++ more) } := ok' b _ g
        have hP := (TH.mt b x z).1
        obtain ⟨hx, c, ht⟩ := z
        rw [hP] at e
        cases e
        exact .inr (.inl ⟨((TH.cd x c b hx ht).1.tab hP).isCodeTable, rfl, #[], more, rfl, g2⟩)
      · have f1 := (hok b _ z3).1
        have f2 := (ok' b _ (un.frzs b _ _ z3)).1
        rw [e] at f1
        cases f1
        exact .inl f2
    · rcases hH b with z | ⟨x, z⟩ | ⟨z, _, xs, z3⟩
      · exact ⟨o, un.keep b o e z (fun z => by cases z) (fun z => by cases z)⟩
      · obtain ⟨more, g⟩ := un.tbls b #[] (hT b x z)
        exact ⟨_, ok' b _ g⟩
      · exact ⟨_, (ok' b _ (un.frzs b _ _ z3)).1⟩
end
open Classical in
/-- the head's goal -/
theorem walkT {l : PySem.W.OpenLaw} {q : Program} {loose : List Str} {XP : (Str → Option Value) → Heap → Prop} {YP : World → Heap → Prop} {d : DefRec} {K : Params → PySem.W.Frag} {k : Nat}
    (hn : l.most = some 63) (hdf : d.params.defaults = []) (hr : Room k callerA) (hY : ∀ (w : World) (h : Heap), YP w h → (K w.params).In h)
    (F : ∀ (w : World) (mg mb : Str → Option Value) (mean : ExcName → Option Value) (fa : Addr) (h : Heap), (K w.params).In h → Top q (PySem.W.looseW q loose) mean mg mb h → mg d.name = some (.ref fa) →
      ∃ K' : PySem.W.Frag, K'.In h ∧ TabsH K' h ∧ ∃ fd : FuncData, (∀ (s : Shared) (u : Value), BindsTo s fd ⟨[u], []⟩ [("script", u)]) ∧
        ∀ base : Heap, K'.In base → base.Ns mainGlobals mg → (∀ x c P, x ∈ lamNames K' → PySem.W.tabIn K' x = some (c, P) → TabB base mg c P) → DG.FnG l.prog w K' mg base CX0 k fa fd ["script"] (spLaw K')) :
    PySem.W.WalkO q loose XP YP l.row.toRowW d [] (fun f vs => PySem.call f vs) := by
  apply Att.attach_call hn hdf
  intro w s0 s1 mg mb fa o pm cd doc a vs ns G Y ho hd hcd hmg hobj hints hlen hg
  obtain ⟨K', KX, TH, fd, hb, hF⟩ := F w mg mb _ fa _ (hY w _ Y) G.T hmg
  have vi := vals_ints hints
  have len := hints.length
  have na : ∀ x, ¬ TabOf (topK K') a x := fun x h => by
    have := (TH.mt a x h).1
    rw [hobj] at this
    cases this
  let t : Addr → Prop := fun P => ∃ x, TabOf (topK K') P x
  cases hk : K'.lookup a with
  | some o =>
    have e := KX a o hk
    rw [hobj] at e
    cases e
    have sq : SqL K' (fun b => if t b then some (.tbl #[]) else none) a (ns.map V.int) := .inr ⟨_, vs.toArray, _, hk, rfl, rfl, rfl, (by rw [List.size_toArray]; exact Nat.le_trans (by omega) (show (63 : Nat) ≤ sizeLine by decide)), by simpa using vi⟩
    refine call_tabs (H := fun b => if t b then some (.tbl #[]) else none) (a := a) (vs := vs) (fun P x h => if_pos ⟨x, h⟩) (fun b => ?_) TH (fun b u z => ?_) hobj KX G.T.g G.T.b G.T.builtins G.T.nolimit hg hr G.T.bmain hF hb ⟨a, ns, rfl, sq, hlen, fun P x h => if_pos ⟨x, h⟩, TH.one, fun _ => rfl⟩
    · by_cases h : t b
      · exact .inr (.inl h)
      · exact .inl (if_neg h)
    · by_cases h : t b
      · have z : (if t b then some (HO.tbl #[]) else none) = some u := z
        rw [if_pos h] at z
        cases z
        obtain ⟨x, hx⟩ := h
        exact (TH.mt b x hx).1
      · have z : (if t b then some (HO.tbl #[]) else none) = some u := z
        rw [if_neg h] at z
        cases z
  | none =>
    let O : HO := .frz { cls := .type "list", data := .seq vs.toArray } (.lst (ns.map V.int))
    let H : Hp := fun b => if b = a then some O else if t b then some (.tbl #[]) else none
    have h1 : H a = some O := if_pos rfl
    have h2 : ∀ b, b ≠ a → H b = if t b then some (.tbl #[]) else none := fun b e => if_neg e
    have h3 : ∀ P x, TabOf (topK K') P x → H P = some (.tbl #[]) := fun P x h => by
      rw [h2 P fun z => na x (by rw [← z]; exact h)]
      exact if_pos ⟨x, h⟩
    clear_value H
    refine call_tabs (H := H) (a := a) (vs := vs) h3 (fun b => ?_) TH (fun b u z => ?_) hobj KX G.T.g G.T.b G.T.builtins G.T.nolimit hg hr G.T.bmain hF hb ⟨a, ns, rfl, .inl (.inr ⟨_, h1⟩), hlen, h3, TH.one, fun _ => rfl⟩
    · by_cases e : b = a
      · subst e; exact .inr (.inr ⟨rfl, hk, _, h1⟩)
      · by_cases h : t b
        · exact .inr (.inl h)
        · exact .inl ((h2 b e).trans (if_neg h))
    · by_cases e : b = a
      · subst e
        rw [h1] at z
        cases z
        exact ⟨hobj, (by rw [List.length_map]; exact Nat.le_trans (by omega) (show (63 : Nat) ≤ sizeLine by decide)), vs, _, vi, hobj⟩
      · rw [h2 b e] at z
        by_cases h : t b
        · rw [if_pos h] at z
          cases z
          obtain ⟨x, hx⟩ := h
          exact (TH.mt b x hx).1
        · rw [if_neg h] at z
          cases z
end DL

set_option autoImplicit false
set_option maxRecDepth 100000
set_option maxHeartbeats 4000000
/-! more of dicts: pop(k), sorted(d), a walk of d.values(); any() -/
namespace DL
open PySem PySem.Spec PyProof.Rows L2
section
variable {X : CxZ} {K : KZ}
/-! any(list of truths) -/
/-! d.pop(k), k there -/
def isDc (M : Mem) : D → Prop
  | .cel a => ∃ kvs, M a = some (.dct kvs)
  | _ => False
/-! a dict that nobody changes while a statement runs; for x in d.values() -/
/-! sorted(d): keys all whole numbers, or all texts -/
end
end DL

set_option autoImplicit false
set_option maxRecDepth 100000
set_option maxHeartbeats 2000000
namespace DL
open PySem PySem.Spec PyProof.Rows L2
open Sem (wp)
/-! zip of a list and a tuple -/
structure Apl (z tI tO j1 j2 a b : Addr) : Prop where
  S : ZipSep2 z tI tO j1 j2 [j1, a] [j2, b]
  na : a ≠ j1
  nb : b ≠ j2
end DL
namespace DL
open PySem PySem.Spec PyProof.Rows L2
section
variable {X : CxZ} {e e2 : Expr} {elts : List Expr} {kk : Nat} {tpos p pos : Pos} {wa : WA}
end
end DL

set_option autoImplicit false
set_option maxRecDepth 100000
set_option maxHeartbeats 4000000
/-! zip of three tuples -/
namespace DL
open PySem PySem.Spec PyProof.Rows L2
open Sem (wp)
structure Ap3 (z tI tO j1 j2 j3 a b c : Addr) : Prop where
  S : ZipSep3 z tI tO j1 j2 j3 [j1, a] [j2, b] [j3, c]
  na : a ≠ j1
  nb : b ≠ j2
  nc : c ≠ j3
section
variable {X : CxZ} {e e2 e3 : Expr} {elts : List Expr} {kk : Nat} {tpos p pos : Pos} {wa : WA}
end
end DL

set_option autoImplicit false
set_option maxRecDepth 100000
set_option maxHeartbeats 4000000
/-! dicts: setdefault; get and in where the key may be None; setdefault, items, list of those keyed by tuples -/
namespace DL
open PySem PySem.Spec PyProof.Rows L2
section
variable {X : CxZ} {K : KZ}
/-! d.setdefault(k, z), plain keys -/
/-! the key may be None -/
/-! keyed by tuples: setdefault -/
end
end DL

set_option autoImplicit false
set_option maxRecDepth 100000
set_option maxHeartbeats 4000000
/-! dicts keyed by tuples: a walk of d.items(), list(d) -/
namespace DL
open PySem PySem.Spec PyProof.Rows L2
section
variable {X : CxZ} {K : KZ}
/-! list(d) -/
end
end DL

set_option autoImplicit false
set_option maxRecDepth 100000
set_option maxHeartbeats 4000000
/-! sum; min and max with default=None; xs.insert(i, y); < of data -/
namespace DL
open PySem PySem.Spec PyProof.Rows L2
section
variable {X : CxZ} {K : KZ}
/-! sum of whole numbers -/
/-! min, max with default=None, of data that are alike -/
/-! xs.insert(i, y) -/
/-! < of data -/
end
end DL

set_option autoImplicit false
set_option maxRecDepth 100000
set_option maxHeartbeats 4000000
/-! a walk of a tuple or a list; sorted(.., key=def) of either -/
namespace DL
open PySem PySem.Spec PyProof.Rows L2
section
variable {X : CxZ} {f : Addr} {fd : FuncData} {F : FD} {kk j : Nat} {q g : Str} {st : Stmt}
end
end DL

set_option autoImplicit false
set_option maxRecDepth 100000
set_option maxHeartbeats 4000000
/-! a if c else b, as a test -/
namespace DL
open PySem PySem.Spec PyProof.Rows L2
section
variable {X : CxZ} {a b c : Expr} {pos : Pos}
end
end DL

set_option autoImplicit false
set_option maxRecDepth 100000
set_option maxHeartbeats 4000000
/-! a dict written with two whole numbers and what a local holds -/
namespace DL
open PySem PySem.Spec PyProof.Rows L2
section
variable {X : CxZ}
end
end DL

set_option autoImplicit false
set_option maxRecDepth 100000
set_option maxHeartbeats 4000000
/-! list(x) of a text, or of what else list(x) takes -/
namespace DL
open PySem PySem.Spec PyProof.Rows L2
section
variable {X : CxZ}
end
end DL

set_option autoImplicit false
set_option maxRecDepth 100000
set_option maxHeartbeats 4000000
/-! instances: attributes, methods, making one -/
namespace DG
open PySem PySem.Spec PyProof.Rows L2
def tMtG (C : Addr) (m : Str) (sp : Sp) (E : XK) (ta : TE) (t : TA) : TE := fun σ H Q => ta σ H fun x H1 =>
  ∃ a dx fs, x = .ref a ∧ H1 a = some (.ins C dx fs) ∧ fs.lookup m = none ∧ t σ H1 fun vs H2 => sp (x :: vs) H2 Q E
section
variable {X : Cx} {CX : CXT} {k : Nat} {f C : Addr} {fd : FuncData} {ps : List Str} {sp : Sp} {E : XK} {x m : Str}
variable {p pos apos : Pos} {e o : Expr} {es : List Expr} {ta : TE} {t : TA}
theorem run_G {pins : List (Addr × Obj)} {σ : L2.St} {H : Hp} {s : Shared} {Q : VK} {us : List Value} {vs : List V}
    (F : FnG X.prog X.w X.K X.mg X.base CX k f fd ps sp) (hr : RoomG k X.A) (hb : Binds X.K fd ps []) (hx : Passes CX X E)
    (I : Inv X pins σ H s) (r : Vals vs us) (h : sp vs H Q E) : wpAny (model X.prog X.w) X.A (call (.ref f) us) (EP X pins σ Q) X.xe s := by
  have hl : (us ++ []).length = ps.length := by rw [List.append_nil, ← r.length]; exact F.len _ _ _ _ h
  have b := hb s us I.kIn hl
  rw [List.append_nil] at b
  refine wpAny_call (codeAny_mono (F.run X.A X.stack s H ⟨us, []⟩ us vs Q E hr I.env0 b r h) fun rr s' z => ?_)
  match rr, z with
  | .error e, z => exact hx pins σ H s e s' I z
  | .ok (.ret u), z => exact I.after z
  | .ok .next, z => exact z.elim
  | .ok .brk, z => exact z.elim
  | .ok .cont, z => exact z.elim
theorem pe_mtG {pl : Sem Bool} (he : PE X o ta) (c : Cls X.K C) (hm : Meth X.K C m f) (F : FnG X.prog X.w X.K X.mg X.base CX k f fd ps sp)
    (hr : RoomG k X.A) (hb : Binds X.K fd ps []) (hx : Passes CX X E) (ha : PA X (e :: es) t) (hst : starEach (e :: es) X.env = (false, eval e X.env) :: starEach es X.env := by rfl) (hpl : (backTo pos (starEach es X.env)).any (·.1) = false := by rfl)
    (ht : eval (.Call (.Attribute o m apos) (e :: es) [] pos) X.env = (do let ov ← eval o X.env; standAt apos.atName; let (mf, me) ← holding [ov] (getMethod ov m pl); callWith pos mf me (backTo pos (starEach (e :: es) X.env)) (backToKw pos (keywordEach [] X.env))) := by rfl) :
    PE X (.Call (.Attribute o m apos) (e :: es) [] pos) (tMtG C m sp E ta t) := by
  refine ⟨fun pins s σ H Q I h => PySem.W.methodCall_KW (pl := pl) (thn (he.run pins s σ H _ I h) fun u s1 ⟨x, H1, I1, rx, q⟩ => ?_) ht⟩
  obtain ⟨a, dx, fs, rfl, ea, l, q⟩ := q
  cases rx
  refine getmeth_ok I1 ea c hm l (PySem.W.callWith_K (first := [.ref a]) (h₀ := X.base) I.ok.mod.kin hm.kp ?_ hst hpl)
  exact thn (ha.run pos pins s1 σ H1 _ I1 q) fun us s2 ⟨vs, H2, I2, r, q2⟩ => ⟨I2.kIn, run_G (us := .ref a :: us) (vs := .ref a :: vs) F hr hb hx I2 (.cons rfl r) q2⟩
theorem pe_mtG0 {pl : Sem Bool} (he : PE X o ta) (c : Cls X.K C) (hm : Meth X.K C m f) (F : FnG X.prog X.w X.K X.mg X.base CX k f fd ps sp)
    (hr : RoomG k X.A) (hb : Binds X.K fd ps []) (hx : Passes CX X E)
    (ht : eval (.Call (.Attribute o m apos) [] [] pos) X.env = (do let ov ← eval o X.env; standAt apos.atName; let (mf, me) ← holding [ov] (getMethod ov m pl); callWith pos mf me (backTo pos (starEach [] X.env)) (backToKw pos (keywordEach [] X.env))) := by rfl) :
    PE X (.Call (.Attribute o m apos) [] [] pos) (tMtG C m sp E ta tNil) := by
  refine ⟨fun pins s σ H Q I h => PySem.W.methodCall_KW (pl := pl) (thn (he.run pins s σ H _ I h) fun u s1 ⟨x, H1, I1, rx, q⟩ => ?_) ht⟩
  obtain ⟨a, dx, fs, rfl, ea, l, q⟩ := q
  cases rx
  refine getmeth_ok I1 ea c hm l (PySem.W.callWith_K0 (first := [.ref a]) I1.kIn hm.kp ?_)
  exact run_G (us := [.ref a]) (vs := [.ref a]) F hr hb hx I1 (.cons rfl .nil) q
theorem RoomG.make {A : Around} (r : RoomG (k + 1) A) (C : Addr) (us : List Value) (kw : List (Str × Value)) : RoomG k (A.under (.builtin "type.__call__" ⟨.ref C :: us, kw⟩)) := ⟨r.r.make C us kw, r.g⟩
end
end DG
namespace DL
open PySem PySem.Spec PyProof.Rows L2
/-- an attribute is set -/
def setF (f : Str) (v : D) : List (Str × D) → List (Str × D)
  | [] => [(f, v)]
  | (g, x) :: r => if g = f then (g, v) :: r else (g, x) :: setF f v r
abbrev FDs (K : KZ) (H : Hp) : List (Str × V) → List (Str × D) → Prop := Paired fun (p : Str × V) (q : Str × D) => p.1 = q.1 ∧ Dat K H p.2 q.2
theorem fds_len {K : KZ} {H : Hp} : ∀ {fs : List (Str × V)} {fds : List (Str × D)}, FDs K H fs fds → fs.length = fds.length
  | _, _, .nil => rfl
  | _, _, .cons _ t => congrArg (· + 1) (fds_len t)
theorem fds_get {K : KZ} {H : Hp} {f : Str} : ∀ {fs : List (Str × V)} {fds : List (Str × D)}, FDs K H fs fds →
    (∀ d, fds.lookup f = some d → ∃ v, fs.lookup f = some v ∧ Dat K H v d) ∧ (fds.lookup f = none → fs.lookup f = none)
  | _, _, .nil => ⟨fun d e => (nomatch e), fun _ => rfl⟩
  | (a, v) :: fs, (b, d0) :: fds, .cons ⟨e, r⟩ t => by
    have e : a = b := e
    subst e
    obtain ⟨h1, h2⟩ := fds_get (f := f) t
    rw [List.lookup_cons, List.lookup_cons]
    cases q : f == a with
    | true => exact ⟨fun d e => by cases e; exact ⟨v, rfl, r⟩, fun e => by cases e⟩
    | false => exact ⟨h1, h2⟩
theorem fds_put {K : KZ} {H : Hp} {f : Str} {v : V} {d : D} (r : Dat K H v d) : ∀ {fs : List (Str × V)} {fds : List (Str × D)}, FDs K H fs fds → FDs K H (putF f v fs) (setF f d fds)
  | _, _, .nil => .cons ⟨rfl, r⟩ .nil
  | (a, v0) :: fs, (b, d0) :: fds, .cons ⟨e, r0⟩ t => by
    have e : a = b := e
    subst e
    unfold putF setF
    by_cases q : a = f
    · rw [if_pos q, if_pos q]; exact .cons ⟨rfl, r⟩ t
    · rw [if_neg q, if_neg q]; exact .cons ⟨rfl, r0⟩ (fds_put r t)
section
variable {X : CxZ} {C : Addr} {e o v : Expr} {es : List Expr} {f m x : Str} {pos pos' tpos apos p : Pos} {we wo wv : WE} {wa : WA}
theorem Wd.insAt {K : KZ} {Fr H0 H : Hp} {M : Mem} {a : Addr} {fs : List (Str × D)} (w : Wd K Fr H0 M H) (h : M a = some (.ins C fs)) : ∃ dx vfs, H a = some (.ins C dx vfs) ∧ FDs K H0 vfs fs := by
  obtain ⟨_, o, ho, ck⟩ := w.mem a _ h
  cases ck with
  | ins hd => exact ⟨_, _, ho, hd⟩
/-- o.f -/
def rdFld (C : Addr) (f : Str) (d : D) (M : Mem) (k : KD) : Prop := ∃ a fs x, d = .cel a ∧ M a = some (.ins C fs) ∧ fs.lookup f = some x ∧ k x M
def wFld (C : Addr) (f : Str) (we : WE) : WE := fun Γ M k => we Γ M fun d M1 => rdFld C f d M1 k
theorem de_fld (c : Cls X.K C) (n : NoAttr X.K C f) (he : DE X e we) (hb : attributeBase e f X.env (eval e X.env) = eval e X.env := by rfl) : DE X (.Attribute e f pos) (wFld C f we) :=
  de_of (pe_fld he.run hb) fun σ H Q Γ Fr H0 M k h1 h2 h3 h4 => ⟨Γ, Fr, H0, M, _, h1, h2, h3, fun u H1 H' d M' e1 w1 r1 q1 => by
    obtain ⟨a, fs, x, rfl, em, lx, q⟩ := q1
    cases r1
    obtain ⟨dx, vfs, ho, hd⟩ := w1.insAt em
    obtain ⟨v, lv, rv⟩ := (fds_get hd).1 x lx
    exact ⟨a, C, dx, vfs, v, rfl, ho, c, n, lv, h4 v H1 H' x M' e1 w1 rv q⟩⟩
/-- o.f = v -/
def wPutF (C : Addr) (f : Str) (wo wv : WE) : WS := fun k Γ M => wv Γ M fun y M1 => wo Γ M1 fun d M2 =>
  ∃ a fs, d = .cel a ∧ M2 a = some (.ins C fs) ∧ fs.length < 1000 ∧ k.nx Γ (setM M2 a (.ins C (setF f y fs)))
theorem ds_fld (c : Cls X.K C) (n : NoAttr X.K C f) (ho : DE X o wo) (hv : DE X v wv) (hs : swapsWith v (some (.Attribute o f pos')) pos.line X.env = pure false := by rfl) : DS X (.Assign [.Attribute o f pos'] v pos) (wPutF C f wo wv) :=
  ds_of (ps_fld ho.run hv.run hs) fun Dn σ H Γ Fr H0 M k h1 h2 h3 h4 => by
    refine ⟨Γ, Fr, H0, M, _, h1, h2, h3, fun u H1 H' d M' e1 w1 r1 q1 => ?_⟩
    refine ⟨Γ, Fr, H1, M', _, h1.mono e1, w1, q1, fun u2 H2 H'' d2 M2 e2 w2 r2 q2 => ?_⟩
    obtain ⟨a, fs, rfl, em, lz, q⟩ := q2
    cases r2
    obtain ⟨dx, vfs, ho, hd⟩ := w2.insAt em
    refine ⟨a, C, dx, vfs, rfl, ho, c, n, by rw [fds_len hd]; exact lz, ?_⟩
    exact h4.nx σ H2 _ Γ _ (e1.trans e2) (h1.mono (e1.trans e2)) (w2.set em (.ins (fds_put (r1.mono e2) hd))) q
/-- o.f += v, whole numbers -/
def wAugF (C : Addr) (f : Str) (g : Int → Int → Int) (wo wv : WE) : WS := fun k Γ M => wo Γ M fun d M1 =>
  ∃ a fs i, d = .cel a ∧ M1 a = some (.ins C fs) ∧ fs.lookup f = some (.int i) ∧ wv Γ M1 fun y M2 =>
    ∃ j fs', y = .int j ∧ M2 a = some (.ins C fs') ∧ fs'.length < 1000 ∧ k.nx Γ (setM M2 a (.ins C (setF f (.int (g i j)) fs')))
/-- a method of a class: its def, its place -/
structure MDef (K : PySem.W.Frag) (C : Addr) (m qual : Str) (st : Stmt) (ps : List Str) (f : Addr) (fd : FuncData) : Prop where
  F : Fun K m qual st f fd
  at_ : Meth K C m f
  b : Binds K fd ps []
/-- o.m(..) -/
def wMth (C : Addr) (m : Str) (F : FD) (wo : WE) (wa : WA) : WE := fun Γ M k => wo Γ M fun d M1 =>
  ∃ a fs, d = .cel a ∧ M1 a = some (.ins C fs) ∧ fs.lookup m = none ∧ wa Γ M1 fun ds M2 => F (d :: ds) M2 k
theorem de_mth {F : FD} {g : Addr} {fd : FuncData} {ps : List Str} {qual : Str} {st : Stmt} {k j : Nat} {pl : Sem Bool} (c : Cls X.K C) (d : MDef X.K C m qual st ps g fd)
    (G : DFn X.prog X.w X.K X.mg X.base k g fd ps F) (hr : DG.RoomG j X.X.A) (hk : k ≤ j) (ho : DE X o wo) (ha : DA X (e :: es) wa) (hst : starEach (e :: es) X.env = (false, eval e X.env) :: starEach es X.env := by rfl) (hpl : (backTo pos (starEach es X.env)).any (·.1) = false := by rfl)
    (ht : eval (.Call (.Attribute o m apos) (e :: es) [] pos) X.env = (do let ov ← eval o X.env; standAt apos.atName; let (mf, me) ← holding [ov] (getMethod ov m pl); callWith pos mf me (backTo pos (starEach (e :: es) X.env)) (backToKw pos (keywordEach [] X.env))) := by rfl) :
    DE X (.Call (.Attribute o m apos) (e :: es) [] pos) (wMth C m F wo wa) :=
  de_of (DG.pe_mtG ho.run c d.at_ G (hr.mono hk) d.b pass0 ha.run hst hpl ht) fun σ H Q Γ Fr H0 M k h1 h2 h3 h4 => ⟨Γ, Fr, H0, M, _, h1, h2, h3, fun u H1 H' d M' e1 w1 r1 q1 => by
    obtain ⟨a, fs, rfl, em, lz, q⟩ := q1
    cases r1
    obtain ⟨dx, vfs, ho, hd⟩ := w1.insAt em
    refine ⟨a, dx, vfs, rfl, ho, (fds_get hd).2 lz, Γ, Fr, H1, M', _, h1.mono e1, w1, q, fun vs H2 H'' ds M2 e2 w2 r2 q2 => ?_⟩
    exact ⟨Fr, H2, M2, .cel a :: ds, k, w2.top, .cons (.cel a) (Dats.chg (K := X.K) (K' := topK X.K.fr) rfl _ _ r2), q2, (h4.mono (e1.trans e2)).top w2⟩⟩
theorem de_mth0 {F : FD} {g : Addr} {fd : FuncData} {ps : List Str} {qual : Str} {st : Stmt} {k j : Nat} {pl : Sem Bool} (c : Cls X.K C) (d : MDef X.K C m qual st ps g fd)
    (G : DFn X.prog X.w X.K X.mg X.base k g fd ps F) (hr : DG.RoomG j X.X.A) (hk : k ≤ j) (ho : DE X o wo)
    (ht : eval (.Call (.Attribute o m apos) [] [] pos) X.env = (do let ov ← eval o X.env; standAt apos.atName; let (mf, me) ← holding [ov] (getMethod ov m pl); callWith pos mf me (backTo pos (starEach [] X.env)) (backToKw pos (keywordEach [] X.env))) := by rfl) :
    DE X (.Call (.Attribute o m apos) [] [] pos) (wMth C m F wo wNil) :=
  de_of (DG.pe_mtG0 ho.run c d.at_ G (hr.mono hk) d.b pass0 ht) fun σ H Q Γ Fr H0 M k h1 h2 h3 h4 => ⟨Γ, Fr, H0, M, _, h1, h2, h3, fun u H1 H' d M' e1 w1 r1 q1 => by
    obtain ⟨a, fs, rfl, em, lz, q⟩ := q1
    cases r1
    obtain ⟨dx, vfs, ho, hd⟩ := w1.insAt em
    exact ⟨a, dx, vfs, rfl, ho, (fds_get hd).2 lz, Fr, H1, M', [.cel a], k, w1.top, .cons (.cel a) .nil, q, (h4.mono e1).top w1⟩⟩
/-- C(..) -/
def wMk (C : Addr) (F : FD) (wa : WA) : WE := fun Γ M k => wa Γ M fun ds M1 => ∀ p, M1 p = none → F (.cel p :: ds) (setM M1 p (.ins C [])) fun v M2 => v = .non ∧ k (.cel p) M2
/-- a class that can be made -/
structure CDef (K : PySem.W.Frag) (mg : Str → Option Value) (x : Str) (C f : Addr) : Prop where
  cl : Cls K C
  made : Mk K C f
  at_ : mg x = some (.ref C)
theorem mk_lift {K : KZ} {C : Addr} {F : FD} {Fr H0 H : Hp} {M : Mem} {vs : List V} {ds : List D} {k : KD} {Q : VK} {x dx : Addr} (w : Wd K Fr H0 M H) (r : Dats K H0 vs ds) (hx : H x = none) (hd : H dx = none) (ne : dx ≠ x)
    (h : F (.cel x :: ds) (setM M x (.ins C [])) fun v M2 => v = .non ∧ k (.cel x) M2) (c : Cont K Fr H0 k Q) :
    liftF K F (.ref x :: vs) (upd (upd H dx (.own x)) x (.ins C dx [])) (fun v H2 => v = .non ∧ Q (.ref x) H2) fun _ _ _ => False := by
  have w1 := w.tmp (o := .own x) hd
  have hx2 : upd H dx (.own x) x = none := by rw [upd_ne ne.symm]; exact hx
  refine ⟨Fr, H0, _, .cel x :: ds, _, w1.newM hx2 (.ins .nil), .cons (.cel x) r, h, fun v H0' H' d M' e w2 r2 q => ?_⟩
  obtain ⟨rfl, q⟩ := q
  cases r2
  exact ⟨rfl, c _ H0' H' _ M' e w2 (.cel x) q⟩
end
/-! texts: split, startswith, int of one -/
section
variable {X : CxZ} {o e : Expr} {wo we : WE} {apos pos p : Pos}
def rdSplit (x y : D) (M : Mem) (k : KD) : Prop := ∃ a b, x = .str a ∧ y = .str b ∧ (b.length == 0) = false ∧ a.length + 2 ≤ sizeLine ∧ k (.lst ((Txt.split a b).map D.str)) M
def wSplit (wo we : WE) : WE := fun Γ M k => wo Γ M fun x M1 => (∃ a, x = .str a) ∧ we Γ M1 fun y M2 => rdSplit x y M2 k
def rdStarts (x y : D) (M : Mem) (k : KD) : Prop := ∃ a b, x = .str a ∧ y = .str b ∧ k (.bl (Txt.startswith a b)) M
def wStarts (wo we : WE) : WE := fun Γ M k => wo Γ M fun x M1 => (∃ a, x = .str a) ∧ we Γ M1 fun y M2 => rdStarts x y M2 k
/-! list(d) of a module's dict -/
/-- list(d), d a module's dict: its keys -/
def wListMD (kvs : List (Str × D)) : WE := fun _ M k => k (.lst ((kvs.map (·.1)).map D.str)) M
end
end DL

set_option autoImplicit false
set_option maxRecDepth 100000
set_option maxHeartbeats 4000000
/-! what the top tells of classes stays so behind a mark -/
namespace DL
open PySem PySem.Spec PyProof.Rows L2
section
variable {K : PySem.W.Frag} {xs : List Str}
theorem app_own (h : (K.lookup mainGlobals).isSome = true) {n : Str} (v : Value) : PySem.W.ownIn (marked K xs) n v = PySem.W.ownIn K n v := by
  cases v with
  | ref a => unfold PySem.W.ownIn; simp only [app_lk h, app_ns h]
  | _ => rfl
theorem app_along (h : (K.lookup mainGlobals).isSome = true) {n : Str} : ∀ l : List Value, PySem.W.alongIn (marked K xs) n l = PySem.W.alongIn K n l
  | [] => rfl
  | c :: r => by unfold PySem.W.alongIn; rw [app_own h, app_along h r]
theorem app_find (h : (K.lookup mainGlobals).isSome = true) {v : Value} {n : Str} : PySem.W.findIn (marked K xs) v n = PySem.W.findIn K v n := by
  cases v with
  | ref a => unfold PySem.W.findIn; simp only [app_lk h, app_along h]
  | _ => rfl
theorem app_type (h : (K.lookup mainGlobals).isSome = true) {v : Value} : PySem.W.typeIn (marked K xs) v = PySem.W.typeIn K v := by
  cases v with
  | ref a => unfold PySem.W.typeIn; simp only [app_lk h]
  | _ => rfl
theorem app_fn (h : (K.lookup mainGlobals).isSome = true) {v : Value} : PySem.W.isFn (marked K xs) v = PySem.W.isFn K v := by unfold PySem.W.isFn; rw [app_type h]
theorem app_spec (h : (K.lookup mainGlobals).isSome = true) {v : Value} {n : Str} : PySem.W.specialIn (marked K xs) v n = PySem.W.specialIn K v n := by
  unfold PySem.W.specialIn; rw [app_type h]; simp only [app_find h]
theorem app_cls (h : (K.lookup mainGlobals).isSome = true) {C : Addr} : PySem.W.clsIn (marked K xs) C = PySem.W.clsIn K C := by unfold PySem.W.clsIn; rw [app_lk h]
theorem app_hd (h : (K.lookup mainGlobals).isSome = true) {C : Addr} : PySem.W.hasDictIn (marked K xs) C = PySem.W.hasDictIn K C := by unfold PySem.W.hasDictIn; rw [app_cls h]
theorem app_po (h : (K.lookup mainGlobals).isSome = true) {C : Addr} : PySem.W.plainOver (marked K xs) C = PySem.W.plainOver K C := by unfold PySem.W.plainOver; rw [app_cls h]
theorem app_pg (h : (K.lookup mainGlobals).isSome = true) {C : Addr} {n : Str} : PySem.W.plainGet (marked K xs) C n = PySem.W.plainGet K C n := by unfold PySem.W.plainGet; simp only [app_find h]
theorem app_inst (h : (K.lookup mainGlobals).isSome = true) {v b : Value} : PySem.W.instIn (marked K xs) v b = PySem.W.instIn K v b := by
  unfold PySem.W.instIn
  rw [app_type h]
  congr 1
  funext t
  cases t with
  | ref a => unfold PySem.W.subIn PySem.W.mroIn; simp only [app_cls h]
  | _ => rfl
theorem app_makes (h : (K.lookup mainGlobals).isSome = true) {C : Addr} : PySem.W.makesIn (marked K xs) C = PySem.W.makesIn K C := by
  unfold PySem.W.makesIn; simp only [app_lk h, app_spec h, app_inst h]
theorem app_keep (h : (K.lookup mainGlobals).isSome = true) {v : Value} : PySem.W.keepIn (marked K xs) v = PySem.W.keepIn K v := by
  cases v with
  | ref a => unfold PySem.W.keepIn; simp only [app_lk h, app_spec h]
  | _ => rfl
end
end DL

set_option autoImplicit false
set_option maxRecDepth 100000
set_option maxHeartbeats 4000000
/-! d.update(other dict); a dict of one pair, its key and value made on the spot -/
namespace DL
open PySem PySem.Spec PyProof.Rows L2
section
variable {X : CxZ}
def rdUpd (x y : D) (M : Mem) (k : KD) : Prop := match x, y with
  | .cel a, .cel b => (match M a, M b with | some (.dct kvs), some (.dct more) => a ≠ b ∧ kvs.length + more.length ≤ sizeLine ∧ k .non (setM M a (.dct (mergeD kvs more))) | _, _ => False)
  | _, _ => False
def wUpd (wa wi : WE) : WE := fun Γ M k => wa Γ M fun x M1 => isDc M1 x ∧ wi Γ M1 fun y M2 => rdUpd x y M2 k
def wDisp1 (wk wv : WE) : WE := fun Γ M k => ∀ p, M p = none → wk Γ (setM M p (.dct [])) fun y M1 => wv Γ M1 fun z M2 => M2 p = some (.dct []) ∧ (match keyD y with | some κ => k (.cel p) (setM M2 p (.dct [(κ, z)])) | none => False)
end
end DL

set_option autoImplicit false
set_option maxRecDepth 100000
set_option maxHeartbeats 4000000
/-! xs.extend(tuple) -/
namespace PySem.AutoSeq1
end PySem.AutoSeq1
namespace DL
open PySem PySem.Spec PyProof.Rows L2
section
variable {X : CxZ}
end
end DL

set_option autoImplicit false
set_option maxRecDepth 100000
set_option maxHeartbeats 4000000
/-! len(d) of a dict -/
namespace DL
open PySem PySem.Spec PyProof.Rows L2
section
variable {X : CxZ}
end
end DL

set_option autoImplicit false
set_option maxRecDepth 100000
set_option maxHeartbeats 2000000
/-! an own exception whose __init__ says super().__init__(text) and keeps one thing: how it is made -/
namespace DX
open PySem PySem.Spec PyProof.Rows PySem.W PySem.HandSPX PySem.Calls
/-- the scope of such an __init__ -/
abbrev sScope (ns : List (Str × NameKind)) (more : List (Str × Const)) : Scope := ⟨.function, ns, false, false, more⟩
structure SuperScope (ns : List (Str × NameKind)) (f : Str) : Prop where
  sup : ns.lookup ("super" : Str) = some .globalImplicit
  cls : ns.lookup ("__class__" : Str) = some .free
  self : ns.lookup ("self" : Str) = some .local
  fld : ns.lookup f = some .local
  nocell : ∀ x ∈ ns, x.2 ≠ .cell
  ne : (f == ("self" : Str)) = false
  dbg : (f == ("__debug__" : Str)) = false
/-- its positions, its text, its scope .. -/
structure IArgs where
  (p0 p1 p2 p3 p4 p5 p6 p7 p8 p9 : Pos)
  (m f qual : Str)
  j : Nat
  ps : Arguments
  ns : List (Str × NameKind)
  more : List (Str × Const)
  (cc cda : Addr)
  (dV kV doc pm ct : Value)
  an : Option Addr
/-- super().__init__(..) -/
abbrev IArgs.call (a : IArgs) : PySem.Expr := .Call (.Attribute (.Call (.Name "super" a.p0) [] [] a.p1) "__init__" a.p2) [.Constant (.str a.m) a.j a.p3] [] a.p4
/-- self.f = f -/
abbrev IArgs.keep (a : IArgs) : Stmt := .Assign [.Attribute (.Name "self" a.p6) a.f a.p7] (.Name a.f a.p8) a.p9
abbrev IArgs.fd (a : IArgs) : FuncData := fnX "__init__" a.qual a.ps [.Expr a.call a.p5, a.keep] (sScope a.ns a.more) [("__class__", a.cc)] a.dV a.kV a.doc a.pm a.an (.ref a.cda) a.ct
def clsTail : List Value := [.type "ValueError", .type "Exception", .type "BaseException", .type "object"]
/-- an own exception class, with its __init__ -/
structure EDef (P : Program) (K : Frag) (mg : Str → Option Value) (x f : Str) where
  C : Addr
  fI : Addr
  a : IArgs
  f_is : a.f = f
  at_ : mg x = some (.ref C)
  T : L2.OexC K C
  ie : L2.ExcC K C
  iC : findIn K (.ref C) ("__init__" : Str) = some (some (.ref fI))
  tI : typeIn K (.ref fI) = some (.type "function")
  S : SuperScope a.ns a.f
  lk : ∃ oc od osl, K.lookup fI = some ⟨oc, od, .func a.fd, osl⟩
  cd : codeIn K (.ref a.cda) a.qual = true
  self : ∃ ar, (a.ps.posonlyargs ++ a.ps.args).head? = some ar ∧ ar.arg = "self"
  code : ∃ ccl cdd us ccs file tf, K.lookup a.cda = some ⟨ccl, cdd, .fields us, ccs⟩ ∧ us[2]? = some (.str file tf) ∧ ((P.main.file : Str) == file) = true
  cell : ∃ cl cld csl, K.lookup a.cc = some ⟨cl, cld, .cell (some (.ref C)), csl⟩
  sup : mg "super" = none
  top : (P.main.scope.names.lookup ("super" : Str)).isSome = false
  op : nsIn K cStatics "thirdparty.any" = some none
  sIn : ks_superIn K C C "__init__" = some (some (.builtin "ValueError.__init__"))
  isV : subIn K (.ref C) (.type "ValueError") = some true
  isC : mroIn K C (.ref C) = some true
  ok : excInitIn K C clsTail "ValueError.__new__" = true
  no : findIn K (.ref C) a.f = some none
  b : ∀ (s : Shared) (e v : Value), BindsTo s a.fd ⟨[e, v], []⟩ [("self", e), (a.f, v)]
  ev : ∃ pl : Sem Bool, ∀ L : Addr, eval a.call (callEnv a.fd L fI) = (do
      let ov ← attributeBase (.Call (.Name "super" a.p0) [] [] a.p1) "__init__" (callEnv a.fd L fI) (eval (.Call (.Name "super" a.p0) [] [] a.p1) (callEnv a.fd L fI))
      standAt a.p2.atName
      let (g, me) ← holding [ov] (getMethod ov "__init__" pl)
      callWith a.p4 g me (backTo a.p4 (starEach [.Constant (.str a.m) a.j a.p3] (callEnv a.fd L fI))) [])
section
variable {prog : Program} {w : World} {A : Around} {R : Result → Shared → Prop} {h : Heap} {g : Array GenState} {d : Drawn} {t : Nat} {os : OsState}
variable {K : Frag} {mg mb : Str → Option Value} {x f : Str} {e t0 : Addr} {v : Value}
theorem init_code (D : EDef prog K mg x f) (X : K.In h) (n1 : h.Ns mainGlobals mg) (n2 : h.Ns builtinsNs mb) (n3 : ∀ x : Str, x ≠ "__name__" → mb x = bootBuiltins x) (lim : h.NoLimit) (hroom : A.depth < recursionLimit)
    (he : h.get? e = some (excO D.C t0)) (hKe : K.lookup e = none)
    (hq : ∀ h' tk' dx t1, (∀ b o, b ≠ e → h.get? b = some o → h'.get? b = some o) → h.objs.size ≤ dx → dx ≠ e → h'.get? e = some { cls := .ref D.C, dict := some dx, data := .fields #[.ref t1, .none, .none, .none, .bool false, .none] } →
      h'.Ns1 dx (fun y => if y = f then some v else none) → R (.ok (.ret .none)) ⟨h', g, d, tk', os⟩) :
    codeAny (model prog w) A (.call (.ref D.fI) ⟨[.ref e, v], []⟩) R ⟨h, g, d, t, os⟩ := by
  obtain ⟨C, fI, a, hf, _, T, _, _, _, S, ⟨oc, od, osl, lk⟩, hcd, ⟨ar, hself, har⟩, ⟨ccl, cdd, us, ccs, file, tf, hcode, hus, hfile⟩, ⟨cl, cld, csl, hcell⟩, hsup, htop, hop, hin, hB, hCC, hq0, hno, hb, pl, hev⟩ := D
  subst hf
  dsimp only at he hq ⊢
  obtain ⟨nm, q, N, bs, bm, sn, sub, ab, col, dd, k0, k1, k2, k3, k5, hCl, hbm⟩ := T.cls
  have hcl : clsIn K C = some { name := nm, bases := bs, mro := .ref C :: bm, ns := N, qualname := q, hasDict := true, slotNames := sn, subclasses := sub, abstract := ab, collection := col, hasDel := false } := by unfold clsIn; rw [hCl] <;> rfl
  refine ks_codeAny_call_defAt (binds := [("self", .ref e), (a.f, v)]) hroom (X _ _ lk) rfl lim (codeRec_of X hcd) rfl (hb _ _ _) S.nocell (fun y hy => ?_) (fun h1 ns1 k1' => ?_) rfl rfl rfl
  · rcases List.mem_cons.mp hy with rfl | hy
    · exact S.self
    · rw [List.mem_singleton.mp hy]; exact S.fld
  have X1 : K.In h1 := X.keeps k1'
  have eq : ∀ y : Str, List.lookup y ([(("self" : Str), Value.ref e), (a.f, v)] : List (Str × Value)).reverse = if y = a.f then some v else if y = "self" then some (.ref e) else none := fun y => by
    show List.lookup y [(a.f, v), ("self", .ref e)] = _
    by_cases h1 : y = a.f
    · subst h1; simp [List.lookup]
    · have z : (y == a.f) = false := by simpa using h1
      by_cases h2 : y = "self"
      · subst h2; simp [List.lookup, z, h1]
      · have z2 : (y == ("self" : Str)) = false := by simpa using h2
        simp [List.lookup, z, z2, h1, h2]
  have nsf : ("self" : Str) ≠ a.f := fun z => by have := S.ne; rw [← z] at this; simp at this
  have ls : List.lookup ("self" : Str) ([(("self" : Str), Value.ref e), (a.f, v)] : List (Str × Value)).reverse = some (Value.ref e) := by rw [eq, if_neg nsf, if_pos rfl]
  have lf : List.lookup a.f ([(("self" : Str), Value.ref e), (a.f, v)] : List (Str × Value)).reverse = some v := by rw [eq, if_pos rfl]
  have he1 := k1' _ _ he
  refine ks_wpAt_execs_cons (ks_wpAt_Expr_any (ks_wpAt_MethodCall (pl := pl) ?_ (hev _)) rfl rfl)
  refine ks_wpAt_super_base S.sup S.cls rfl rfl (X1 _ _ lk) rfl hself rfl (X1 _ _ hcode) rfl hus hfile htop ?_
  refine ks_loadName_global rfl S.sup (loadGlobal_builtin (n1.keeps k1') hsup (n2.keeps k1') ((n3 _ (by decide +kernel)).trans (by decide +kernel)) ⟨rfl, ?_⟩)
  refine wpAny_loadName_free rfl S.cls rfl ⟨_, X1 _ _ hcell, rfl⟩ ?_
  rw [har]
  refine wpAny_loadName_local rfl S.self ns1 ls ?_
  refine ks_wpAny_isType_cls (X1 _ _ hCl) rfl ⟨rfl, ?_⟩
  refine ks_wpAny_call_super (X1 _ _ hCl) rfl he1 rfl (fun c z => by cases z) (looks_mroIn X1 hCC) (fun h2 so2 k2' => ?_)
  have X2 : K.In h2 := X1.keeps k2'
  have he2 := k2' _ _ he1
  have I2 : InstAt h2 e (excO C t0) C none := ⟨he2, rfl, rfl, trivial⟩
  have ha : alongIn K "__init__" (((Value.ref C :: bm).dropWhile (· != .ref C)).drop 1) = some (some (.builtin "ValueError.__init__")) := by
    unfold ks_superIn at hin
    rw [hcl] at hin
    exact hin
  refine kxs_getMethod kxs_ValueError so2 (looks_opaque X2 hop) (fun A Q E s k q => wpAny_bind ((looks_clsIn X2 hcl) A _ E s k (wpAny_pure q))) rfl X2 ha (I2.type.andThen (looks_subIn X2 hB)) (ks_ne X2 I2 hcl) rfl ?_
  have k3' : ∀ b o, h2.get? b = some o → (h2.push (kxs_mw "ValueError.__init__" e)).get? b = some o := fun b o z => Heap.get?_push_of_some _ z
  have hu : (h2.push (kxs_mw "ValueError.__init__" e)).get? h2.objs.size = some (kxs_mw "ValueError.__init__" e) := Heap.get?_push_size _ rfl
  refine kxs_callWith (i := "ValueError.__init__") (x := e) (first := []) rfl ?_
  refine evalArgs_plain (spliced_cons (Constant_str (k := a.j) (pos := a.p3) (spliced_nil ⟨hu, ?_⟩)))
  have X3 : K.In (h2.push (kxs_mw "ValueError.__init__" e)) := X2.keeps k3'
  obtain ⟨nm', N', qn', bs', bm', hdct', sn', sub', ab', col', dd', k0', k1'', k2'', k3'', k5', hC', hT'⟩ := excInit_of X3 hq0
  have he3 := k3' _ _ he2
  refine wpAny_call (codeAny_of_tree ?_)
  show wpAny _ _ (callAny (.ref h2.objs.size) ⟨[.str a.m _], []⟩) _ _ _
  simp only [callAny]
  refine wpAny_bind (wpAny_load hu ?_)
  simp only [kxs_mw, show (Value.type "method-wrapper" == Value.type "method" || Value.type "method-wrapper" == Value.type "builtin_function_or_method" || Value.type "method-wrapper" == Value.type "method-wrapper") = true by decide, if_true]
  refine KFB.if_so (by decide) ?_
  refine wpAny_bind (check_bound_init F.excBase_ValueError.toExcCallFacts hC' he3 rfl ?_)
  refine wpAny_bind (wpAny_pure (wpAny_pure ?_))
  refine ⟨plainId_quiet F.excBase_ValueError.init.plain _, codeAny_builtin F.excBase_ValueError.initEntry ?_⟩
  refine exc_init_tree (cls := .ref C) (t0 := t0) (dv := none) (c2 := .none) (c3 := .none) (b4 := .bool false) he3 (by show 1 ≤ sizeLine; rw [sizeLine_eq]; omega) (fun h4 k4 he4 _ => ?_)
  obtain ⟨oL, esL, epL, hL, rL⟩ := ns1
  have neL : h.objs.size ≠ e := fun z => absurd (Heap.lt_size he) (by rw [← z]; exact Nat.lt_irrefl _)
  have hL4 := k4 _ _ neL (k3' _ _ (k2' _ _ hL))
  have ns4 : h4.Ns h.objs.size (fun y => List.lookup y ([(("self" : Str), Value.ref e), (a.f, v)] : List (Str × Value)).reverse) := ⟨oL, esL, epL, hL4, rL⟩
  have K4 : ∀ b o, b ≠ e → h.get? b = some o → h4.get? b = some o := fun b o hb ho => k4 b o hb (k3' _ _ (k2' _ _ (k1' _ _ ho)))
  have X4 : K.In h4 := fun b o ho => k4 b o (fun z => by rw [z, hKe] at ho; cases ho) (X3 b o ho)
  refine ks_wpAt_execs_cons (wpAt_of_wpAny ?_)
  refine plainObj_wpAny_Assign_Attribute ?_ rfl
  refine wpAny_Name (wpAny_loadName_local rfl S.fld ns4 lf ?_) S.dbg
  refine wpAny_Name (wpAny_loadName_local rfl S.self ns4 ls ?_)
  refine set_plain X4 (ox := { cls := .ref C, dict := none, data := .fields #[.ref (h2.push (kxs_mw "ValueError.__init__" e)).objs.size, .none, .none, .none, .bool false, .none] }) (od := none) ⟨he4, rfl, rfl, trivial⟩ T.sa ?_
  refine exc_osa X4 he4 hcl hbm rfl hno (fun h' tk' dx k dn dne hx hn => ?_)
  refine wpAt_of_wpAny (wpAny_execs_nil ?_)
  exact hq h' tk' dx _ (fun b o hb ho => k b o hb (K4 b o hb ho)) (Nat.le_trans (Nat.le_of_lt (Heap.lt_size hL4)) dn) dne hx hn
end
open L2
/-- C(v): an exception that keeps v -/
def tMkE (C : Addr) (f : Str) (te : TE) : L2.St → Hp → XK → Prop := fun σ H Q => te σ H fun v H1 => ∀ dx, H1 dx = none → Q (.ref C) (some dx) (upd H1 dx (.xd [(f, v)]))
section
variable {X : Cx} {x f : Str} {k : Nat} {e : PySem.Expr} {te : TE} {p pos : Pos}
theorem pmkE (D : EDef X.prog X.K X.mg x f) (hr : DG.RoomG (k + 1) X.A) (hg : Gl X x) (he : PE X e te)
    (hdb : (x == ("__debug__" : Str)) = false := by decide) (hs : starEach [e] X.env = (false, eval e X.env) :: starEach [] X.env := by rfl) (hpl : (backTo pos (starEach [] X.env)).any (·.1) = false := by rfl) :
    PMk X (.Call (.Name x p) [e] [] pos) (tMkE D.C f te) := by
  intro pins s σ H Q I h
  obtain ⟨nm, q, N, bs, bm, sn, sub, ab, col, dd, k0, k1, k2, k3, k5, hC, hbm⟩ := D.T.cls
  refine wpAny_Call_Name_kw (ld_glob I hg D.at_ ?_ hdb)
  have hA : PA X [e] (tCons te tNil) := pa_cons he pa_nil hs
  refine callWith_K (h₀ := X.base) I.ok.mod.kin D.T.kC (thn (hA.run pos pins s σ H (fun vs H1 => ∃ v, vs = [v] ∧ ∀ dx, H1 dx = none → Q (.ref D.C) (some dx) (upd H1 dx (.xd [(f, v)]))) I ?_) fun us s1 hh => ?_) hs hpl
  · show te σ H _
    exact cast (congrArg (te σ H) (by funext v H1; show _ = ∃ v', [v] = [v'] ∧ _; exact propext ⟨fun z => ⟨v, rfl, z⟩, fun ⟨v', e, z⟩ => by cases e; exact z⟩)) h
  obtain ⟨vs, H1, I1, r1, v, rfl, q1⟩ := hh
  refine ⟨I1.kIn, ?_⟩
  cases r1 with
  | @cons _ u _ us' ru rn =>
    cases rn
    show wpAny _ _ (call (.ref D.C) [u]) _ _ _
    have bk := I1.bk
    obtain ⟨mb, nb, nb2⟩ := I1.ok.mod.blt
    have sz : ∀ b o, X.base.get? b = some o → b < s1.heap.objs.size := fun b o z => Heap.lt_size (bk b o z)
    have hKe : X.K.lookup (s1.heap.objs.size + 1) = none := by
      cases z : X.K.lookup (s1.heap.objs.size + 1) with
      | none => rfl
      | some o =>
        have q9 := sz _ o (I1.ok.mod.kin _ _ z)
        exact (Nat.lt_irrefl _ (Nat.lt_of_succ_lt q9)).elim
    obtain ⟨hp, g, dr, tk, os⟩ := s1
    have kk : ∀ b o, hp.get? b = some o → ((hp.push (kdv_tup [u])).push (excO D.C hp.objs.size)).get? b = some o := fun b o z => Heap.get?_push_of_some _ (Heap.get?_push_of_some _ z)
    have hget : ((hp.push (kdv_tup [u])).push (excO D.C hp.objs.size)).get? (hp.objs.size + 1) = some (excO D.C hp.objs.size) := by heap_get
    have hsz2 : ((hp.push (kdv_tup [u])).push (excO D.C hp.objs.size)).objs.size = hp.objs.size + 2 := by rw [Heap.size_push, Heap.size_push]
    have gl : ∀ b o, X.base.get? b = some o → ((hp.push (kdv_tup [u])).push (excO D.C hp.objs.size)).get? b = some o := fun b o z => kk b o (bk b o z)
    refine wpAny_call (call_own F.excBase_ValueError (fun Y => refsVE_contains Y bm hbm) (I1.kIn _ _ hC) (looks_findIn I1.kIn D.iC) (fun self => bind_fn I1.kIn self D.tI) (by show 1 ≤ sizeLine; rw [sizeLine_eq]; omega)
      (init_code D (fun b o z => kk b o (I1.kIn b o z)) (I1.ok.mod.glob.keeps gl) (nb.keeps gl) nb2 (I1.ok.mod.nolimit.keeps gl) (hr.r.make D.C [u] []).depth hget hKe fun h' tk' dx t1 kp dn dne hx hn => ?_))
    refine ⟨rfl, ?_⟩
    have nhp : ∀ {b : Addr} {o : Obj}, hp.get? b = some o → b ≠ hp.objs.size + 1 := fun {b o} z y => by
      have q9 := Heap.lt_size z
      rw [y] at q9
      exact Nat.lt_irrefl _ (Nat.lt_of_succ_lt q9)
    obtain ⟨G, g1, g2⟩ := restrict h' fun b => decide (b ≠ hp.objs.size + 1)
    have gk : ∀ b, b ≠ hp.objs.size + 1 → G.get? b = h'.get? b := fun b hb => g1 b (decide_eq_true hb)
    have ge : G.get? (hp.objs.size + 1) = none := g2 _ (by simp)
    have dn' : hp.objs.size ≤ dx := by
      rw [hsz2] at dn
      omega
    have hnd : H1 dx = none := I1.hok.fresh dn'
    have keepG : ∀ b o, hp.get? b = some o → G.get? b = some o := fun b o z => by rw [gk b (nhp z)]; exact kp b o (nhp z) (kk b o z)
    have newG : ObjOk X.prog X.w (upd H1 dx (.xd [(f, v)])) G dx (.xd [(f, v)]) := by
      refine ⟨_, hn.at fun o y => (gk dx dne).trans y, fun n => ?_⟩
      show RelO (List.lookup n [(f, v)]) _
      rw [lookup_put]
      by_cases z : n = f
      · rw [if_pos z, if_pos z]; exact ru
      · rw [if_neg z, if_neg z]; exact True.intro
    have J : Inv X pins σ (upd H1 dx (.xd [(f, v)])) ⟨G, g, dr, tk', os⟩ := I1.laid (t' := tk') (a := dx) (o := .xd [(f, v)]) (h' := G) keepG dn' newG
    refine ⟨hp.objs.size + 1, _, _, ⟨G, g, dr, tk', os⟩, _, .ref D.C, some dx, rfl, J, fun b o z => ?_, ge, hx, ⟨rfl, rfl⟩, rfl, rfl, ?_, rfl, I1.bare, raises_own D.T.exC D.T.tyC, q1 dx hnd⟩
    · by_cases hb : b = hp.objs.size + 1
      · rw [hb, ge] at z; cases z
      · rw [← gk b hb]; exact z
    · rw [upd_ne (Ne.symm dne)]; exact I1.hok.fresh (Nat.le_succ _)
end
end DX

set_option autoImplicit false
set_option maxRecDepth 100000
set_option maxHeartbeats 4000000
/-! try: body, except C as n: suite, where the exception that is caught is told as a thing of the heap -/
namespace DX
open PySem PySem.Spec PyProof.Rows PySem.Calls L2 DL
/-- the exception at a, told -/
abbrev exO' (a C : Addr) (d : Option Addr) : HO := .ext (ExcAt a C d)
theorem exO_ok {P : Program} {w : World} {H : Hp} {h : Heap} {a C : Addr} {d : Option Addr} {o : Obj} {vs : Array Value} (e : h.get? a = some o) (z : Zc (.ref C) d o) (hd : o.data = .fields vs) : ObjOk P w H h a (exO' a C d) :=
  ⟨⟨o, vs, e, z.1, z.2, hd⟩, ⟨o, e⟩, fun _ _ ⟨o', vs', e1, r⟩ k => ⟨o', vs', k _ e1, r⟩⟩
theorem exO_at {P : Program} {w : World} {H : Hp} {h : Heap} {a C : Addr} {d : Option Addr} (hok : HOk P w H h) (e : H a = some (exO' a C d)) : ExcAt a C d h := by
  have z : ObjOk P w H h a (exO' a C d) := hok a _ e
  exact z.1
/-- the place of an except suite -/
abbrev inSuite (X : Cx) (a : Addr) : Cx := { X with A := X.A.mark (some (.ref a)), calm := false, xe := fun _ _ => False }
section
variable {X : Cx} {pins : List (Addr × Obj)} {σ : L2.St} {H : Hp} {s sI : Shared} {B : Heap} {a C : Addr} {d : Option Addr} {o : Obj} {vs : Array Value}
/-- from the ground into the suite: J is told where the exception flew off, I where it lies now -/
theorem suite_in (hex : X.ex = []) (J : Inv X pins σ H sI) (I : Inv X pins σ H s) (nb : ∀ b o, sI.heap.get? b = some o → b ∉ frs X.stack → B.get? b = some o) (hB : B.get? a = none)
    (ha : s.heap.get? a = some o) (hz : Zc (.ref C) d o) (hd : o.data = .fields vs) (na : H a = none) (nst : a ∉ frs X.stack) (nL : a ≠ X.env.locals) : Inv (inSuite X a) pins σ (upd H a (exO' a C d)) s := by
  have nI : ∀ {u : Obj}, sI.heap.get? a = some u → False := fun {u} e => by
    have := nb a u e nst
    rw [hB] at this
    cases this
  have n0 : ∀ {b : Addr} {u : Obj}, X.s_0.heap.get? b = some u → b ≠ a := fun {b u} e z => by
    subst z
    obtain ⟨u', e'⟩ := J.base.there b u e (by rw [hex]; simp)
    exact nI e'
  have nc : ∀ {x : Str} {c : Addr}, X.env.cells.lookup x = some c → c ≠ a := fun {x c} e z => by
    obtain ⟨v, oc, h1, h2⟩ := I.cell x c e
    rw [z, ha] at h1
    cases h1
    rw [hd] at h2
    cases h2
  have ok := I.ok
  refine ⟨⟨ok.mod, ok.kind, ok.glob, ok.blt, ok.above, ok.inj, ok.has, ok.cab, (fun z => nomatch z), ok.frames, ok.stk, ok.exf, ok.bs, ok.bsz, ok.noex, ok.exfs, ok.funs, ok.frf⟩, I.os, I.bare, ?_, I.loc, I.cell, ?_, ?_, ?_, ?_, I.len⟩
  · exact ⟨I.base.keep, I.base.slot, fun b u e n hx => by rw [upd_ne (n0 e)]; exact I.base.free b u e n hx, I.base.there,
      fun b xs e => by have q := I.base.tups b xs e; rw [upd_ne (ne_of_none q na)]; exact q,
      fun b ob v e => by have q := I.base.frzs b ob v e; rw [upd_ne (ne_of_none q na)]; exact q,
      fun b ps e => by obtain ⟨m, q⟩ := I.base.tbls b ps e; exact ⟨m, by rw [upd_ne (ne_of_none q na)]; exact q⟩⟩
  · show upd H a _ X.env.locals = none
    rw [upd_ne (Ne.symm nL)]; exact I.free
  · intro x c e
    rw [upd_ne (nc e)]; exact I.freeC x c e
  · intro p hp
    obtain ⟨p1, p2, p3, p4, p5⟩ := I.pin p hp
    refine ⟨p1, ?_, p3, p4, p5⟩
    rw [upd_ne fun z => nI (by rw [← z]; exact (J.pin p hp).1)]; exact p2
  · intro b u z
    by_cases hb : b = a
    · subst hb
      rw [upd_same] at z
      cases z
      exact exO_ok ha hz hd
    · rw [upd_ne hb] at z
      exact (I.hok b u z).stay (fun _ _ _ y => y) (fun c hc => by rw [upd_ne (ne_of_none hc na)]; exact hc) fun c xs hc => by rw [upd_ne (ne_of_none hc na)]; exact hc
theorem suite_out (I : Inv (inSuite X a) pins σ H s) (ok : X.Ok) : Inv X pins σ H s := ⟨ok, I.os, I.bare, I.base, I.loc, I.cell, I.free, I.freeC, I.pin, I.hok, I.len⟩
end
/-- the name of the clause is gone behind the suite -/
abbrev goneD (i : Nat) (D : Ends) : Ends := { nx := fun τ => D.nx (τ.set i none), rt := D.rt, bk := fun τ => D.bk (τ.set i none), ct := fun τ => D.ct (τ.set i none) }
/-- what is wished of an exception of the body -/
def wAsT (K : PySem.W.Frag) (c : Value) (i : Nat) (ts : Addr → TS) (Wo : WX) (D : Ends) : WX := fun cls d σ H => ∃ C b, cls = .ref C ∧ PySem.W.exmOne K cls c = some b ∧
  (b = true → ∀ a, H a = none → ts a (goneD i D) (σ.set i (some (.ref a))) (upd H a (exO' a C d))) ∧ (b = false → Wo cls d σ H)
section
variable {X : Cx} {x n : Str} {c : Value} {i : Nat} {body suite : List Stmt} {b₀ : Stmt} {np pos pos' : Pos} {tb : WX → TS} {ts : Addr → TS} {Wo : WX}
theorem ps_tryT (hs : X.stack = X.env :: X.outer) (hf : X.env.frame = some X.env.locals) (hex : X.ex = []) (hN : X.N.Nodup) (hi : X.N[i]? = some n) (hln : X.env.kindOf n = some .local) (hc : Names X x c) (tk : Takes X Wo)
    (hb : ∀ (W : WX) (pn : List (Addr × Obj)) (xe : Value → Shared → Prop), Takes (X.tr pn xe) W → PassesOwn (model X.prog X.w) X.A X.env xe → PSs (X.tr pn xe) body (tb W))
    (hsu : ∀ a, PSs (inSuite X a) (b₀ :: suite) (ts a)) :
    PS X (.Try body [.ExceptHandler (some (.Name x np)) (some n) (b₀ :: suite) pos'] [] [] pos) (fun D σ H => tb (wAsT X.K c i ts Wo D) D σ H) := by
  refine ⟨fun pins s σ H D I0 h => ?_⟩
  have ok := I0.ok
  have fr1 : X.A.frames = some (X.env :: X.outer) := by rw [ok.frames, hs]
  let xe2 : Value → Shared → Prop := fun e t1 => wpAny (model X.prog X.w) X.A (noteFrame e X.env) (fun _ t2 => wpAny (model X.prog X.w) X.A (setFlight e none)
    (fun _ t3 => wpAny (model X.prog X.w) X.A (handleBy e X.env [.ExceptHandler (some (.Name x np)) (some n) (b₀ :: suite) pos']) (SP X pins D) X.xe t3) X.xe t2) X.xe t1
  have tkB : Takes (X.tr (X.pn ++ pins) xe2) (wAsT X.K c i ts Wo D) := by
    intro u s' ⟨a, B, sI, pins', σ', H', cls, d, eu, J', nb, up, sky, na, os, ag, C, b, ec, hb1, hyes, hno⟩
    subst eu
    subst ec
    have J : Inv X pins σ' H' sI := J'.ofTry ok
    have nb : ∀ b o, sI.heap.get? b = some o → b ∉ frs X.stack → B.get? b = some o := nb
    have sky : Sky B X.stack a (Zc (.ref C) d) X.env.locals s'.heap := sky
    rw [hs] at sky
    show wpAny (model X.prog X.w) X.A (noteFrame (.ref a) X.env) _ _ _
    refine Sky.land Zc.steady fr1 hf sky fun h3 fl3 up3 => ?_
    have st3 := up.trans up3
    have I3 : Inv X pins σ' H' { s' with heap := h3 } := J.landed nb fl3.1 st3 os ag
    obtain ⟨o3, v3, g3, z3, d3⟩ := fl3.there
    have far : ∀ {h : Heap} {u : Obj} {us : Array Value}, h.FunFrames B (X.env :: X.outer) → h.get? a = some u → u.data = .fields us → a ∉ frs X.stack := fun {h u us} ff e dd hm => by
      rw [hs] at hm
      obtain ⟨_, u', e', hnf⟩ := ff.mem hm
      rw [e] at e'
      cases e'
      exact hnf _ dd
    have nst := far fl3.2.2.1 g3 d3
    have nL : a ≠ X.env.locals := fun z => nst (by rw [hs]; exact List.mem_filterMap.mpr ⟨X.env, List.mem_cons_self, by rw [hf, z]⟩)
    have S3 := suite_in hex J I3 nb fl3.2.1 g3 z3 d3 na nst nL
    refine wpAny_handleBy_cons (codeAny_handlers_test ?_) (fun q => by cases q)
    have LT : PySem.W.Looks (model X.prog X.w) h3 (typeOf (.ref a)) (.ref C) := fun _ _ _ t k q => wpAny_typeOf_ref (k _ _ g3) (by rw [z3.1]; exact q)
    have LM := PySem.W.exm_one (M := model X.prog X.w) I3.kIn LT hb1
    have asks : ∀ {Q E : Value → Shared → Prop}, Q c { s' with heap := h3 } → wpAny (model X.prog X.w) (X.A.mark (some (.ref a))) (eval (.Name x np) X.env) Q E { s' with heap := h3 } := fun {Q E} q => by
      obtain ⟨hg, hdb, hm | ⟨hm, hv, hnn⟩⟩ := hc
      · exact ld_glob (X := inSuite X a) S3 hg hm q hdb
      · exact ld_blt (X := inSuite X a) S3 hg hm hv q hnn hdb
    refine asks (LM.here ?_)
    cases b with
    | true =>
      refine codeAny_handlers_suite_as (HandSPX.lands_againZ fl3 fun h4 fl4 up4 => ?_)
      have I4 : Inv X pins σ' H' { s' with heap := h4 } := J.landed nb fl4.1 (st3.trans up4) os ag
      obtain ⟨o4, v4, g4, z4, d4⟩ := fl4.there
      have S4 := suite_in hex J I4 nb fl4.2.1 g4 z4 d4 na nst nL
      refine store_ok (X := inSuite X a) (v := .ref a) S4 hN hi (.inl hln) rfl (fun s5 S5 => ?_) (.inr hln)
      refine wpAny_mono ((hsu a).run pins s5 _ _ _ S5 (hyes rfl a na)) (fun f s6 hsp => ?_) (fun _ _ z => z.elim)
      have last : ∀ {σ6 : L2.St} {H6 : Hp} {Q : Shared → Prop}, Inv (inSuite X a) pins σ6 H6 s6 → (∀ s7, Inv X pins (σ6.set i none) H6 s7 → Q s7) →
          wpAny (model X.prog X.w) X.A (do bindName X.env n .none; unbindBehindTheSuite X.env n pos') (fun _ s7 => Q s7) X.xe s6 := fun {σ6 H6 Q} S6 hq => gone_ok (suite_out S6 ok) hN hi hln hq
      match f, hsp with
      | .next, ⟨σ6, H6, S6, q6⟩ => exact last S6 fun s7 J7 => ⟨_, _, J7, q6⟩
      | .brk, ⟨σ6, H6, S6, q6⟩ => exact last S6 fun s7 J7 => ⟨_, _, J7, q6⟩
      | .cont, ⟨σ6, H6, S6, q6⟩ => exact last S6 fun s7 J7 => ⟨_, _, J7, q6⟩
      | .ret u, ⟨v6, σ6, H6, S6, r6, q6⟩ => exact last S6 fun s7 J7 => ⟨_, _, _, J7, r6, q6⟩
    | false =>
      show wpAny _ X.A (handleBy (.ref a) X.env []) _ _ _
      refine wpAny_handleBy_nil ?_
      obtain ⟨_, _, _, oe, ve, T, _, _, e1, _, e2, e3, _⟩ := id fl3
      unfold PySem.passOn
      refine wpAny_bind (wpAny_field e1 e2 e3 ?_)
      rw [if_neg (show ¬ (Value.ref T == Value.none) = true from by simp)]
      have on : wpAny (model X.prog X.w) X.A (setFlight (.ref a) X.env.frame) (fun _ t4 => wpAny (model X.prog X.w) X.A (throw (.ref a) : Sem Flow) (SP X pins D) X.xe t4) X.xe { s' with heap := h3 } := by
        rw [hf]
        exact HandSPX.setFlight_upZ fl3 fun h4 hh4 up4 => wpAny_throw (tk _ _ ⟨a, B, sI, pins, σ', H', .ref C, d, rfl, J, nb, st3.trans up4, .inr (.inr (by rw [hs]; exact hh4)), na, os, ag, hno rfl⟩)
      first | exact wpAny_bind (wpAny_pure (wpAny_bind on)) | exact wpAny_bind on
  refine wpAny_Try_except (wpAny_mono ((hb (wAsT X.K c i ts Wo D) (X.pn ++ pins) xe2 tkB PassesOwn.looking).run [] s σ H D (I0.toTry _) h) (fun f s1 hsp => ?_) (fun e s1 he => he))
  match f, hsp with
  | .next, ⟨σ', H', J', q⟩ => exact wpAny_execs_nil ⟨σ', H', J'.ofTry ok, q⟩
  | .brk, ⟨σ', H', J', q⟩ => exact ⟨σ', H', J'.ofTry ok, q⟩
  | .cont, ⟨σ', H', J', q⟩ => exact ⟨σ', H', J'.ofTry ok, q⟩
  | .ret u, ⟨v, σ', H', J', r, q⟩ => exact ⟨v, σ', H', J'.ofTry ok, r, q⟩
end
end DX

set_option autoImplicit false
set_option maxRecDepth 100000
set_option maxHeartbeats 4000000
/-! exceptions: raise, try, calls that may raise -/
namespace DG
open PySem PySem.Spec PyProof.Rows L2
end DG
namespace DL
open PySem PySem.Spec PyProof.Rows L2 DX
/-- what is wished of an exception: its class, what it keeps -/
abbrev KX := Addr → List (Str × D) → Mem → Prop
/-- and what the locals were -/
abbrev KXE := Addr → List (Str × D) → Env → Mem → Prop
abbrev FX := List D → Mem → KD → KX → Prop
def ContX (K : KZ) (Fr H0 : Hp) (kx : KX) (E : XK) : Prop := ∀ C d H0' H' M' fds, Same H0 H0' → Wd K Fr H0' M' H' → XFlds K H0' d fds → kx C fds M' → E (.ref C) d H'
def liftX (K : KZ) (F : FX) : Sp := fun vs H Q E => ∃ Fr H0 M ds k kx, Wd K Fr H0 M H ∧ Dats K H0 vs ds ∧ F ds M k kx ∧ Cont K Fr H0 k Q ∧ ContX K Fr H0 kx E
/-- a def that may raise -/
abbrev DFnX (P : Program) (w : World) (K : PySem.W.Frag) (mg : Str → Option Value) (base : Heap) (k : Nat) (f : Addr) (fd : FuncData) (ps : List Str) (F : FX) : Prop := DG.FnG P w K mg base (L2.CX P w) k f fd ps (liftX (topK K) F)
/-- an exception may go out from here, if kx is true -/
structure Out (X : CxZ) (kx : KXE) : Prop where
  ex : ∃ W : WX, Takes X.X W ∧ ∀ C d σ Γ Fr H0 M H fds, Slots X.K H0 σ Γ → Wd X.K Fr H0 M H → XFlds X.K H0 d fds → kx C fds Γ M → W (.ref C) d σ H
/-- kx of a def's body -/
abbrev defX (kx : KX) : KXE := fun C fds _ M => kx C fds M
section
variable {P : Program} {w : World} {K : PySem.W.Frag} {mg : Str → Option Value} {base : Heap}
theorem Fun.okX {x qual : Str} {st : Stmt} {f : Addr} {fd : FuncData} {N ps : List Str} {k : Nat} {F : FX} {ws : KXE → WS} (Fu : Fun K x qual st f fd) (S : FnScope N ps (defScope st))
    (hbody : ∀ (cdv : Value) (A : Around) (outer : List PySem.Env) (s : Shared) (H : Hp) (E : XK) (z : Hp → Hp → Prop) (zm : ∀ {Fr Fr1 H0 H1 : Hp}, (∀ a o, Fr a = some o → Fr1 a = some o) → Same H0 H1 → z Fr H0 → z Fr1 H1) (kx : KXE),
      DG.RoomG k (A.deeper (PyProof.Rows.envOfC qual (defScope st) s.heap.objs.size f cdv)) → Out ⟨cxOf (L2.CX P w) P w K mg base N qual (defScope st) f cdv A outer s H E, z, zm⟩ kx →
      PassesOwn (model P w) (A.deeper (PyProof.Rows.envOfC qual (defScope st) s.heap.objs.size f cdv)) (PyProof.Rows.envOfC qual (defScope st) s.heap.objs.size f cdv) (cxOf (L2.CX P w) P w K mg base N qual (defScope st) f cdv A outer s H E).xe →
      DSs ⟨cxOf (L2.CX P w) P w K mg base N qual (defScope st) f cdv A outer s H E, z, zm⟩ (defBody st) (ws kx))
    (hw : ∀ ds M kd kx, F ds M kd kx → ds.length = ps.length ∧ ws (defX kx) (fin kd) (startD N ds) M) : DFnX P w K mg base (k + 1) f fd ps F := by
  refine DG.fnG Fu S (fun vs H Q E h => ?_) (fun cdv A outer s H vs Q E hr h => ?_)
  · obtain ⟨Fr, H0, M, ds, kd, kx, w, r, q, c⟩ := h
    rw [r.length]; exact (hw ds M kd kx q).1
  · obtain ⟨Fr, H0, M, ds, kd, kx, wd, r, q, c, cx⟩ := h
    let z : Hp → Hp → Prop := fun Fr' H0' => (∀ a o, Fr a = some o → Fr' a = some o) ∧ Same H0 H0'
    have zm : ∀ {Fr Fr1 H0 H1 : Hp}, (∀ a o, Fr a = some o → Fr1 a = some o) → Same H0 H1 → z Fr H0 → z Fr1 H1 := fun e1 e2 h => ⟨fun a o e => e1 a o (h.1 a o e), h.2.trans e2⟩
    have tk : Takes (cxOf (L2.CX P w) P w K mg base N qual (defScope st) f cdv A outer s H E) (fun cls d _ H => E cls d H) := takes_of rfl rfl rfl rfl
    have ou : Out ⟨cxOf (L2.CX P w) P w K mg base N qual (defScope st) f cdv A outer s H E, z, zm⟩ (defX kx) := ⟨_, tk, fun C d σ Γ Fr1 H1 M1 Hx fds _ w1 xf q1 => by
      refine cx C d H1 Hx M1 fds w1.zz.2 ?_ (XFlds.chg (K := ⟨K, z, zm⟩) (K' := topK K) rfl xf) q1
      exact ⟨w1.ex, fun a c e => by obtain ⟨h1, o, h2, h3⟩ := w1.mem a c e; exact ⟨h1, o, h2, CellOk.chg (K := ⟨K, z, zm⟩) (K' := topK K) rfl h3⟩, fun a o e => w1.fr a o (w1.zz.1 a o e), w1.tb, trivial⟩⟩
    refine ⟨_, (hbody cdv A outer s H E z zm _ hr ou (passes_of rfl)).run, ?_⟩
    refine ⟨startD N ds, Fr, H0, M, fin kd, slots_start (K := ⟨K, z, zm⟩) (Dats.chg (K := topK K) (K' := ⟨K, z, zm⟩) rfl _ _ r), Wd.chg (K := topK K) (K' := ⟨K, z, zm⟩) rfl wd ⟨fun _ _ e => e, Same.refl _⟩, (hw ds M kd kx q).2, ?_⟩
    have c' : Cont ⟨K, z, zm⟩ Fr H0 kd Q := fun v H0' H' d M' e w' rv qv => c v H0' H' d M' e w'.top (Dat.chg (K := ⟨K, z, zm⟩) (K' := topK K) rfl _ _ rv) qv
    exact ⟨fun σ' H0' H' Γ' M' e s w' q' => c' .non H0' H' .non M' e w' .non q', c', fun _ _ _ _ _ _ _ _ q => q.elim, fun _ _ _ _ _ _ _ _ q => q.elim⟩
end
section
variable {X : CxZ} {kx : KXE} {x f : Str} {e : PySem.Expr} {es : List PySem.Expr} {we : WE} {wa : WA} {p pos pos' : Pos} {j : Nat}
def wCallX (F : FX) (kx : KXE) (wa : WA) : WE := fun Γ M k => wa Γ M fun ds M1 => F ds M1 k fun C fds M2 => kx C fds Γ M2
theorem callX_lift {F : FX} {W : WX} {σ : L2.St} {Γ : Env} {Fr H0 H1 H' : Hp} {M' : Mem} {vs : List V} {ds : List D} {k : KD} {Q : VK} (link : ∀ C d σ Γ Fr H0 M H fds, Slots X.K H0 σ Γ → Wd X.K Fr H0 M H → XFlds X.K H0 d fds → kx C fds Γ M → W (.ref C) d σ H)
    (h1 : Slots X.K H0 σ Γ) (h4 : Cont X.K Fr H0 k Q) (e1 : Same H0 H1) (w1 : Wd X.K Fr H1 M' H') (r1 : Dats X.K H1 vs ds) (q1 : F ds M' k fun C fds M2 => kx C fds Γ M2) : liftX (topK X.K.fr) F vs H' Q (L2.WE W σ) :=
  ⟨Fr, H1, M', ds, k, _, w1.top, Dats.chg (K := X.K) (K' := topK X.K.fr) rfl _ _ r1, q1, (h4.mono e1).top w1, fun C d H2 H'' M2 fds e2 w2 xf q2 =>
    link C d σ Γ Fr H2 M2 H'' fds (h1.mono (e1.trans e2)) (Wd.chg (K := topK X.K.fr) (K' := X.K) rfl w2 (X.K.zm (fun _ _ e => e) e2 w1.zz)) (XFlds.chg (K := topK X.K.fr) (K' := X.K) rfl xf) q2⟩
/-- raise C(v) -/
def wRaise (kx : KXE) (C : Addr) (f : Str) (we : WE) : WS := fun _ Γ M => we Γ M fun d M1 => kx C [(f, d)] Γ M1
theorem ds_raise (C : Addr) (D : EDef X.prog X.K.fr X.mg x f) (ho : Out X kx) (hr : DG.RoomG j X.X.A) (hj : 1 ≤ j) (he : DE X e we) (hC : D.C = C := by rfl) (hc : X.calm = true := by rfl) (hg : Gl X x := by rfl) (hdb : (x == ("__debug__" : Str)) = false := by decide)
    (hs : starEach [e] X.env = (false, eval e X.env) :: starEach [] X.env := by rfl) (hpl : (backTo pos (starEach [] X.env)).any (·.1) = false := by rfl) : DS X (.Raise (some (.Call (.Name x p) [e] [] pos)) none pos') (wRaise kx C f we) := by
  subst hC
  obtain ⟨W, tk, link⟩ := ho.ex
  exact ds_of (ps_raise hc tk (pmkE (k := 0) D (hr.mono hj) hg he.run hdb hs hpl)) fun Dn σ H Γ Fr H0 M k h1 h2 h3 h4 => ⟨Γ, Fr, H0, M, _, h1, h2, h3, fun u H1 H' d M' e1 w1 r1 q1 dx hdx =>
    link _ _ σ Γ Fr _ M' _ _ (h1.mono (e1.trans (same_new (w1.fresh hdx)))) (w1.new hdx) (.inr ⟨dx, _, rfl, upd_same, .cons ⟨rfl, r1.mono (same_new (w1.fresh hdx))⟩ .nil⟩) q1⟩
/-! ### isinstance of an exception, what it keeps -/
/-- a class, as a thing -/
theorem de_cls {C : Addr} (hm : X.mg x = some (.ref C)) (hg : Gl X x := by rfl) (hdb : (x == ("__debug__" : Str)) = false := by decide) : DE X (.Name x pos) (wC (.cel C)) := de_c (v := .ref C) (pe_glob hg hm rfl hdb) fun _ => .cel C
def clsV : D → Option Value
  | .cel c => some (.ref c)
  | .ty n => some (.type n)
  | _ => none
/-- isinstance of an instance of C -/
def IsB (K : PySem.W.Frag) (C : Addr) (b : Bool) : D → Prop
  | .tup cs => ∃ us, cs.mapM clsV = some us ∧ PySem.W.kitAny K (.ref C) us = some b
  | c => ∃ u, clsV c = some u ∧ PySem.W.kitOne K (.ref C) u = some b
/-- the values that v stands for: u alone -/
abbrev Sole (v : V) (u : Value) : Prop := ∀ u', RelV v u' → u' = u
theorem sole_of {K : KZ} {H : Hp} {v : V} {d : D} {u : Value} (r : Dat K H v d) (e : clsV d = some u) : Sole v u := by
  cases r with
  | cel a => cases e; exact fun u' h => h
  | ty n => cases e; exact fun u' h => h
  | _ => cases e
theorem soles_of {K : KZ} {H : Hp} : ∀ {vs : List V} {ds : List D} {us : List Value}, Dats K H vs ds → ds.mapM clsV = some us → ∀ {its : List Value}, Vals vs its → its = us
  | _, _, us, .nil, e, its, rv => by
    cases rv
    rw [List.mapM_nil] at e
    cases e
    rfl
  | _, _, us, .cons (d := d) (ds := dr) r t, e, its, rv => by
    rw [List.mapM_cons] at e
    cases q : clsV d with
    | none => rw [q] at e; cases e
    | some u =>
      rw [q] at e
      cases rv with
      | cons r1 rt =>
        have s1 := sole_of r q _ r1
        cases q2 : List.mapM clsV dr with
        | none => rw [q2] at e; cases e
        | some us2 =>
          rw [q2] at e
          cases e
          rw [s1, soles_of t q2 rt]
def rIsX (K : PySem.W.Frag) : List V → Hp → VK → Prop := fun xs H Q => ∃ a C d c b, xs = [.ref a, c] ∧ H a = some (exO' a C d) ∧ ExcC K C ∧ (d = none ∨ ∃ dx fs, d = some dx ∧ H dx = some (.xd fs)) ∧
  ((∃ u, Sole c u ∧ PySem.W.kitOne K (.ref C) u = some b) ∨ ∃ p vs us, c = .ref p ∧ SqT K H p vs ∧ (∀ {its : List Value}, Vals vs its → its = us) ∧ PySem.W.kitAny K (.ref C) us = some b) ∧ Q (.bl b) H
theorem call_isX : CallR X (.builtin "isinstance") (rIsX X.K) := by
  intro pins s σ H xs us Q I r h
  obtain ⟨a, C, d, c, b, rfl, ha, E, hd, hc, q⟩ := h
  cases r with
  | cons rx rr =>
    cases rr with
    | cons rt rr =>
      cases rr
      cases rx
      rename_i u
      obtain ⟨o, vs, g1, g2, g3, g4⟩ := exO_at I.hok ha
      have J : ∃ od, PySem.W.InstAt s.heap a o C od := by
        rcases hd with rfl | ⟨dx, fs, rfl, hx⟩
        · exact ⟨none, g1, g2, by unfold PySem.W.notCls; rw [g4] <;> rfl, by rw [g3]; exact True.intro⟩
        · obtain ⟨mA, ⟨od, es, ep, e1, _⟩, _⟩ := (show ObjOk X.prog X.w H s.heap dx (.xd fs) from I.hok dx _ hx)
          exact ⟨some od, g1, g2, by unfold PySem.W.notCls; rw [g4] <;> rfl, by rw [g3]; exact e1⟩
      obtain ⟨od, J⟩ := J
      have hcl : (PySem.W.clsIn X.X.K C).isSome = true := by
        obtain ⟨cd, h1, _⟩ := PySem.W.any_some E.hd
        rw [h1]; rfl
      have Z := PySem.W.kitx_exc (x := a) (ox := o) (od := od) hcl E.hg E.hk E.hs E.ha E.hn E.ht E.hm
      rcases hc with ⟨cv, hs, hk⟩ | ⟨p, vs2, us2, rfl, hsq, hv, hk⟩
      · rw [hs _ rt]
        exact PySem.W.kia_one Z I.kIn J hk (fun z => nomatch z) fun tk => ⟨.bl b, H, I.kept (t' := tk) fun _ _ z => z, rfl, q⟩
      · obtain ⟨its, rv, ⟨ot, e1, e2, n, e3⟩, _⟩ := I.tuple hsq
        obtain rfl : u = Value.ref p := rt
        have := hv rv
        subst this
        obtain ⟨oc, odd, oda, osl⟩ := ot
        dsimp only at e2 e3
        subst e2 e3
        exact PySem.W.kia_tup Z I.kIn J e1 hk (fun z => nomatch z) fun tk => ⟨.bl b, H, I.kept (t' := tk) fun _ _ z => z, rfl, q⟩
def rdIsX (K : PySem.W.Frag) : FD := fun ds M k => ∃ a C fds c b, ds = [.cel a, c] ∧ M a = some (.exc a C fds) ∧ ExcC K C ∧ IsB K C b c ∧ k (.bl b) M
theorem Wd.excAt {K : KZ} {Fr H0 H : Hp} {M : Mem} {a b C : Addr} {fds : List (Str × D)} (w : Wd K Fr H0 M H) (h : M a = some (.exc b C fds)) : ∃ d, H a = some (.ext (ExcAt b C d)) ∧ XFlds K H0 d fds := by
  obtain ⟨_, o, ho, ck⟩ := w.mem a _ h
  cases ck with
  | exc hx => exact ⟨_, ho, hx⟩
theorem de_isX {es : List PySem.Expr} (K0 : PySem.W.Frag) (hm : X.mg "isinstance" = none) (ha : DA X (e :: es) wa) (hg : Gl X "isinstance" := by rfl) (he : starEach (e :: es) X.env = (false, eval e X.env) :: starEach es X.env := by rfl)
    (hpl : (backTo pos (starEach es X.env)).any (·.1) = false := by rfl) (hK : X.K.fr = K0 := by rfl) : DE X (.Call (.Name "isinstance" p) (e :: es) [] pos) (wCall (rdIsX K0) wa) := by
  subst hK
  exact de_callB call_isX (fun Fr H0 M H vs ds k Q w r h c => by
    obtain ⟨a, C, fds, cd, b, rfl, hM, E, hb, q⟩ := h
    cases r with
    | cons r1 rr =>
      cases rr with
      | cons r2 rr =>
        cases rr
        cases r1
        obtain ⟨d, ho, xf⟩ := w.excAt hM
        refine ⟨a, C, d, _, b, rfl, ho, E, ?_, ?_, c _ H0 H _ M (Same.refl _) w (.bl b) q⟩
        · rcases xf with ⟨rfl, _⟩ | ⟨dx, fs, rfl, h2, _⟩
          · exact .inl rfl
          · exact .inr ⟨dx, fs, rfl, w.ex _ _ h2⟩
        · cases r2 with
          | tup hs hd =>
            obtain ⟨us, e1, e2⟩ := hb
            exact .inr ⟨_, _, us, rfl, same_t w.ex hs, fun rv => soles_of hd e1 rv, e2⟩
          | cel c0 => obtain ⟨u, e1, e2⟩ := hb; exact .inl ⟨u, sole_of (.cel (K := X.K) (H := H0) c0) e1, e2⟩
          | ty n => obtain ⟨u, e1, e2⟩ := hb; exact .inl ⟨u, sole_of (.ty (K := X.K) (H := H0) n) e1, e2⟩
          | _ => obtain ⟨u, e1, e2⟩ := hb; cases e1) hm (by first | rfl | decide +kernel) ha hg (by decide) (by decide) he hpl
/-- e.f of an exception -/
def wFldX (K : PySem.W.Frag) (f : Str) (we : WE) : WE := fun Γ M k => we Γ M fun d M1 => ∃ a C fds v, d = .cel a ∧ M1 a = some (.exc a C fds) ∧ ExcC K C ∧ PySem.W.findIn K (.ref C) f = some none ∧ fds.lookup f = some v ∧ k v M1
theorem fdsL {K : KZ} {H : Hp} {f : Str} {d : D} : ∀ {fs : List (Str × V)} {fds : List (Str × D)}, FDs K H fs fds → fds.lookup f = some d → ∃ v, fs.lookup f = some v ∧ Dat K H v d := fun h => (fds_get h).1 d
theorem de_fldX (K0 : PySem.W.Frag) (he : DE X e we) (hb : attributeBase e f X.env (eval e X.env) = eval e X.env := by rfl) (hK : X.K.fr = K0 := by rfl) : DE X (.Attribute e f pos) (wFldX K0 f we) := by
  subst hK
  refine ⟨⟨fun pins s σ H Q I h => ?_⟩⟩
  obtain ⟨Γ, Fr, H0, M, k, h1, h2, h3, h4⟩ := h
  refine attr_of hb (thn (he.run.run pins s σ H (fun u H' => ∃ a C d dx fs v, u = .ref a ∧ H' a = some (exO' a C d) ∧ ExcC X.X.K C ∧ PySem.W.findIn X.X.K (.ref C) f = some none ∧ d = some dx ∧ H' dx = some (.xd fs) ∧ fs.lookup f = some v ∧ Q v H') I
    ⟨Γ, Fr, H0, M, _, h1, h2, h3, fun u H1 H' d M' e1 w1 r1 q1 => ?_⟩) fun u s1 hh => ?_)
  · obtain ⟨a, C, fds, v, rfl, hM, E, hno, hl, q⟩ := q1
    cases r1
    obtain ⟨d, ho, xf⟩ := w1.excAt hM
    rcases xf with ⟨_, rfl⟩ | ⟨dx, fs, rfl, g2, g3⟩
    · cases hl
    · obtain ⟨vv, l1, l2⟩ := fdsL g3 hl
      exact ⟨a, C, _, dx, fs, vv, rfl, ho, E, hno, rfl, w1.ex _ _ g2, l1, h4 vv H1 H' v M' e1 w1 l2 q⟩
  · obtain ⟨x, H1, I1, rx, a, C, d, dx, fs, v, rfl, ha, E, hno, rfl, ea, l, q⟩ := hh
    obtain rfl : u = Value.ref a := rx
    obtain ⟨o, vs, g1, g2, g3, g4⟩ := exO_at I1.hok ha
    obtain ⟨mA, hns, hr⟩ := (show ObjOk X.prog X.w H1 s1.heap dx (.xd fs) from I1.hok dx _ ea)
    obtain ⟨od, ho, hl⟩ := lookIn_ns hns
    obtain ⟨u, hu, ru⟩ := RelO.some_of (v := v) (o := mA f) (by rw [← l]; exact hr f)
    have J : PySem.W.InstAt s1.heap a o C (some od) := ⟨g1, g2, by unfold PySem.W.notCls; rw [g4] <;> rfl, by rw [g3]; exact ho⟩
    exact HandSPX.exc_get I1.kIn J E.hg E.hk E.hs (PySem.W.findObj_own E.hd hno rfl (by rw [hl, hu])) (handed_of ru) ⟨v, H1, I1.tok _, ru, q⟩
end
/-! ### try -/
/-- the name of the clause is gone behind the suite -/
def goneK (i : Nat) (k : KS) : KS := ⟨fun Γ => k.nx (Γ.set i none), k.rt, fun Γ => k.bk (Γ.set i none), fun Γ => k.ct (Γ.set i none)⟩
def wTry (K : PySem.W.Frag) (c : Value) (i : Nat) (kxo : KXE) (tb : KXE → WS) (ts : WS) : WS := fun k Γ M => tb (fun C fds Γ1 M1 => ∃ b, PySem.W.exmOne K (.ref C) c = some b ∧
  (b = true → ∀ a, M1 a = none → ts (goneK i k) (Γ1.set i (some (.cel a))) (setM M1 a (.exc a C fds))) ∧ (b = false → kxo C fds Γ1 M1)) k Γ M
abbrev trZ (X : CxZ) (pn : List (Addr × Obj)) (xe : Value → Shared → Prop) (z : Hp → Hp → Prop) (zm : ∀ {Fr Fr1 H0 H1 : Hp}, (∀ a o, Fr a = some o → Fr1 a = some o) → Same H0 H1 → z Fr H0 → z Fr1 H1) : CxZ := ⟨X.X.tr pn xe, z, zm⟩
abbrev suZ (X : CxZ) (a : Addr) : CxZ := ⟨inSuite X.X a, X.z, X.zm⟩
section
variable {X : CxZ} {kx : KXE} {x n : Str} {c : Value} {i : Nat} {body suite : List Stmt} {b₀ : Stmt} {np pos pos' : Pos} {tb : KXE → WS} {ts : WS}
theorem ds_try (K0 : PySem.W.Frag) (ho : Out X kx) (hc : Names X.X x c) (hN : X.N.Nodup)
    (hb : ∀ (pn : List (Addr × Obj)) (xe : Value → Shared → Prop) (z : Hp → Hp → Prop) (zm : ∀ {Fr Fr1 H0 H1 : Hp}, (∀ a o, Fr a = some o → Fr1 a = some o) → Same H0 H1 → z Fr H0 → z Fr1 H1) (kx : KXE), Out (trZ X pn xe z zm) kx →
      PassesOwn (model X.prog X.w) X.A X.env xe → DSs (trZ X pn xe z zm) body (tb kx))
    (hsu : ∀ a, DSs (suZ X a) (b₀ :: suite) ts) (hi : X.N[i]? = some n := by rfl) (hln : X.env.kindOf n = some .local := by rfl) (hs : X.stack = X.env :: X.X.outer := by rfl) (hf : X.env.frame = some X.env.locals := by rfl) (hex : X.X.ex = [] := by rfl) (hK : X.K.fr = K0 := by rfl) :
    DS X (.Try body [.ExceptHandler (some (.Name x np)) (some n) (b₀ :: suite) pos'] [] [] pos) (wTry K0 c i kx tb ts) := by
  subst hK
  obtain ⟨Wo, tk, link⟩ := ho.ex
  let tbT : WX → TS := fun W D σ H => ∃ (kx : KXE) (z : Hp → Hp → Prop) (zm : ∀ {Fr Fr1 H0 H1 : Hp}, (∀ a o, Fr a = some o → Fr1 a = some o) → Same H0 H1 → z Fr H0 → z Fr1 H1),
    liftS ⟨X.X.K, z, zm⟩ (tb kx) D σ H ∧ ∀ C d σ Γ Fr H0 M H fds, Slots ⟨X.X.K, z, zm⟩ H0 σ Γ → Wd ⟨X.X.K, z, zm⟩ Fr H0 M H → XFlds ⟨X.X.K, z, zm⟩ H0 d fds → kx C fds Γ M → W (.ref C) d σ H
  refine ds_of (ps_tryT (tb := tbT) (ts := fun _ => liftS X.K ts) hs hf hex hN hi hln hc tk (fun W pn xe tkW hp => ⟨fun pins s σ H D I ⟨kx, z, zm, h, lk⟩ => ?_⟩) fun a => (hsu a).run) fun D σ H Γ Fr H0 M k h1 h2 h3 h4 => ?_
  · exact (hb pn xe z zm kx ⟨W, tkW, lk⟩ hp).run.run pins s σ H D I h
  · let z : Hp → Hp → Prop := fun Fr' H0' => X.z Fr' H0' ∧ (∀ a o, Fr a = some o → Fr' a = some o) ∧ Same H0 H0'
    have zm : ∀ {Fr Fr1 H0 H1 : Hp}, (∀ a o, Fr a = some o → Fr1 a = some o) → Same H0 H1 → z Fr H0 → z Fr1 H1 := fun e1 e2 h => ⟨X.zm e1 e2 h.1, fun a o e => e1 a o (h.2.1 a o e), h.2.2.trans e2⟩
    have slC : ∀ {H1 : Hp} {τ : L2.St} {Γ1 : Env}, Slots ⟨X.X.K, z, zm⟩ H1 τ Γ1 → Slots X.K H1 τ Γ1 := fun s => ⟨s.len, fun i d e => by obtain ⟨v, e1, e2⟩ := s.get i d e; exact ⟨v, e1, Dat.chg (K := ⟨X.X.K, z, zm⟩) (K' := X.K) rfl _ _ e2⟩⟩
    have slD : ∀ {H1 : Hp} {τ : L2.St} {Γ1 : Env}, Slots X.K H1 τ Γ1 → Slots ⟨X.X.K, z, zm⟩ H1 τ Γ1 := fun s => ⟨s.len, fun i d e => by obtain ⟨v, e1, e2⟩ := s.get i d e; exact ⟨v, e1, Dat.chg (K := X.K) (K' := ⟨X.X.K, z, zm⟩) rfl _ _ e2⟩⟩
    have wdC : ∀ {Fr1 H1 : Hp} {M1 : Mem} {H : Hp}, Wd ⟨X.X.K, z, zm⟩ Fr1 H1 M1 H → Wd X.K Fr1 H1 M1 H := fun w => Wd.chg (K := ⟨X.X.K, z, zm⟩) (K' := X.K) rfl w w.zz.1
    refine ⟨_, z, zm, ⟨Γ, Fr, H0, M, k, slD h1, Wd.chg (K := X.K) (K' := ⟨X.X.K, z, zm⟩) rfl h2 ⟨h2.zz, fun _ _ e => e, Same.refl _⟩, h3, ?_⟩, fun C d τ Γ1 Fr1 H1 M1 Hx fds s1 w1 xf q => ?_⟩
    · exact ⟨fun σ' H1 H' Γ' M' e s w q => h4.nx σ' H1 H' Γ' M' e (slC s) (wdC w) q, fun v H1 H' d M' e w r q => h4.rt v H1 H' d M' e (wdC w) (Dat.chg (K := ⟨X.X.K, z, zm⟩) (K' := X.K) rfl _ _ r) q,
        fun σ' H1 H' Γ' M' e s w q => h4.bk σ' H1 H' Γ' M' e (slC s) (wdC w) q, fun σ' H1 H' Γ' M' e s w q => h4.ct σ' H1 H' Γ' M' e (slC s) (wdC w) q⟩
    · obtain ⟨b, hb1, hy, hn⟩ := q
      have w1' := wdC w1
      refine ⟨C, b, rfl, hb1, fun hbt a ha => ?_, fun hbf => link C d τ Γ1 Fr1 H1 M1 Hx fds (slC s1) w1' (XFlds.chg (K := ⟨X.X.K, z, zm⟩) (K' := X.K) rfl xf) (hn hbf)⟩
      have w2 : Wd X.K Fr H1 M1 Hx := ⟨w1'.ex, w1'.mem, fun b o e => w1'.fr b o (w1.zz.2.1 b o e), w1'.tb, X.zm (fun _ _ e => e) w1.zz.2.2 h2.zz⟩
      have h5 := h4.mono w1.zz.2.2
      exact ⟨_, Fr, H1, _, goneK i k, (slC s1).set i (.cel a), w2.newM ha (.exc (XFlds.chg (K := ⟨X.X.K, z, zm⟩) (K' := X.K) rfl xf)), hy hbt a (w1'.freshM ha), ⟨fun σ' H2 H' Γ' M' e s w q => h5.nx _ H2 H' _ M' e (s.none i) w q, h5.rt, fun σ' H2 H' Γ' M' e s w q => h5.bk _ H2 H' _ M' e (s.none i) w q, fun σ' H2 H' Γ' M' e s w q => h5.ct _ H2 H' _ M' e (s.none i) w q⟩⟩
end
end DL
namespace DL
open PySem PySem.Spec PyProof.Rows L2 DX
/-- nothing goes out -/
theorem out_never {X : CxZ} : Out X (fun _ _ _ _ => False) := ⟨fun _ _ _ _ => False, fun u s' ⟨_, _, _, _, _, _, _, _, _, _, _, _, _, _, _, _, w⟩ => w.elim, fun _ _ _ _ _ _ _ _ _ _ _ _ q => q⟩
end DL
namespace DX
open PySem PySem.Spec PyProof.Rows PySem.W
/-- what isinstance tells of an instance of C -/
def kitL (K : Frag) (C : Addr) (l : List (Value × Bool)) : Bool := l.all fun p => decide (kitOne K (.ref C) p.1 = some p.2)
theorem kitL_at {K : Frag} {C : Addr} {l : List (Value × Bool)} (h : kitL K C l = true) {c : Value} {b : Bool} (m : (c, b) ∈ l) : kitOne K (.ref C) c = some b := of_decide_eq_true (List.all_eq_true.mp h _ m)
theorem kitAny_no {K : Frag} {C : Addr} : ∀ {us : List Value}, (∀ u ∈ us, kitOne K (.ref C) u = some false) → kitAny K (.ref C) us = some false
  | [], _ => rfl
  | u :: us, h => by
    unfold kitAny
    rw [h u List.mem_cons_self]
    exact kitAny_no fun v hv => h v (List.mem_cons_of_mem _ hv)
/-- all that is asked of such a class, looked up -/
def exB (K : Frag) (C fI cda : Addr) (f qual : Str) : Bool :=
  (match K.lookup C with
   | some ⟨.type "type", _, .cls cd, sl⟩ => (match cd.mro, sl.toList with
     | .ref C' :: bm, [_, _, _, _, some (.builtin n), _] => decide (C' = C) && (decide (n = "ValueError.__new__") && (decide (cd.hasDel = false) && (decide (cd.hasDict = true) && HandSPX.refsVE bm)))
     | _, _ => false)
   | _ => false) &&
  [decide (findIn K (.ref C) "__setattr__" = some (some (.builtin "object.__setattr__"))), decide (subIn K (.ref C) (.type "BaseException") = some true), decide (typeIn K (.ref C) = some (.type "type")), keepIn K (.ref C),
   decide (findIn K (.ref C) "__getattribute__" = some (some (.builtin "BaseException.__getattribute__"))), decide (findIn K (.ref C) "__getattr__" = some none), hasDictIn K C,
   decide (findIn K (.ref C) "__class__" = some (some (.builtin "object.__class__"))), decide (specialIn K (.builtin "object.__class__") "__get__" = some (some (.builtin "getset_descriptor.__get__"))), decide (takesIn K (.builtin "object.__class__") = some true),
   decide (mroIn K C (.type "object") = some true), decide (typeIn K (.ref fI) = some (.type "function")), codeIn K (.ref cda) qual, decide (nsIn K cStatics "thirdparty.any" = some none),
   decide (ks_superIn K C C "__init__" = some (some (.builtin "ValueError.__init__"))), decide (subIn K (.ref C) (.type "ValueError") = some true), decide (mroIn K C (.ref C) = some true), excInitIn K C clsTail "ValueError.__new__",
   decide (findIn K (.ref C) f = some none), decide (findIn K (.ref C) "__init__" = some (some (.ref fI)))].all id
theorem exB_cls {K : Frag} {C fI cda : Addr} {f qual : Str} (h : exB K C fI cda f qual = true) :
    ∃ nm q N bs bm sn sub ab col dd k0 k1 k2 k3 k5, K.lookup C = some (excClassObj nm q C N bs bm true sn sub ab col dd k0 k1 k2 k3 k5 "ValueError.__new__") ∧ HandSPX.refsVE bm = true := by
  unfold exB at h
  have h := (Bool.and_eq_true_iff.mp h).1
  split at h
  · rename_i dd cd sl ho
    split at h
    · rename_i C' bm k0 k1 k2 k3 n k5 hm hs
      simp only [Bool.and_eq_true, decide_eq_true_eq] at h
      obtain ⟨rfl, rfl, hdel, hdct, hb⟩ := h
      obtain ⟨nm, bs, mro, ns, qn, hd, sn, sub, ab, col, del⟩ := cd
      dsimp only at hm hdel hdct
      subst hm hdel hdct
      obtain ⟨l⟩ := sl
      dsimp only at hs
      subst hs
      exact ⟨nm, qn, ns, bs, bm, sn, sub, ab, col, dd, k0, k1, k2, k3, k5, ho, hb⟩
    · cases h
  · cases h
theorem exB_all {K : Frag} {C fI cda : Addr} {f qual : Str} (h : exB K C fI cda f qual = true) : (L2.OexC K C ∧ L2.ExcC K C) ∧ (findIn K (.ref C) ("__init__" : Str) = some (some (.ref fI)) ∧ typeIn K (.ref fI) = some (.type "function") ∧ codeIn K (.ref cda) qual = true ∧ nsIn K cStatics "thirdparty.any" = some none) ∧
    (ks_superIn K C C "__init__" = some (some (.builtin "ValueError.__init__")) ∧ subIn K (.ref C) (.type "ValueError") = some true ∧ mroIn K C (.ref C) = some true) ∧ excInitIn K C clsTail "ValueError.__new__" = true ∧ findIn K (.ref C) f = some none := by
  have hc := exB_cls h
  unfold exB at h
  have h := (Bool.and_eq_true_iff.mp h).2
  simp only [List.all_cons, List.all_nil, Bool.and_eq_true, decide_eq_true_eq, id, and_true] at h
  obtain ⟨h1, h2, h3, h4, h5, h6, h7, h8, h9, h10, h11, h12, h13, h14, h15, h16, h17, h18, h19, h20⟩ := h
  exact ⟨⟨⟨hc, h1, h2, h3, h4⟩, ⟨h5, h6, h2, h7, h8, h9, h10, h11⟩⟩, ⟨h20, h12, h13, h14⟩, ⟨h15, h16, h17⟩, h18, h19⟩
/-- the class, by one check -/
def EDef.of {P : Program} {K : Frag} {mg : Str → Option Value} {x f : Str} {C fI : Addr} {a : IArgs} (hf : a.f = f) (at_ : mg x = some (.ref C)) (h : exB K C fI a.cda a.f a.qual = true) (S : SuperScope a.ns a.f) (lk : ∃ oc od osl, K.lookup fI = some ⟨oc, od, .func a.fd, osl⟩)
    (self : ∃ ar, (a.ps.posonlyargs ++ a.ps.args).head? = some ar ∧ ar.arg = "self") (code : ∃ ccl cdd us ccs file tf, K.lookup a.cda = some ⟨ccl, cdd, .fields us, ccs⟩ ∧ us[2]? = some (.str file tf) ∧ ((P.main.file : Str) == file) = true)
    (cell : ∃ cl cld csl, K.lookup a.cc = some ⟨cl, cld, .cell (some (.ref C)), csl⟩) (sup : mg "super" = none) (top : (P.main.scope.names.lookup ("super" : Str)).isSome = false) (b : ∀ (s : Shared) (e v : Value), BindsTo s a.fd ⟨[e, v], []⟩ [("self", e), (a.f, v)])
    (ev : ∃ pl : Sem Bool, ∀ L : Addr, eval a.call (callEnv a.fd L fI) = (do
      let ov ← attributeBase (.Call (.Name "super" a.p0) [] [] a.p1) "__init__" (callEnv a.fd L fI) (eval (.Call (.Name "super" a.p0) [] [] a.p1) (callEnv a.fd L fI))
      standAt a.p2.atName
      let (g, me) ← holding [ov] (getMethod ov "__init__" pl)
      callWith a.p4 g me (backTo a.p4 (starEach [.Constant (.str a.m) a.j a.p3] (callEnv a.fd L fI))) [])) : EDef P K mg x f where
  C := C
  fI := fI
  a := a
  f_is := hf
  at_ := at_
  T := (exB_all h).1.1
  ie := (exB_all h).1.2
  iC := (exB_all h).2.1.1
  tI := (exB_all h).2.1.2.1
  S := S
  lk := lk
  cd := (exB_all h).2.1.2.2.1
  self := self
  code := code
  cell := cell
  sup := sup
  top := top
  op := (exB_all h).2.1.2.2.2
  sIn := (exB_all h).2.2.1.1
  isV := (exB_all h).2.2.1.2.1
  isC := (exB_all h).2.2.1.2.2
  ok := (exB_all h).2.2.2.1
  no := (exB_all h).2.2.2.2
  b := b
  ev := ev
end DX

set_option autoImplicit false
set_option maxRecDepth 100000
set_option maxHeartbeats 2000000
/-! repr of things in which dicts stand: bare ones, and such of one entry -/
namespace DL
open PySem PySem.Spec PyProof.Rows L2
mutual
/-- how d is shown -/
inductive Sh (M : Mem) : D → PyData → Prop
  | non : Sh M .non .none
  | bl (b : Bool) : Sh M (.bl b) (.bool b)
  | int (i : Int) : Sh M (.int i) (.int i)
  | str (s : Str) : Sh M (.str s) (.str s)
  | tup {ds : List D} {ps : List PyData} : Shs M ds ps → Sh M (.tup ds) (.tuple ps)
  | lst {ds : List D} {ps : List PyData} : Shs M ds ps → Sh M (.lst ds) (.list ps)
  | bare {a : Addr} : M a = some (.dct []) → Sh M (.cel a) (.dict [])
  | one {a : Addr} {x : Str} {d : D} {p : PyData} : M a = some (.dct [(.inr x, d)]) → Sh M d p → Sh M (.cel a) (.dict [(.str x, p)])
inductive Shs (M : Mem) : List D → List PyData → Prop
  | nil : Shs M [] []
  | cons {d : D} {p : PyData} {ds : List D} {ps : List PyData} : Sh M d p → Shs M ds ps → Shs M (d :: ds) (p :: ps)
end
/-- the dicts stay -/
def GrowD (M M' : Mem) : Prop := ∀ a kvs, M a = some (.dct kvs) → M' a = some (.dct kvs)
mutual
theorem Sh.mono {M M' : Mem} (g : GrowD M M') : ∀ {d : D} {p : PyData}, Sh M d p → Sh M' d p
  | _, _, .non => .non
  | _, _, .bl b => .bl b
  | _, _, .int i => .int i
  | _, _, .str s => .str s
  | _, _, .tup h => .tup (Shs.mono g h)
  | _, _, .lst h => .lst (Shs.mono g h)
  | _, _, .bare e => .bare (g _ _ e)
  | _, _, .one e h => .one (g _ _ e) (Sh.mono g h)
theorem Shs.mono {M M' : Mem} (g : GrowD M M') : ∀ {d : List D} {p : List PyData}, Shs M d p → Shs M' d p
  | _, _, .nil => .nil
  | _, _, .cons h t => .cons (Sh.mono g h) (Shs.mono g t)
end
section
variable {K : KZ} {Fr H0 H : Hp} {M : Mem}
mutual
theorem Sh.ok (w : Wd K Fr H0 M H) : ∀ {d : D} {p : PyData} {v : V}, Sh M d p → Dat K H0 v d → RP.DR K H v p
  | _, _, _, .non, r => by cases r; exact .non
  | _, _, _, .bl _, r => by cases r; exact .bl _
  | _, _, _, .int _, r => by cases r; exact .int _
  | _, _, _, .str _, r => by cases r; exact .str _
  | _, _, _, .tup h, r => by cases r with | tup hs hd => exact .tup (same_t w.ex hs) (Shs.ok w h hd)
  | _, _, _, .lst h, r => by cases r with | lst hs hd => exact .lst (.of (w.ex _ _ hs)) (Shs.ok w h hd)
  | _, _, _, .bare e, r => by
    cases r
    obtain ⟨_, o, ho, hc⟩ := w.mem _ _ e
    cases hc with
    | dct r => cases r; exact .bare (.inl ho)
  | _, _, _, .one e h, r => by
    cases r
    obtain ⟨_, o, ho, hc⟩ := w.mem _ _ e
    cases hc with
    | dct r =>
      cases r with
      | @cons q _ _ _ hq rr =>
        cases rr
        obtain ⟨κ, v⟩ := q
        obtain ⟨ek, rv⟩ := hq
        have ek : κ = _ := ek
        subst ek
        exact .one (.inl ho) (Sh.ok w h rv)
theorem Shs.ok (w : Wd K Fr H0 M H) : ∀ {d : List D} {p : List PyData} {v : List V}, Shs M d p → Dats K H0 v d → RP.DRs K H v p
  | _, _, _, .nil, r => by cases r; exact .nil
  | _, _, _, .cons h t, r => by cases r with | cons r1 r2 => exact .cons (Sh.ok w h r1) (Shs.ok w t r2)
end
def rdReprS : FD := fun ds M k => ∃ d p, ds = [d] ∧ Sh M d p ∧ p.showable = true ∧ p.shown.length ≤ sizeLine ∧ p.depth ≤ 64 ∧ k (.str p.shown) M
theorem calld_reprS : CallD K (RP.rRepr K) rdReprS := fun Fr H0 M H vs ds k Q w r h c => by
  obtain ⟨d, p, rfl, sh, h1, h2, h3, q⟩ := h
  obtain ⟨v, rfl, rv⟩ := dats1 r
  exact ⟨v, p, rfl, sh.ok w rv, h1, h2, h3, c _ H0 H _ M (Same.refl _) w (.str _) q⟩
end
theorem de_reprS {X : CxZ} {k : Nat} {e : PySem.Expr} {we : WE} {p pos : Pos} (hr : DG.RoomG k X.X.A) (hm : X.mg "repr" = none) (he : DE X e we) (hs : starEach [e] X.env = (false, eval e X.env) :: starEach [] X.env := by rfl) (hg : Gl X "repr" := by rfl)
    (hpl : (backTo pos (starEach [] X.env)).any (·.1) = false := by rfl) : DE X (.Call (.Name "repr" p) [e] [] pos) (wCall rdReprS (wCons we wNil)) :=
  de_callB (RP.call_repr hr) calld_reprS hm boot_repr (da_cons he da_nil hs) hg (by decide) (by decide) hs hpl
/-! ### things: how great they are -/
mutual
/-- a: weight; b: depth; c: width; whole numbers below N -/
inductive Tg (N : Nat) (M : Mem) : Nat → Nat → Nat → D → Prop
  | non {a b c : Nat} : Tg N M a b c .non
  | bl {a b c : Nat} (x : Bool) : Tg N M a b c (.bl x)
  | int {a b c : Nat} {i : Int} : i.natAbs < N → 41 ≤ a → Tg N M a b c (.int i)
  | str {a b c : Nat} {s : Str} : plain s = true → s.length ≤ a → Tg N M a b c (.str s)
  | tup {a b c : Nat} {ds : List D} : Tgs N M a b c ds → ds.length ≤ c → Tg N M a (b + 1) c (.tup ds)
  | lst {a b c : Nat} {ds : List D} : Tgs N M a b c ds → Tg N M a (b + 1) c (.lst ds)
  | bare {a b c : Nat} {x : Addr} : M x = some (.dct []) → Tg N M a (b + 1) c (.cel x)
  | one {a a0 b c : Nat} {x : Addr} {k : Str} {d : D} : M x = some (.dct [(.inr k, d)]) → plain k = true → Tg N M a0 b c d → k.length + a0 + 2 ≤ a → Tg N M a (b + 1) c (.cel x)
inductive Tgs (N : Nat) (M : Mem) : Nat → Nat → Nat → List D → Prop
  | nil {a b c : Nat} : Tgs N M a b c []
  | cons {a a1 a2 b c : Nat} {d : D} {ds : List D} : Tg N M a1 b c d → Tgs N M a2 b c ds → a1 + 1 + a2 ≤ a → Tgs N M a b c (d :: ds)
end
section
variable {N N' : Nat} {M M' : Mem}
mutual
theorem Tg.up (hN : N ≤ N') (g : GrowD M M') : ∀ {a a' b b' c c' : Nat} {d : D}, Tg N M a b c d → a ≤ a' → b ≤ b' → c ≤ c' → Tg N' M' a' b' c' d
  | _, _, _, _, _, _, _, .non, _, _, _ => .non
  | _, _, _, _, _, _, _, .bl x, _, _, _ => .bl x
  | _, _, _, _, _, _, _, .int h h2, ha, _, _ => .int (Nat.lt_of_lt_of_le h hN) (by omega)
  | _, _, _, _, _, _, _, .str h h2, ha, _, _ => .str h (by omega)
  | _, _, _, 0, _, _, _, .tup h h2, ha, hb, hc => absurd hb (by omega)
  | _, _, _, b' + 1, _, _, _, .tup h h2, ha, hb, hc => .tup (Tgs.up hN g h ha (by omega) hc) (by omega)
  | _, _, _, 0, _, _, _, .lst h, ha, hb, hc => absurd hb (by omega)
  | _, _, _, b' + 1, _, _, _, .lst h, ha, hb, hc => .lst (Tgs.up hN g h ha (by omega) hc)
  | _, _, _, 0, _, _, _, .bare h, ha, hb, hc => absurd hb (by omega)
  | _, _, _, b' + 1, _, _, _, .bare h, ha, hb, hc => .bare (g _ _ h)
  | _, _, _, 0, _, _, _, .one h _ _ _, ha, hb, hc => absurd hb (by omega)
  | _, _, _, b' + 1, _, _, _, .one h h1 h2 h3, ha, hb, hc => .one (g _ _ h) h1 (Tg.up hN g h2 (Nat.le_refl _) (by omega) hc) (by omega)
theorem Tgs.up (hN : N ≤ N') (g : GrowD M M') : ∀ {a a' b b' c c' : Nat} {d : List D}, Tgs N M a b c d → a ≤ a' → b ≤ b' → c ≤ c' → Tgs N' M' a' b' c' d
  | _, _, _, _, _, _, _, .nil, _, _, _ => .nil
  | _, _, _, _, _, _, _, .cons h t h2, ha, hb, hc => .cons (Tg.up hN g h (Nat.le_refl _) hb hc) (Tgs.up hN g t (Nat.le_refl _) hb hc) (by omega)
end
theorem growD_refl : GrowD M M := fun _ _ e => e
theorem GrowD.trans {M2 : Mem} (a : GrowD M M') (b : GrowD M' M2) : GrowD M M2 := fun x k e => b x k (a x k e)
theorem Tg.le {a a' b b' c c' : Nat} {d : D} (h : Tg N M a b c d) (ha : a ≤ a') (hb : b ≤ b') (hc : c ≤ c') : Tg N M a' b' c' d := h.up (Nat.le_refl _) growD_refl ha hb hc
theorem Tgs.le {a a' b b' c c' : Nat} {d : List D} (h : Tgs N M a b c d) (ha : a ≤ a') (hb : b ≤ b') (hc : c ≤ c') : Tgs N M a' b' c' d := h.up (Nat.le_refl _) growD_refl ha hb hc
theorem Tgs.take {b c : Nat} : ∀ {a : Nat} {ds : List D} (n : Nat), Tgs N M a b c ds → Tgs N M a b c (ds.take n)
  | _, _, 0, _ => by rw [List.take_zero]; exact .nil
  | _, _, n + 1, .nil => by rw [List.take_nil]; exact .nil
  | _, _, n + 1, .cons h t e => by rw [List.take_succ_cons]; exact .cons h (Tgs.take n t) e
theorem Tgs.drop {b c : Nat} : ∀ {a : Nat} {ds : List D} (n : Nat), Tgs N M a b c ds → Tgs N M a b c (ds.drop n)
  | _, _, 0, h => h
  | _, _, n + 1, .nil => by rw [List.drop_nil]; exact .nil
  | _, _, n + 1, .cons h t e => by rw [List.drop_succ_cons]; exact (Tgs.drop n t).le (by omega) (Nat.le_refl _) (Nat.le_refl _)
theorem Tgs.at {b c : Nat} : ∀ {a : Nat} {ds : List D} {d : D}, Tgs N M a b c ds → d ∈ ds → Tg N M a b c d
  | _, _, d, .cons h t e, m => by
    rcases List.mem_cons.mp m with rfl | m
    · exact h.le (by omega) (Nat.le_refl _) (Nat.le_refl _)
    · exact (Tgs.at t m).le (by omega) (Nat.le_refl _) (Nat.le_refl _)
theorem Tgs.cut {a b c : Nat} {ds : List D} (h : Tgs N M a b c ds) (lo hi : Option Int) : Tgs N M a b c (cutD ds lo hi) := by
  unfold cutD
  exact (h.drop _).take _
theorem Tgs.all {b c n : Nat} : ∀ {ds : List D}, (∀ d ∈ ds, Tg N M n b c d) → Tgs N M (ds.length * (n + 1)) b c ds
  | [], _ => .nil
  | d :: ds, h => .cons (h d List.mem_cons_self) (Tgs.all fun x hx => h x (List.mem_cons_of_mem _ hx)) (by rw [List.length_cons, Nat.succ_mul]; omega)
mutual
theorem Tg.sh (hN : N ≤ 10 ^ 12) : ∀ {a b c : Nat} {d : D}, Tg N M a b c d → ∃ p, Sh M d p ∧ p.showable = true ∧ p.leavesShort 13 = true ∧ p.weight ≤ a ∧ p.depth ≤ b
  | _, _, _, _, .non => ⟨_, .non, by simp [PyData.showable], by simp [PyData.leavesShort], by simp [PyData.weight], by simp [PyData.depth]⟩
  | _, _, _, _, .bl x => ⟨_, .bl x, by simp [PyData.showable], by simp [PyData.leavesShort], by simp [PyData.weight], by simp [PyData.depth]⟩
  | _, _, _, _, .int (i := i) h h2 => by
    have h := Nat.lt_of_lt_of_le h hN
    have lg := log_small h
    refine ⟨_, .int i, by unfold PyData.showable; exact decide_eq_true (by omega), by unfold PyData.leavesShort; exact decide_eq_true (PyData.shown_int_le h), ?_, by simp [PyData.depth]⟩
    unfold PyData.weight
    split <;> omega
  | _, _, _, _, .str (s := s) h h2 => by
    unfold plain at h
    refine ⟨_, .str s, by simp [PyData.showable], ?_, by unfold PyData.weight; exact h2, by simp [PyData.depth]⟩
    unfold PyData.leavesShort
    rw [List.all_eq_true] at h ⊢
    exact fun x hx => decide_eq_true (by have := of_decide_eq_true (h x hx); omega)
  | _, _, _, _, .tup h _ => by
    obtain ⟨ps, e, q1, q2, q3, q4⟩ := Tgs.sh hN h
    exact ⟨_, .tup e, by unfold PyData.showable; exact q1, by unfold PyData.leavesShort; exact q2, by unfold PyData.weight; exact q3, by unfold PyData.depth; omega⟩
  | _, _, _, _, .lst h => by
    obtain ⟨ps, e, q1, q2, q3, q4⟩ := Tgs.sh hN h
    exact ⟨_, .lst e, by unfold PyData.showable; exact q1, by unfold PyData.leavesShort; exact q2, by unfold PyData.weight; exact q3, by unfold PyData.depth; omega⟩
  | _, _, _, _, .bare e => ⟨_, .bare e, by simp [PyData.showable, PyData.showableKv], by simp [PyData.leavesShort, PyData.leavesShortKv], by simp [PyData.weight, PyData.weightKv], by simp [PyData.depth, PyData.depthKv]⟩
  | _, _, _, _, .one e h1 h2 h3 => by
    obtain ⟨p, s, q1, q2, q3, q4⟩ := Tg.sh hN h2
    unfold plain at h1
    refine ⟨_, .one e s, by simp [PyData.showable, PyData.showableKv, q1], ?_, ?_, ?_⟩
    · simp only [PyData.leavesShort, PyData.leavesShortKv, q2, Bool.and_true]
      rw [List.all_eq_true] at h1 ⊢
      exact fun x hx => decide_eq_true (by have := of_decide_eq_true (h1 x hx); omega)
    · simp only [PyData.weight, PyData.weightKv]
      have : ∀ s : Str, s.cps.size = s.length := fun _ => rfl
      rw [this]; omega
    · simp only [PyData.depth, PyData.depthKv]; omega
theorem Tgs.sh (hN : N ≤ 10 ^ 12) : ∀ {a b c : Nat} {d : List D}, Tgs N M a b c d → ∃ p, Shs M d p ∧ PyData.showableAll p = true ∧ PyData.leavesShortAll 13 p = true ∧ PyData.weightAll p ≤ a ∧ PyData.depthAll p ≤ b
  | _, _, _, _, .nil => ⟨[], .nil, by simp [PyData.showableAll], by simp [PyData.leavesShortAll], by simp [PyData.weightAll], by simp [PyData.depthAll]⟩
  | _, _, _, _, .cons h t e => by
    obtain ⟨p, s, q1, q2, q3, q4⟩ := Tg.sh hN h
    obtain ⟨ps, s', r1, r2, r3, r4⟩ := Tgs.sh hN t
    refine ⟨p :: ps, .cons s s', by simp [PyData.showableAll, q1, r1], by simp [PyData.leavesShortAll, q2, r2], ?_, ?_⟩
    · simp only [PyData.weightAll]; omega
    · simp only [PyData.depthAll]; omega
end
/-- what such a thing is shown as, wherever it is asked -/
theorem Tg.shown (hN : N ≤ 10 ^ 12) {a b c : Nat} {d : D} (h : Tg N M a b c d) (ha : a ≤ 1000000) (hb : b ≤ 64) : ∃ s : Str, ∀ (M' : Mem) (k : KD), GrowD M M' → k (.str s) M' → rdReprS [d] M' k := by
  obtain ⟨p, s, q1, q2, q3, q4⟩ := h.sh hN
  exact ⟨p.shown, fun M' k g hk => ⟨d, p, rfl, s.mono g, q1, PyData.shown_fits (by decide) (by decide) q2 (by omega), by omega, hk⟩⟩
end
end DL

set_option autoImplicit false
set_option maxRecDepth 100000
set_option maxHeartbeats 4000000
/-! a number or a text held against a list, a tuple, a dict; a tuple of one against (None,) -/
namespace EQ
open PySem PySem.Spec PyProof.Rows L2
section
variable {A : Around} {s : Shared} {l : Addr} {o : Obj} {es : Array DictEntry} {n : Nat}
end
section
variable {X : Cx} {pins : List (Addr × Obj)} {σ : List (Option V)} {H : Hp} {s : Shared}
end
end EQ
namespace DL
open PySem PySem.Spec PyProof.Rows L2
section
variable {K : KZ} {X : CxZ}
end
end DL

set_option autoImplicit false
set_option maxRecDepth 100000
/-! the minus of a number or a truth -/
namespace DL
open PySem PySem.Spec PyProof.Rows L2
section
variable {X : CxZ}
end
end DL

set_option autoImplicit false
set_option maxRecDepth 100000
set_option maxHeartbeats 4000000
/-! a tuple times a whole number, 0 and 1 among them -/
namespace RPT
open PySem PySem.Spec PyProof.Rows L2
section
variable (l : Addr) (items : Array Value) (n : Nat) (dd : Option Addr) (sl : Array (Option Value)) (u : Tok)
open PySem.AutoSeq1 (wpAny_loadPart')
end
variable {X : Cx}
end RPT
namespace DL
open PySem L2
section
variable {X : CxZ} {K : KZ} {a b : Expr}
end
end DL

set_option autoImplicit false
set_option maxRecDepth 100000
/-! s.strip(signs) -/
namespace DL
open PySem L2
section
variable {X : CxZ} {o e : Expr} {wo we : WE} {apos pos : Pos}
end
end DL

set_option autoImplicit false
set_option maxRecDepth 100000
/-! d.get(k) -/
namespace DL
open PySem L2
section
variable {X : CxZ}
end
end DL

set_option autoImplicit false
set_option maxRecDepth 100000
set_option maxHeartbeats 4000000
/-! exceptions made as values -/
namespace DX
open PySem PySem.Spec PyProof.Rows PySem.Calls L2 DL
section
variable {X : Cx} {e : PySem.Expr} {t : L2.St → Hp → XK → Prop}
/-- C(), C an own class without __init__ -/
theorem pmk_own0 {C : Addr} {bmB : List Value} {B newId initId : String} {x : Str} {p pos : Pos} (F : ExcBaseFacts B newId initId bmB) (q : PySem.W.excIn X.K C bmB newId = true) (gC : X.mg x = some (.ref C)) (kC : PySem.W.keepIn X.K (.ref C) = true) (r : Raises X (.ref C)) (hg : Gl X x)
    (hdb : (x == ("__debug__" : Str)) = false := by decide) : PMk X (.Call (.Name x p) [] [] pos) (fun _ H Q => Q (.ref C) none H) := by
  intro pins s σ H Q I h
  refine wpAny_Call_Name_kw (ld_glob I hg gC ?_ hdb)
  refine PySem.W.callWith_K0 I.kIn kC ?_
  obtain ⟨bm, N, nm, qn, bs, hdct, sn, sub, ab, col, dd, k0, k1, k2, k3, k5, mN, hC, hN, hni, T⟩ := exc_obj I.kIn q
  refine wpAny_call_exc_subT F T hC hN hni (fun h' e hm => ?_) (by show 0 ≤ sizeLine; exact Nat.zero_le _)
  exact mk_of I hm r h (I.hok.gone hm.new)
end
section
variable {X : CxZ} {e : PySem.Expr} {we : WE} {x f : Str} {p pos : Pos}
/-- what is asked of such a class, looked up -/
def exN (K : PySem.W.Frag) (C : Addr) : Bool := PySem.W.excIn K C clsTail "ValueError.__new__" && [PySem.W.keepIn K (.ref C), decide (PySem.W.typeIn K (.ref C) = some (.type "type")),
  decide (PySem.W.findIn K (.ref C) "__getattribute__" = some (some (.builtin "BaseException.__getattribute__"))), decide (PySem.W.findIn K (.ref C) "__getattr__" = some none), decide (PySem.W.subIn K (.ref C) (.type "BaseException") = some true), PySem.W.hasDictIn K C,
  decide (PySem.W.findIn K (.ref C) "__class__" = some (some (.builtin "object.__class__"))), decide (PySem.W.specialIn K (.builtin "object.__class__") "__get__" = some (some (.builtin "getset_descriptor.__get__"))),
  decide (PySem.W.takesIn K (.builtin "object.__class__") = some true), decide (PySem.W.mroIn K C (.type "object") = some true)].all id
theorem exN_all {K : PySem.W.Frag} {C : Addr} (h : exN K C = true) : PySem.W.excIn K C clsTail "ValueError.__new__" = true ∧ (PySem.W.keepIn K (.ref C) = true ∧ PySem.W.typeIn K (.ref C) = some (.type "type")) ∧ ExcC K C := by
  unfold exN at h
  obtain ⟨q, h⟩ := Bool.and_eq_true_iff.mp h
  simp only [List.all_cons, List.all_nil, Bool.and_eq_true, decide_eq_true_eq, id, and_true] at h
  obtain ⟨h1, h2, h3, h4, h5, h6, h7, h8, h9, h10⟩ := h
  exact ⟨q, ⟨h1, h2⟩, h3, h4, h5, h6, h7, h8, h9, h10⟩
/-- an own exception class without __init__ -/
structure NDef (K : PySem.W.Frag) (mg : Str → Option Value) (x : Str) where
  C : Addr
  at_ : mg x = some (.ref C)
  q : exN K C = true
theorem NDef.ie {K : PySem.W.Frag} {mg : Str → Option Value} {x : Str} (D : NDef K mg x) : ExcC K D.C := (exN_all D.q).2.2
end
end DX

set_option autoImplicit false
set_option maxRecDepth 100000
set_option maxHeartbeats 4000000
/-! tuples known to be plain: what dict tells of them -/
namespace FT
open PySem PySem.Spec PyProof.Rows L2
section
variable {X : Cx}
end
end FT
namespace DL
open PySem PySem.Spec PyProof.Rows L2
mutual
/-- d may be read as e: tuples known to be plain as tuples -/
inductive Thaw : D → D → Prop
  | refl (d : D) : Thaw d d
  | ftp {ds es : List D} : Thaws ds es → Thaw (.ftp ds) (.tup es)
  | tup {ds es : List D} : Thaws ds es → Thaw (.tup ds) (.tup es)
  | lst {ds es : List D} : Thaws ds es → Thaw (.lst ds) (.lst es)
inductive Thaws : List D → List D → Prop
  | nil : Thaws [] []
  | cons {d e : D} {ds es : List D} : Thaw d e → Thaws ds es → Thaws (d :: ds) (e :: es)
end
section
variable {K : KZ} {H : Hp}
mutual
theorem Thaw.ok : ∀ {d e : D} {v : V}, Thaw d e → Dat K H v d → Dat K H v e
  | _, _, _, .refl _, r => r
  | _, _, _, .ftp h, r => by cases r with | ftp h1 _ hd => exact .tup (.inl (.inr ⟨_, h1⟩)) (Thaws.ok h hd)
  | _, _, _, .tup h, r => by cases r with | tup h1 hd => exact .tup h1 (Thaws.ok h hd)
  | _, _, _, .lst h, r => by cases r with | lst h1 hd => exact .lst h1 (Thaws.ok h hd)
theorem Thaws.ok : ∀ {ds es : List D} {vs : List V}, Thaws ds es → Dats K H vs ds → Dats K H vs es
  | _, _, _, .nil, r => by cases r; exact .nil
  | _, _, _, .cons h t, r => by cases r with | cons r1 r2 => exact .cons (Thaw.ok h r1) (Thaws.ok t r2)
end
theorem Thaws.refl : ∀ ds : List D, Thaws ds ds
  | [] => .nil
  | d :: ds => .cons (.refl d) (Thaws.refl ds)
theorem Thaw.top (ds : List D) : Thaw (.ftp ds) (.tup ds) := .ftp (Thaws.refl ds)
theorem Thaws.map {α : Type} {f g : α → D} : ∀ {l : List α}, (∀ x ∈ l, Thaw (f x) (g x)) → Thaws (l.map f) (l.map g)
  | [], _ => .nil
  | x :: l, h => .cons (h x List.mem_cons_self) (Thaws.map fun y hy => h y (List.mem_cons_of_mem _ hy))
end
section
variable {X : CxZ} {e : Expr} {we : WE} {p pos : Pos}
end
/-! rules -/
end DL

set_option autoImplicit false
set_option maxRecDepth 100000
set_option maxHeartbeats 4000000
/-! classes whose __init__ takes one more parameter, by keyword only -/
namespace DG
open PySem PySem.Spec PyProof.Rows L2
section
variable {X : Cx} {CX : CXT} {k n : Nat} {f C : Addr} {fd : FuncData} {ps ks : List Str} {sp : Sp} {E : XK} {x : Str} {g : List Value → List Value → List Value} {gV : List V → List V → List V}
variable {p pos : Pos} {e : Expr} {es : List Expr} {kws : List Keyword} {t tk : TA} {dvs : List V} {dus : List Value}
theorem made_by {pins : List (Addr × Obj)} {σ : L2.St} {H : Hp} {s : Shared} {Q : VK} {us us2 : List Value} {vs2 : List V} {kw : List (Str × Value)} (M : Mk X.K C f)
    (F : FnG X.prog X.w X.K X.mg X.base CX k f fd ps sp) (hr : RoomG (k + 1) X.A) (hx : Passes CX X E) (I : Inv X pins σ H s)
    (hb : ∀ s2, X.K.In s2.heap → BindsTo s2 fd ⟨.ref (s.heap.objs.size + 1) :: us, kw⟩ (ps.zip us2)) (r : Vals vs2 us2)
    (h : sp vs2 (upd (upd H s.heap.objs.size (.own (s.heap.objs.size + 1))) (s.heap.objs.size + 1) (.ins C s.heap.objs.size [])) (fun v H2 => v = .non ∧ Q (.ref (s.heap.objs.size + 1)) H2) E) :
    wpAny (model X.prog X.w) X.A (call (.ref C) us kw) (EP X pins σ Q) X.xe s := by
  have J := Inv.made (C := C) I
  refine wpAny_call (make_map (f := f) I.kIn M.makes M.init (beq_iff_eq.mp M.fn) (codeAny_mono (F.run _ X.stack _ _ ⟨_ :: us, kw⟩ us2 vs2 _ E (hr.make C us kw) (J.env0.make C us kw) (hb _ J.kIn) r h) fun rr s' z => ?_))
  match rr, z with
  | .error e, z => exact hx pins σ _ _ e s' J z
  | .ok (.ret u), z =>
    obtain ⟨v, H', J2, rv, ev, q3⟩ := J.after z
    subst ev
    exact ⟨rv, ⟨V.ref (s.heap.objs.size + 1), H', J2, rfl, q3⟩⟩
  | .ok .next, z => exact z.elim
  | .ok .brk, z => exact z.elim
  | .ok .cont, z => exact z.elim
def tMkD (C : Addr) (sp : Sp) (E : XK) (dvs : List V) (t : TA) : TE := fun σ H Q => t σ H fun vs H1 =>
  ∀ x dx, H1 x = none → H1 dx = none → dx ≠ x → sp (.ref x :: (vs ++ dvs)) (upd (upd H1 dx (.own x)) x (.ins C dx [])) (fun v H2 => v = .non ∧ Q (.ref x) H2) E
theorem run_mkD {pins : List (Addr × Obj)} {σ : L2.St} {H : Hp} {s : Shared} {Q : VK} {us : List Value} {vs : List V} (M : Mk X.K C f)
    (F : FnG X.prog X.w X.K X.mg X.base CX k f fd ps sp) (hr : RoomG (k + 1) X.A) (hb : Binds X.K fd ps dus) (rd : Vals dvs dus) (hx : Passes CX X E) (I : Inv X pins σ H s) (r : Vals vs us)
    (h : ∀ x dx, H x = none → H dx = none → dx ≠ x → sp (.ref x :: (vs ++ dvs)) (upd (upd H dx (.own x)) x (.ins C dx [])) (fun v H2 => v = .non ∧ Q (.ref x) H2) E) :
    wpAny (model X.prog X.w) X.A (call (.ref C) us) (EP X pins σ Q) X.xe s := by
  have q := h (s.heap.objs.size + 1) s.heap.objs.size (I.hok.fresh (Nat.le_succ _)) (I.hok.fresh (Nat.le_refl _)) (Nat.ne_of_lt (Nat.lt_succ_self _))
  have rv : Vals (V.ref (s.heap.objs.size + 1) :: (vs ++ dvs)) (Value.ref (s.heap.objs.size + 1) :: (us ++ dus)) := .cons rfl (r.append rd)
  have hl : ((Value.ref (s.heap.objs.size + 1) :: us) ++ dus).length = ps.length := by
    have := F.len _ _ _ _ q
    rw [← this, rv.length]; rfl
  exact made_by (us2 := (Value.ref (s.heap.objs.size + 1) :: us) ++ dus) M F hr hx I (fun s2 k2 => hb s2 _ k2 hl) rv q
theorem pe_mkD0 (M : Mk X.K C f) (F : FnG X.prog X.w X.K X.mg X.base CX k f fd ps sp) (hr : RoomG (k + 1) X.A) (hg : Gl X x) (hm : X.mg x = some (.ref C))
    (hb : Binds X.K fd ps dus) (rd : Vals dvs dus) (hx : Passes CX X E) (hdb : (x == ("__debug__" : Str)) = false := by decide) : PE X (.Call (.Name x p) [] [] pos) (tMkD C sp E dvs tNil) :=
  ⟨fun pins s σ H Q I h => wpAny_Call_Name_kw (ld_glob I hg hm (PySem.W.callWith_K0 I.kIn M.kp (run_mkD (us := []) M F hr hb rd hx I .nil h)) hdb)⟩
def tMkK (C : Addr) (n m : Nat) (sp : Sp) (E : XK) (t tk : TA) : TE := fun σ H Q => t σ H fun vs H1 => tk σ H1 fun zs H2 => vs.length = n ∧ zs.length = m ∧
  ∀ x dx, H2 x = none → H2 dx = none → dx ≠ x → sp (.ref x :: (vs ++ zs)) (upd (upd H2 dx (.own x)) x (.ins C dx [])) (fun v H3 => v = .non ∧ Q (.ref x) H3) E
theorem run_mkK {pins : List (Addr × Obj)} {σ : L2.St} {H : Hp} {s : Shared} {Q : VK} {us ws : List Value} {vs zs : List V} (M : Mk X.K C f) (F : FnG X.prog X.w X.K X.mg X.base CX k f fd ps sp) (hr : RoomG (k + 1) X.A)
    (hb : KBn X.K fd ps (n + 1) ks (fun us ws => us ++ ws) (fun vs zs => vs ++ zs)) (hx : Passes CX X E) (I : Inv X pins σ H s) (r : Vals vs us) (rz : Vals zs ws) (l1 : vs.length = n) (l2 : zs.length = ks.length)
    (h : ∀ x dx, H x = none → H dx = none → dx ≠ x → sp (.ref x :: (vs ++ zs)) (upd (upd H dx (.own x)) x (.ins C dx [])) (fun v H2 => v = .non ∧ Q (.ref x) H2) E) :
    wpAny (model X.prog X.w) X.A (call (.ref C) us (ks.zip ws)) (EP X pins σ Q) X.xe s := by
  have q := h (s.heap.objs.size + 1) s.heap.objs.size (I.hok.fresh (Nat.le_succ _)) (I.hok.fresh (Nat.le_refl _)) (Nat.ne_of_lt (Nat.lt_succ_self _))
  have rv : Vals (V.ref (s.heap.objs.size + 1) :: (vs ++ zs)) (Value.ref (s.heap.objs.size + 1) :: (us ++ ws)) := .cons rfl (r.append rz)
  exact made_by (us2 := (Value.ref (s.heap.objs.size + 1) :: us) ++ ws) M F hr hx I (fun s2 k2 => hb.to s2 _ ws k2 (by rw [List.length_cons, ← r.length, l1]) (rz.length.symm.trans l2)) rv q
theorem pe_mkK0 (M : Mk X.K C f) (F : FnG X.prog X.w X.K X.mg X.base CX k f fd ps sp) (hr : RoomG (k + 1) X.A) (hg : Gl X x) (hm : X.mg x = some (.ref C)) (hb : KBn X.K fd ps 1 ks (fun us ws => us ++ ws) (fun vs zs => vs ++ zs)) (hx : Passes CX X E) (hkw : PK X kws tk)
    (hall : (backToKw pos (keywordEach kws X.env)).all (·.1.isSome) = true := by rfl) (hks : (backToKw pos (keywordEach kws X.env)).filterMap (·.1) = ks := by rfl) (hdb : (x == ("__debug__" : Str)) = false := by decide)
    (hpl : ((backTo pos (starEach [] X.env)).any (·.1) || (backToKw pos (keywordEach kws X.env)).any (·.1.isNone)) = false := by rfl) :
    PE X (.Call (.Name x p) [] kws pos) (tMkK C 0 ks.length sp E tNil tk) := by
  refine ⟨fun pins s σ H Q I h => wpAny_Call_Name_kw (ld_glob I hg hm ?_ hdb)⟩
  refine PySem.W.callWith_KW0 (h₀ := X.base) I.ok.mod.kin M.kp hall ?_ hpl
  refine thn (hkw.run pos pins s σ H _ I h) fun ws s2 ⟨zs, H2, I2, rz, l1, l2, q2⟩ => ⟨I2.kIn, ?_⟩
  rw [hks]
  exact run_mkK (us := []) (vs := []) M F hr hb hx I2 .nil rz rfl l2 q2
end
end DG
namespace DL
open PySem PySem.Spec PyProof.Rows L2
/-- an __init__ of n parameters and one more by keyword, kn, a whole number that is i where it lacks -/
structure MDefK (K : PySem.W.Frag) (C : Addr) (qual : Str) (st : Stmt) (ps : List Str) (f : Addr) (fd : FuncData) (n : Nat) (kn : Str) (i : Int) : Prop where
  F : Fun K "__init__" qual st f fd
  at_ : Meth K C "__init__" f
  bd : ∃ u : Value, RelV (.int i) u ∧ Binds K fd ps [u]
  bk : KBn K fd ps n [kn] (fun us ws => us ++ ws) (fun vs zs => vs ++ zs)
/-- the keyword's default, looked up -/
def kwdI (K : PySem.W.Frag) (kV : Value) (kn : Str) (i : Int) : Bool := match kV with
  | .ref Dk => (match PySem.W.nsIn K Dk kn with | some (some (.int j _)) => decide (j = i) | _ => false)
  | _ => false
theorem MDefK.of {K : PySem.W.Frag} {C : Addr} {qual : Str} {st : Stmt} {ps : List Str} {f : Addr} {n : Nat} {kn : Str} {i : Int} {oc : Value} {od : Option Addr} {kV dc pm cv ct : Value} {an : Option Addr} {sl : Array (Option Value)}
    (l : K.lookup f = some ⟨oc, od, .func (PySem.W.fnOf "__init__" qual (defArgs st) (defBody st) (defScope st) .none kV dc pm an cv ct), sl⟩) (c : PySem.W.codeIn K cv qual = true) (k : PySem.W.keepIn K (.ref f) = true) (m : Meth K C "__init__" f)
    (kw : kwdI K kV kn i = true) (hn : n + 1 = ps.length)
    (h1 : ∀ (Dk : Addr) (dc pm : Value) (an : Option Addr) (cv ct : Value) (us ks : List Value), us.length = n → ks.length = 1 → KwChain Dk ([kn].zip ks) (bindArgs (PySem.W.fnOf "__init__" qual (defArgs st) (defBody st) (defScope st) .none (.ref Dk) dc pm an cv ct) ⟨us, []⟩) (ps.zip (us ++ ks)))
    (h2 : ∀ (Dk : Addr) (dc pm : Value) (an : Option Addr) (cv ct : Value) (us ws : List Value), us.length = n → ws.length = 1 → bindArgs (PySem.W.fnOf "__init__" qual (defArgs st) (defBody st) (defScope st) .none (.ref Dk) dc pm an cv ct) ⟨us, [kn].zip ws⟩ = pure (ps.zip (us ++ ws))) :
    MDefK K C qual st ps f (PySem.W.fnOf "__init__" qual (defArgs st) (defBody st) (defScope st) .none kV dc pm an cv ct) n kn i := by
  unfold kwdI at kw
  split at kw
  · rename_i Dk
    split at kw
    · rename_i j t e
      have ej : j = i := of_decide_eq_true kw
      subst ej
      have FD : FunD K "__init__" qual (defArgs st) (defBody st) (defScope st) [] [(kn, .int j)] f _ := ⟨⟨oc, od, .none, .ref Dk, dc, pm, an, cv, ct, sl, rfl, l, c, .inl ⟨rfl, rfl⟩, .inr ⟨Dk, rfl, fun q hq => by
        rw [List.mem_singleton] at hq; subst hq; exact ⟨_, e, ⟨t, rfl⟩⟩⟩⟩, k⟩
      obtain ⟨ds, rd, bd⟩ := FD.binds0 n (by simp) (by simpa using hn) fun Dk dc pm an cv ct us ks l1 l2 => h1 Dk dc pm an cv ct us ks l1 (by simpa using l2)
      obtain ⟨u, rfl, ru⟩ := vals1 rd
      obtain ⟨mv, bk⟩ := FD.kbinds0 (ps := ps) n [kn] [] (fun us mv ws => us ++ ws) (by simp) (fun q hq => by cases hq) (fun r1 _ r3 => r1.append r3) fun Dk dc pm an cv ct us mv ws l1 l2 l3 => by
        cases mv with
        | nil => exact h2 Dk dc pm an cv ct us ws l1 (by simpa using l3)
        | cons _ _ => cases l2
      exact ⟨⟨⟨oc, od, .ref Dk, dc, pm, an, cv, ct, sl, rfl, l, c⟩, k⟩, m, ⟨u, ru, bd⟩, bk⟩
    · cases kw
  · cases kw
section
variable {X : CxZ} {C : Addr} {e e2 : Expr} {es : List Expr} {x : Str} {pos p kpos : Pos} {we : WE} {wa : WA}
/-- C(..) with the one that lacks -/
def wDef (dd : List D) (wa : WA) : WA := fun Γ M k => wa Γ M fun ds M1 => k (ds ++ dd) M1
/-- C(.., kn = e) -/
def wKwd (n : Nat) (wa : WA) (we : WE) : WA := fun Γ M k => wa Γ M fun ds M1 => we Γ M1 fun d M2 => ds.length = n ∧ k (ds ++ [d]) M2
theorem de_mkD0 {F : FD} {g : Addr} {fd : FuncData} {ps : List Str} {qual : Str} {st : Stmt} {k j n : Nat} {kn : Str} {i : Int} (c : CDef X.K X.mg x C g) (d : MDefK X.K C qual st ps g fd n kn i)
    (G : DFn X.prog X.w X.K X.mg X.base k g fd ps F) (hr : DG.RoomG j X.X.A) (hk : k + 1 ≤ j) (hg : Gl X x := by rfl) (hdb : (x == ("__debug__" : Str)) = false := by decide) :
    DE X (.Call (.Name x p) [] [] pos) (wMk C F (wDef [.int i] wNil)) := by
  obtain ⟨u, ru, hb⟩ := d.bd
  exact de_of (DG.pe_mkD0 (dvs := [.int i]) c.made G (hr.mono hk) hg c.at_ hb (.cons ru .nil) pass0 hdb) fun σ H Q Γ Fr H0 M k h1 h2 h3 h4 =>
    fun y dx hy hd ne => mk_lift (K := topK X.K.fr) (ds := [.int i]) h2.top (.one (.int i)) hy hd ne (h3 y (h2.freshM hy)) (h4.top h2)
theorem de_mkK0 {F : FD} {g : Addr} {fd : FuncData} {ps : List Str} {qual : Str} {st : Stmt} {k j : Nat} {kn : Str} {i : Int} (c : CDef X.K X.mg x C g) (d : MDefK X.K C qual st ps g fd 1 kn i)
    (G : DFn X.prog X.w X.K X.mg X.base k g fd ps F) (hr : DG.RoomG j X.X.A) (hk : k + 1 ≤ j) (h2 : DE X e2 we) (hg : Gl X x := by rfl) (hdb : (x == ("__debug__" : Str)) = false := by decide)
    (hall : (backToKw pos (keywordEach [⟨some kn, e2, kpos⟩] X.env)).all (·.1.isSome) = true := by rfl) (hks : (backToKw pos (keywordEach [⟨some kn, e2, kpos⟩] X.env)).filterMap (·.1) = [kn] := by rfl)
    (hpl : ((backTo pos (starEach [] X.env)).any (·.1) || (backToKw pos (keywordEach [⟨some kn, e2, kpos⟩] X.env)).any (·.1.isNone)) = false := by rfl) :
    DE X (.Call (.Name x p) [] [⟨some kn, e2, kpos⟩] pos) (wMk C F (wKwd 0 wNil we)) :=
  de_of (DG.pe_mkK0 c.made G (hr.mono hk) hg c.at_ d.bk pass0 (pk_cons h2.run pk_nil) hall hks hdb hpl) fun σ H Q Γ Fr H0 M k h1 h2 h3 h4 => ⟨Γ, Fr, H0, M, _, h1, h2, h3, fun v H2 H'' d M2 e2 w2 r2 q2 => by
      obtain ⟨ln, q2⟩ := q2
      refine ⟨rfl, rfl, fun y dx hy hd ne => ?_⟩
      exact mk_lift (K := topK X.K.fr) (ds := [d]) w2.top (.one (Dat.chg (K := X.K) (K' := topK X.K.fr) rfl _ _ r2)) hy hd ne (q2 y (w2.freshM hy)) ((h4.mono e2).top w2)⟩
end
end DL

set_option autoImplicit false
set_option maxRecDepth 100000
set_option maxHeartbeats 4000000
/-! defs that may be called in an except suite, too; methods that may raise -/
namespace DG
open PySem PySem.Spec PyProof.Rows L2
structure RoomN (k : Nat) (A : Around) : Prop where
  r : L2H.RoomH k A
  g : A.guards = some []
theorem RoomN.mono {j k : Nat} {A : Around} (r : RoomN k A) (h : j ≤ k) : RoomN j A := ⟨r.r.mono h, r.g⟩
theorem RoomG.n {k : Nat} {A : Around} (r : RoomG k A) : RoomN k A := ⟨L2H.roomH_of r.r, r.g⟩
theorem RoomG.suite {k : Nat} {A : Around} (r : RoomG k A) (v : Option Value) : RoomN k (A.mark v) := ⟨⟨r.r.dp, r.r.un⟩, r.g⟩
/-- a def, whether or not an exception is being handled -/
structure FnN (P : Program) (w : World) (K : PySem.W.Frag) (mg : Str → Option Value) (base : Heap) (CX : CXT) (k : Nat) (f : Addr) (fd : FuncData) (ps : List Str) (sp : Sp) : Prop where
  len : ∀ vs H Q E, sp vs H Q E → vs.length = ps.length
  run : ∀ (A : Around) (outer : List Env) (s : Shared) (H : Hp) (args : Args) (us : List Value) (vs : List V) (Q : VK) (E : XK), RoomN k A → Env0 P w K mg base A outer s H → BindsTo s fd args (ps.zip us) →
    Vals vs us → sp vs H Q E → codeAny (model P w) A (.call (.ref f) args) (CR CX outer P w H s Q E) s
section
variable {P : Program} {w : World} {K : PySem.W.Frag} {mg : Str → Option Value} {base : Heap} {CX : CXT} {j k : Nat} {f : Addr} {fd : FuncData} {ps : List Str} {sp sp' : Sp}
theorem FnN.g (F : FnN P w K mg base CX k f fd ps sp) : FnG P w K mg base CX k f fd ps sp := ⟨F.len, fun A o s H a us vs Q E r => F.run A o s H a us vs Q E r.n⟩
theorem FnN.mono (F : FnN P w K mg base CX j f fd ps sp) (h : j ≤ k) : FnN P w K mg base CX k f fd ps sp := ⟨F.len, fun A o s H a us vs Q E r => F.run A o s H a us vs Q E (r.mono h)⟩
/-- the context of such a def's body -/
abbrev cxN (CX : CXT) (P : Program) (w : World) (K : PySem.W.Frag) (mg : Str → Option Value) (base : Heap) (N : List Str) (qual : Str) (scope : Scope) (f : Addr) (cd : Value) (A : Around) (outer : List Env) (s : Shared) (H : Hp) (E : XK) : Cx :=
  { cxOf CX P w K mg base N qual scope f cd A outer s H E with calm := false }
theorem startN {N : List Str} {qual : Str} {scope : Scope} {cd : Value} {A : Around} {outer : List Env} {s s1 : Shared} {H : Hp} {E : XK} {us : List Value} {vs : List V} (S : FnScope N ps scope) (e0 : Env0 P w K mg base A outer s H) (hl : vs.length = ps.length) (r : Vals vs us)
    (x : InCallC s s.heap.objs.size (bindL (envOfC qual scope s.heap.objs.size f cd).kindOf (ps.zip us) fun _ => none) (cellsFrom (s.heap.objs.size + 1) scope.names []) (bindC (envOfC qual scope s.heap.objs.size f cd).kindOf (ps.zip us) fun _ => none) s1) :
    Inv (cxN CX P w K mg base N qual scope f cd A outer s H E) [] (start N vs) H s1 := by
  have e1 : Env0 P w K mg base { A with handled := none } outer s H := ⟨e0.frames, e0.mod, e0.bs, e0.bsz, e0.funs, e0.frf, e0.hok, e0.bare⟩
  have I := inv_start (CX := CX) (E := E) (qual := qual) S (show ({ A with handled := none } : Around).handled = none from rfl) e1 hl r x
  exact ⟨⟨I.ok.mod, I.ok.kind, I.ok.glob, I.ok.blt, I.ok.above, I.ok.inj, I.ok.has, I.ok.cab, (fun z => nomatch z), Around.frames_deeper e0.frames, I.ok.stk, I.ok.exf, I.ok.bs, I.ok.bsz, I.ok.noex, I.ok.exfs, I.ok.funs, I.ok.frf⟩,
    I.os, I.bare, I.base, I.loc, I.cell, I.free, I.freeC, I.pin, I.hok, I.len⟩
theorem fnN {x qual : Str} {st : Stmt} {N : List Str} (D : Fun K x qual st f fd) (S : FnScope N ps (defScope st)) (len : ∀ vs H Q E, sp vs H Q E → vs.length = ps.length)
    (body : ∀ (cdv : Value) (A : Around) (outer : List Env) (s : Shared) (H : Hp) (vs : List V) (Q : VK) (E : XK), RoomN k (A.deeper (envOfC qual (defScope st) s.heap.objs.size f cdv)) → sp vs H Q E →
      ∃ t, PSs (cxN CX P w K mg base N qual (defScope st) f cdv A outer s H E) (defBody st) t ∧ t { nx := fun _ H' => Q .non H', rt := Q } (start N vs) H) : FnN P w K mg base CX (k + 1) f fd ps sp := by
  obtain ⟨oc, od, kV, dc, pm, an, cdv, ct, osl, rfl, lk, hcd⟩ := D.ex
  refine ⟨len, fun A outer s H args us vs Q E hr e0 hb r hsp => ?_⟩
  have hl := len vs H Q E hsp
  have KX : K.In s.heap := e0.mod.kin.keeps fun b o e => (e0.bs b o e).1
  have lim := e0.mod.nolimit.keeps fun b o e => (e0.bs b o e).1
  have kinds : ∀ y ∈ ps.zip us, (defScope st).names.lookup y.1 = some .local ∨ ((defScope st).names.lookup y.1 = some .cell ∧ ((cellsFrom (s.heap.objs.size + 1) (defScope st).names []).lookup y.1).isSome = true) := fun y hy => by
    have hm := (List.of_mem_zip (a := y.1) (b := y.2) hy).1
    exact (S.par y.1 hm).imp id fun q => ⟨q, PySem.W.cellsFrom_some _ _ _ (.inl q)⟩
  apply codeAny_call_function hr.r.depth (KX _ _ lk) rfl S.co S.gen rfl (PySem.W.codeRec_of KX hcd)
  refine hb _ _ _ _ (wpAny_newFunctionEnv_cells S.kind kinds fun env he s1 x => ?_)
  subst he
  refine ⟨lim.keeps x.toInCall.keep, ?_⟩
  apply codeAny_func
  obtain ⟨t, ht, q⟩ := body cdv A outer s H vs Q E ⟨hr.r.deeper _, hr.g⟩ hsp
  have I := startN (CX := CX) (E := E) (qual := qual) (cd := cdv) S e0 hl r x
  refine wpAny_mono (ht.run [] s1 (start N vs) H _ I q) (fun fl s' z => ?_) fun e s' z => z
  match fl, z with
  | .ret u, ⟨v, σ', H', J, rv, q⟩ => exact ⟨v, H', J.os, J.bare, J.base, J.hok, rv, q⟩
  | .next, ⟨σ', H', J, q⟩ => exact ⟨V.non, H', J.os, J.bare, J.base, J.hok, rfl, q⟩
  | .brk, ⟨_, _, _, q⟩ => exact q.elim
  | .cont, ⟨_, _, _, q⟩ => exact q.elim
end
section
variable {X : Cx} {CX : CXT} {k : Nat} {f C : Addr} {fd : FuncData} {ps : List Str} {sp : Sp} {x m : Str} {p pos apos : Pos} {e o : Expr} {es : List Expr} {ta : TE} {t : TA}
/-- a call of one, anywhere -/
theorem pe_callN {E : XK} (F : FnN X.prog X.w X.K X.mg X.base CX k f fd ps sp) (hr : RoomN k X.A) (hg : Gl X x) (hm : X.mg x = some (.ref f))
    (hk : PySem.W.keepIn X.K (.ref f) = true) (hb : Binds X.K fd ps []) (hx : Passes CX X E) (ha : PA X (e :: es) t) (hdb : (x == ("__debug__" : Str)) = false := by decide)
    (he : starEach (e :: es) X.env = (false, eval e X.env) :: starEach es X.env := by rfl) (hpl : (backTo pos (starEach es X.env)).any (·.1) = false := by rfl) : PE X (.Call (.Name x p) (e :: es) [] pos) (tCall sp [] E t) :=
  ⟨fun pins s σ H Q I h => wpAny_Call_Name_kw (ld_glob I hg hm (PySem.W.callWith_K (h₀ := X.base) I.ok.mod.kin hk (thn (ha.run pos pins s σ H _ I h) fun us s1 ⟨vs, H1, I1, r, q⟩ => ⟨I1.kIn, wpAny_call (by
    have q : sp (vs ++ []) H1 Q E := q
    rw [List.append_nil] at q
    have hl : (us ++ []).length = ps.length := by rw [List.append_nil, ← r.length]; exact F.len _ _ _ _ q
    have b := hb s1 us I1.kIn hl
    rw [List.append_nil] at b
    refine codeAny_mono (F.run X.A X.stack s1 H1 ⟨us, []⟩ us vs Q E hr I1.env0 b r q) fun rr s' z => ?_
    match rr, z with
    | .error er, z => exact hx pins σ H1 s1 er s' I1 z
    | .ok (.ret u), z => exact I1.after z
    | .ok .next, z => exact z.elim
    | .ok .brk, z => exact z.elim
    | .ok .cont, z => exact z.elim)⟩) he hpl) hdb)⟩
/-- o.m(..) that may raise -/
def tMtGX (C : Addr) (m : Str) (sp : Sp) (E : L2.St → XK) (ta : TE) (t : TA) : TE := fun σ H Q => ta σ H fun x H1 =>
  ∃ a dx fs, x = .ref a ∧ H1 a = some (.ins C dx fs) ∧ fs.lookup m = none ∧ t σ H1 fun vs H2 => sp (x :: vs) H2 Q (E σ)
theorem run_GX {E : XK} {pins : List (Addr × Obj)} {σ : L2.St} {H : Hp} {s : Shared} {Q : VK} {us : List Value} {vs : List V} (F : FnG X.prog X.w X.K X.mg X.base CX k f fd ps sp) (hr : RoomG k X.A) (hb : Binds X.K fd ps []) (hx : PassesAt CX X σ E)
    (I : Inv X pins σ H s) (r : Vals vs us) (h : sp vs H Q E) : wpAny (model X.prog X.w) X.A (call (.ref f) us) (EP X pins σ Q) X.xe s := by
  have hl : (us ++ []).length = ps.length := by rw [List.append_nil, ← r.length]; exact F.len _ _ _ _ h
  have b := hb s us I.kIn hl
  rw [List.append_nil] at b
  refine wpAny_call (codeAny_mono (F.run X.A X.stack s H ⟨us, []⟩ us vs Q E hr I.env0 b r h) fun rr s' z => ?_)
  match rr, z with
  | .error e, z => exact hx pins H s e s' I z
  | .ok (.ret u), z => exact I.after z
  | .ok .next, z => exact z.elim
  | .ok .brk, z => exact z.elim
  | .ok .cont, z => exact z.elim
theorem pe_mtGX {E : L2.St → XK} {pl : Sem Bool} (he : PE X o ta) (c : Cls X.K C) (hm : Meth X.K C m f) (F : FnG X.prog X.w X.K X.mg X.base CX k f fd ps sp)
    (hr : RoomG k X.A) (hb : Binds X.K fd ps []) (hx : ∀ σ, PassesAt CX X σ (E σ)) (ha : PA X (e :: es) t) (hst : starEach (e :: es) X.env = (false, eval e X.env) :: starEach es X.env := by rfl) (hpl : (backTo pos (starEach es X.env)).any (·.1) = false := by rfl)
    (ht : eval (.Call (.Attribute o m apos) (e :: es) [] pos) X.env = (do let ov ← eval o X.env; standAt apos.atName; let (mf, me) ← holding [ov] (getMethod ov m pl); callWith pos mf me (backTo pos (starEach (e :: es) X.env)) (backToKw pos (keywordEach [] X.env))) := by rfl) :
    PE X (.Call (.Attribute o m apos) (e :: es) [] pos) (tMtGX C m sp E ta t) := by
  refine ⟨fun pins s σ H Q I h => PySem.W.methodCall_KW (pl := pl) (thn (he.run pins s σ H _ I h) fun u s1 ⟨x, H1, I1, rx, q⟩ => ?_) ht⟩
  obtain ⟨a, dx, fs, rfl, ea, l, q⟩ := q
  cases rx
  refine getmeth_ok I1 ea c hm l (PySem.W.callWith_K (first := [.ref a]) (h₀ := X.base) I.ok.mod.kin hm.kp ?_ hst hpl)
  exact thn (ha.run pos pins s1 σ H1 _ I1 q) fun us s2 ⟨vs, H2, I2, r, q2⟩ => ⟨I2.kIn, run_GX (us := .ref a :: us) (vs := .ref a :: vs) F hr hb (hx σ) I2 (.cons rfl r) q2⟩
end
end DG
namespace DL
open PySem PySem.Spec PyProof.Rows L2 DX
/-- a def that may be called anywhere -/
abbrev DFnN (P : Program) (w : World) (K : PySem.W.Frag) (mg : Str → Option Value) (base : Heap) (k : Nat) (f : Addr) (fd : FuncData) (ps : List Str) (F : FD) : Prop := DG.FnN P w K mg base CX0 k f fd ps (liftF (topK K) F)
section
variable {P : Program} {w : World} {mg : Str → Option Value} {base : Heap}
theorem Fun.okDN {K : PySem.W.Frag} {x qual : Str} {st : Stmt} {f : Addr} {fd : FuncData} {N ps : List Str} {k : Nat} {F : FD} {ws : WS} (Fu : Fun K x qual st f fd) (S : FnScope N ps (defScope st))
    (hbody : ∀ (cdv : Value) (A : Around) (outer : List PySem.Env) (s : Shared) (H : Hp) (E : XK), DG.RoomN k (A.deeper (PyProof.Rows.envOfC qual (defScope st) s.heap.objs.size f cdv)) → DSs (topX (DG.cxN CX0 P w K mg base N qual (defScope st) f cdv A outer s H E).nox) (defBody st) ws)
    (hw : ∀ ds M kd, F ds M kd → ds.length = ps.length ∧ ws (fin kd) (startD N ds) M) : DFnN P w K mg base (k + 1) f fd ps F := by
  refine DG.fnN Fu S (fun vs H Q E h => ?_) (fun cdv A outer s H vs Q E hr h => ?_)
  · obtain ⟨Fr, H0, M, ds, kd, w, r, q, c⟩ := h
    rw [r.length]; exact (hw ds M kd q).1
  · obtain ⟨Fr, H0, M, ds, kd, w, r, q, c⟩ := h
    refine ⟨_, (hbody cdv A outer s H E hr).run.nox, startD N ds, Fr, H0, M, fin kd, slots_start r, w, (hw ds M kd q).2, ?_⟩
    exact ⟨fun σ' H0' H' Γ' M' e s w q => c .non H0' H' .non M' e w .non q, c, fun _ _ _ _ _ _ _ _ q => q.elim, fun _ _ _ _ _ _ _ _ q => q.elim⟩
end
section
variable {X : CxZ} {C : Addr} {kx : KXE} {e o : PySem.Expr} {es : List PySem.Expr} {x m : Str} {pos apos p : Pos} {we wo : WE} {wa : WA} {j : Nat}
theorem de_ownN {F : FD} {f : Addr} {fd : FuncData} {ps : List Str} {st : Stmt} {k : Nat} (d : Def X.K X.mg x st ps f fd) (G : DFnN X.prog X.w X.K X.mg X.base k f fd ps F) (hr : DG.RoomN j X.X.A) (hk : k ≤ j)
    (ha : DA X (e :: es) wa) (hg : Gl X x := by rfl) (hdb : (x == ("__debug__" : Str)) = false := by decide) (he : starEach (e :: es) X.env = (false, eval e X.env) :: starEach es X.env := by rfl) (hpl : (backTo pos (starEach es X.env)).any (·.1) = false := by rfl) : DE X (.Call (.Name x p) (e :: es) [] pos) (wCall F wa) :=
  de_of (DG.pe_callN G (hr.mono hk) hg d.at_ d.F.kp d.b pass0 ha.run hdb he hpl) fun σ H Q Γ Fr H0 M k h1 h2 h3 h4 => ⟨Γ, Fr, H0, M, _, h1, h2, h3, fun vs H1 H' ds M' e1 w1 r1 q1 =>
    ⟨Fr, H1, M', ds, k, w1.top, by rw [List.append_nil]; exact Dats.chg (K := X.K) (K' := topK X.K.fr) rfl _ _ r1, q1, (h4.mono e1).top w1⟩⟩
theorem de_reprSN {k : Nat} (hr : DG.RoomN k X.X.A) (hm : X.mg "repr" = none) (he : DE X e we) (hs : starEach [e] X.env = (false, eval e X.env) :: starEach [] X.env := by rfl) (hg : Gl X "repr" := by rfl)
    (hpl : (backTo pos (starEach [] X.env)).any (·.1) = false := by rfl) : DE X (.Call (.Name "repr" p) [e] [] pos) (wCall rdReprS (wCons we wNil)) :=
  de_callB (RP.call_reprN hr.r.un hr.g) calld_reprS hm boot_repr (da_cons he da_nil hs) hg (by decide) (by decide) hs hpl
/-- o.m(..) that may raise -/
def wMthX (C : Addr) (m : Str) (F : FX) (kx : KXE) (wo : WE) (wa : WA) : WE := fun Γ M k => wo Γ M fun d M1 =>
  ∃ a fs, d = .cel a ∧ M1 a = some (.ins C fs) ∧ fs.lookup m = none ∧ wa Γ M1 fun ds M2 => F (d :: ds) M2 k fun C' fds M3 => kx C' fds Γ M3
theorem de_mthX {F : FX} {g : Addr} {fd : FuncData} {ps : List Str} {qual : Str} {st : Stmt} {k : Nat} {pl : Sem Bool} (c : Cls X.K C) (d : MDef X.K C m qual st ps g fd)
    (G : DFnX X.prog X.w X.K X.mg X.base k g fd ps F) (ho : Out X kx) (hr : DG.RoomG j X.X.A) (hk : k ≤ j) (hob : DE X o wo) (ha : DA X (e :: es) wa) (hst : starEach (e :: es) X.env = (false, eval e X.env) :: starEach es X.env := by rfl) (hpl : (backTo pos (starEach es X.env)).any (·.1) = false := by rfl)
    (ht : eval (.Call (.Attribute o m apos) (e :: es) [] pos) X.env = (do let ov ← eval o X.env; standAt apos.atName; let (mf, me) ← holding [ov] (getMethod ov m pl); callWith pos mf me (backTo pos (starEach (e :: es) X.env)) (backToKw pos (keywordEach [] X.env))) := by rfl) :
    DE X (.Call (.Attribute o m apos) (e :: es) [] pos) (wMthX C m F kx wo wa) := by
  obtain ⟨W, tk, link⟩ := ho.ex
  exact de_of (DG.pe_mtGX (E := L2.WE W) hob.run c d.at_ G (hr.mono hk) d.b (passAt tk) ha.run hst hpl ht) fun σ H Q Γ Fr H0 M k h1 h2 h3 h4 => ⟨Γ, Fr, H0, M, _, h1, h2, h3, fun u H1 H' d M' e1 w1 r1 q1 => by
    obtain ⟨a, fs, rfl, em, lz, q⟩ := q1
    cases r1
    obtain ⟨dx, vfs, ho, hd⟩ := w1.insAt em
    refine ⟨a, dx, vfs, rfl, ho, (fds_get hd).2 lz, Γ, Fr, H1, M', _, h1.mono e1, w1, q, fun vs H2 H'' ds M2 e2 w2 r2 q2 => ?_⟩
    exact callX_lift (vs := .ref a :: vs) (ds := .cel a :: ds) link h1 h4 (e1.trans e2) w2 (.cons (.cel a) r2) q2⟩
/-- raise C(), C without __init__ -/
def wRaise0 (kx : KXE) (C : Addr) : WS := fun _ Γ M => kx C [] Γ M
theorem ds_raise0 {pos' : Pos} (C : Addr) (D : NDef X.K.fr X.mg x) (ho : Out X kx) (hC : D.C = C := by rfl) (hc : X.calm = true := by rfl) (hg : Gl X x := by rfl) (hdb : (x == ("__debug__" : Str)) = false := by decide) : DS X (.Raise (some (.Call (.Name x p) [] [] pos)) none pos') (wRaise0 kx C) := by
  subst hC
  obtain ⟨q, ⟨kC, ty⟩, ie⟩ := exN_all D.q
  obtain ⟨W, tk, link⟩ := ho.ex
  exact ds_of (ps_raise hc tk (pmk_own0 (X := X.X) PySem.F.excBase_ValueError q D.at_ kC (raises_own ie.hs ty) hg hdb)) fun Dn σ H Γ Fr H0 M k h1 h2 h3 h4 => link _ _ σ Γ Fr _ M H _ h1 h2 (.inl ⟨rfl, rfl⟩) h3
/-- del xs[i] -/
def wDelL (wo wi : WE) : WS := fun k Γ M => wo Γ M fun x M1 => wi Γ M1 fun y M2 => ∃ a ds i q, x = .cel a ∧ y = .int i ∧ M2 a = some (.lst ds) ∧ -(2 ^ 63) ≤ i ∧ i < 2 ^ 63 ∧ seqIndex? i ds.length = some q ∧ k.nx Γ (setM M2 a (.lst (ds.eraseIdx q)))
theorem dats_erase {K : KZ} {H : Hp} : ∀ {vs : List V} {ds : List D} (q : Nat), Dats K H vs ds → Dats K H (vs.eraseIdx q) (ds.eraseIdx q)
  | _, _, _, .nil => .nil
  | _, _, 0, .cons _ t => t
  | _, _, q + 1, .cons h t => .cons h (dats_erase q t)
theorem ds_delL {tpos : Pos} {wi : WE} (ho : DE X o wo) (hi : DE X e wi) : DS X (.Delete [.Subscript o e tpos] pos) (wDelL wo wi) :=
  ds_of (ps_delL ho.run hi.run) fun Dn σ H Γ Fr H0 M k h1 h2 h3 h4 => ⟨Γ, Fr, H0, M, _, h1, h2, h3, fun u H1 H' d M' e1 w1 r1 q1 => ⟨Γ, Fr, H1, M', _, h1.mono e1, w1, q1, fun u2 H2 H'' d2 M2 e2 w2 r2 q2 => by
    obtain ⟨a, ds, i, q, rfl, rfl, em, b1, b2, hq, q3⟩ := q2
    cases r2
    cases r1
    obtain ⟨h0, o, ho, ck⟩ := w2.mem a _ em
    cases ck with
    | lst hd =>
      refine ⟨a, _, i, q, rfl, rfl, ho, b1, b2, by rw [hd.length]; exact hq, ?_⟩
      exact h4.nx σ H2 _ Γ _ (e1.trans e2) (h1.mono (e1.trans e2)) (w2.set em (.lst (dats_erase q hd))) q3⟩⟩
end
end DL

set_option autoImplicit false
set_option maxRecDepth 100000
set_option maxHeartbeats 4000000
namespace K04
open PySem L2 DL
def topS (i : Nat) : Stmt := PySem.Challenge.pw_standviews_k35_roads_with_room.main.body.getD i (.Pass ⟨0, 0, 0, 0⟩)
abbrev s_is_whole : Stmt := topS 18
abbrev N_is_whole : List Str := ["thing"]
abbrev p_is_whole : List Str := ["thing"]
theorem sc_is_whole : FnScope N_is_whole p_is_whole (defScope s_is_whole) := ⟨rfl, rfl, rfl, by decide +kernel, rfl, by decide +kernel, by decide +kernel⟩
abbrev s_law_begin : Stmt := topS 23
abbrev N_law_begin : List Str := ["script", "seed", "great", "k", "cell"]
abbrev p_law_begin : List Str := ["script"]
theorem sc_law_begin : FnScope N_law_begin p_law_begin (defScope s_law_begin) := ⟨rfl, rfl, rfl, by decide +kernel, rfl, by decide +kernel, by decide +kernel⟩
abbrev s_law_pick : Stmt := topS 24
abbrev N_law_pick : List Str := ["pot", "many", "digit", "turn", "once"]
abbrev p_law_pick : List Str := ["pot", "many"]
theorem sc_law_pick : FnScope N_law_pick p_law_pick (defScope s_law_pick) := ⟨rfl, rfl, rfl, by decide +kernel, rfl, by decide +kernel, by decide +kernel⟩
abbrev s_law_of : Stmt := topS 25
abbrev N_law_of : List Str := ["pot", "some"]
abbrev p_law_of : List Str := ["pot", "some"]
theorem sc_law_of : FnScope N_law_of p_law_of (defScope s_law_of) := ⟨rfl, rfl, rfl, by decide +kernel, rfl, by decide +kernel, by decide +kernel⟩
abbrev s_law_letter : Stmt := topS 26
abbrev N_law_letter : List Str := ["pot", "some"]
abbrev p_law_letter : List Str := ["pot"]
theorem sc_law_letter : FnScope N_law_letter p_law_letter (defScope s_law_letter) := ⟨rfl, rfl, rfl, by decide +kernel, rfl, by decide +kernel, by decide +kernel⟩
abbrev s_law_thing : Stmt := topS 27
abbrev N_law_thing : List Str := ["pot", "many", "way", "thing", "turn"]
abbrev p_law_thing : List Str := ["pot", "many"]
theorem sc_law_thing : FnScope N_law_thing p_law_thing (defScope s_law_thing) := ⟨rfl, rfl, rfl, by decide +kernel, rfl, by decide +kernel, by decide +kernel⟩
abbrev s_law_refusal : Stmt := topS 28
abbrev N_law_refusal : List Str := ["e", "others"]
abbrev p_law_refusal : List Str := ["e"]
theorem sc_law_refusal : FnScope N_law_refusal p_law_refusal (defScope s_law_refusal) := ⟨rfl, rfl, rfl, by decide +kernel, rfl, by decide +kernel, by decide +kernel⟩
abbrev s_law_told : Stmt := topS 29
abbrev N_law_told : List Str := ["road", "way", "thing", "found", "e"]
abbrev p_law_told : List Str := ["road", "way", "thing"]
theorem sc_law_told : FnScope N_law_told p_law_told (defScope s_law_told) := ⟨rfl, rfl, rfl, by decide +kernel, rfl, by decide +kernel, by decide +kernel⟩
abbrev s_law_due : Stmt := topS 30
abbrev N_law_due : List Str := ["own", "space", "way", "thing", "letter"]
abbrev p_law_due : List Str := ["own", "space", "way", "thing"]
theorem sc_law_due : FnScope N_law_due p_law_due (defScope s_law_due) := ⟨rfl, rfl, rfl, by decide +kernel, rfl, by decide +kernel, by decide +kernel⟩
abbrev s_law_right : Stmt := topS 31
abbrev N_law_right : List Str := ["pot", "rooms", "roads", "space", "limits", "owns", "turn", "at", "way", "road", "own", "limit", "letter", "there", "thing", "one"]
abbrev p_law_right : List Str := ["pot"]
theorem sc_law_right : FnScope N_law_right p_law_right (defScope s_law_right) := ⟨rfl, rfl, rfl, by decide +kernel, rfl, by decide +kernel, by decide +kernel⟩
abbrev s_law : Stmt := topS 32
abbrev N_law : List Str := ["script", "pot", "turn"]
abbrev p_law : List Str := ["script"]
theorem sc_law : FnScope N_law p_law (defScope s_law) := ⟨rfl, rfl, rfl, by decide +kernel, rfl, by decide +kernel, by decide +kernel⟩
abbrev s_Road___init__ : Stmt := inClass (topS 21) 0
abbrev N_Road___init__ : List Str := ["self", "room"]
abbrev p_Road___init__ : List Str := ["self", "room"]
theorem sc_Road___init__ : FnScope N_Road___init__ p_Road___init__ (defScope s_Road___init__) := ⟨rfl, rfl, rfl, by decide +kernel, rfl, by decide +kernel, by decide +kernel⟩
abbrev s_Road_put : Stmt := inClass (topS 21) 1
abbrev N_Road_put : List Str := ["self", "letter"]
abbrev p_Road_put : List Str := ["self", "letter"]
theorem sc_Road_put : FnScope N_Road_put p_Road_put (defScope s_Road_put) := ⟨rfl, rfl, rfl, by decide +kernel, rfl, by decide +kernel, by decide +kernel⟩
abbrev s_Road_letters : Stmt := inClass (topS 21) 2
abbrev N_Road_letters : List Str := ["self"]
abbrev p_Road_letters : List Str := ["self"]
theorem sc_Road_letters : FnScope N_Road_letters p_Road_letters (defScope s_Road_letters) := ⟨rfl, rfl, rfl, by decide +kernel, rfl, by decide +kernel, by decide +kernel⟩
abbrev s_Road_bring : Stmt := inClass (topS 21) 3
abbrev N_Road_bring : List Str := ["self", "i"]
abbrev p_Road_bring : List Str := ["self", "i"]
theorem sc_Road_bring : FnScope N_Road_bring p_Road_bring (defScope s_Road_bring) := ⟨rfl, rfl, rfl, by decide +kernel, rfl, by decide +kernel, by decide +kernel⟩
abbrev s_Road_lose : Stmt := inClass (topS 21) 4
abbrev N_Road_lose : List Str := ["self", "i"]
abbrev p_Road_lose : List Str := ["self", "i"]
theorem sc_Road_lose : FnScope N_Road_lose p_Road_lose (defScope s_Road_lose) := ⟨rfl, rfl, rfl, by decide +kernel, rfl, by decide +kernel, by decide +kernel⟩
abbrev s_Road_double : Stmt := inClass (topS 21) 5
abbrev N_Road_double : List Str := ["self", "i"]
abbrev p_Road_double : List Str := ["self", "i"]
theorem sc_Road_double : FnScope N_Road_double p_Road_double (defScope s_Road_double) := ⟨rfl, rfl, rfl, by decide +kernel, rfl, by decide +kernel, by decide +kernel⟩
abbrev s_Road__check : Stmt := inClass (topS 21) 6
abbrev N_Road__check : List Str := ["self", "i"]
abbrev p_Road__check : List Str := ["self", "i"]
theorem sc_Road__check : FnScope N_Road__check p_Road__check (defScope s_Road__check) := ⟨rfl, rfl, rfl, by decide +kernel, rfl, by decide +kernel, by decide +kernel⟩
structure DD (K : PySem.W.Frag) (mg : Str → Option Value) where
  C_Road : Addr
  f_is_whole : Addr
  fd_is_whole : FuncData
  d_is_whole : Def K mg "is_whole" s_is_whole p_is_whole f_is_whole fd_is_whole
  f_law_begin : Addr
  fd_law_begin : FuncData
  d_law_begin : Def K mg "_law_begin" s_law_begin p_law_begin f_law_begin fd_law_begin
  f_law_pick : Addr
  fd_law_pick : FuncData
  d_law_pick : Def K mg "_law_pick" s_law_pick p_law_pick f_law_pick fd_law_pick
  f_law_of : Addr
  fd_law_of : FuncData
  d_law_of : Def K mg "_law_of" s_law_of p_law_of f_law_of fd_law_of
  f_law_letter : Addr
  fd_law_letter : FuncData
  d_law_letter : Def K mg "_law_letter" s_law_letter p_law_letter f_law_letter fd_law_letter
  f_law_thing : Addr
  fd_law_thing : FuncData
  d_law_thing : Def K mg "_law_thing" s_law_thing p_law_thing f_law_thing fd_law_thing
  f_law_refusal : Addr
  fd_law_refusal : FuncData
  d_law_refusal : Def K mg "_law_refusal" s_law_refusal p_law_refusal f_law_refusal fd_law_refusal
  f_law_told : Addr
  fd_law_told : FuncData
  d_law_told : Def K mg "_law_told" s_law_told p_law_told f_law_told fd_law_told
  f_law_due : Addr
  fd_law_due : FuncData
  d_law_due : Def K mg "_law_due" s_law_due p_law_due f_law_due fd_law_due
  f_law_right : Addr
  fd_law_right : FuncData
  d_law_right : Def K mg "_law_right" s_law_right p_law_right f_law_right fd_law_right
  f_law : Addr
  fd_law : FuncData
  d_law : Def K mg "law" s_law p_law f_law fd_law
  f_Road___init__ : Addr
  fd_Road___init__ : FuncData
  d_Road___init__ : MDefK K C_Road "Road.__init__" s_Road___init__ p_Road___init__ f_Road___init__ fd_Road___init__ 1 "room" 4
  f_Road_put : Addr
  fd_Road_put : FuncData
  d_Road_put : MDef K C_Road "put" "Road.put" s_Road_put p_Road_put f_Road_put fd_Road_put
  f_Road_letters : Addr
  fd_Road_letters : FuncData
  d_Road_letters : MDef K C_Road "letters" "Road.letters" s_Road_letters p_Road_letters f_Road_letters fd_Road_letters
  f_Road_bring : Addr
  fd_Road_bring : FuncData
  d_Road_bring : MDef K C_Road "bring" "Road.bring" s_Road_bring p_Road_bring f_Road_bring fd_Road_bring
  f_Road_lose : Addr
  fd_Road_lose : FuncData
  d_Road_lose : MDef K C_Road "lose" "Road.lose" s_Road_lose p_Road_lose f_Road_lose fd_Road_lose
  f_Road_double : Addr
  fd_Road_double : FuncData
  d_Road_double : MDef K C_Road "double" "Road.double" s_Road_double p_Road_double f_Road_double fd_Road_double
  f_Road__check : Addr
  fd_Road__check : FuncData
  d_Road__check : MDef K C_Road "_check" "Road._check" s_Road__check p_Road__check f_Road__check fd_Road__check
  c_Road : CDef K mg "Road" C_Road f_Road___init__
  n_Road__letters : NoAttr K C_Road "_letters"
  n_Road__room : NoAttr K C_Road "_room"
abbrev s_NoDeal___init__ : Stmt := inClass (topS 2) 0
abbrev ia_NoDeal (cc cda : Addr) (dV kV doc pm ct : Value) (an : Option Addr) : DX.IArgs := { p0 := ⟨7, 8, 7, 13⟩, p1 := ⟨7, 8, 7, 15⟩, p2 := ⟨7, 8, 7, 24⟩, p3 := ⟨7, 25, 7, 37⟩, p4 := ⟨7, 8, 7, 38⟩, p5 := ⟨7, 8, 7, 38⟩, p6 := ⟨8, 8, 8, 12⟩, p7 := ⟨8, 8, 8, 15⟩, p8 := ⟨8, 18, 8, 20⟩, p9 := ⟨8, 8, 8, 20⟩, m := "no dealing", f := "at", qual := "NoDeal.__init__", j := 0, ps := defArgs s_NoDeal___init__, ns := (defScope s_NoDeal___init__).names, more := (defScope s_NoDeal___init__).more, cc := cc, cda := cda, dV := dV, kV := kV, doc := doc, pm := pm, ct := ct, an := an }
abbrev s_NoPerson___init__ : Stmt := inClass (topS 3) 0
abbrev ia_NoPerson (cc cda : Addr) (dV kV doc pm ct : Value) (an : Option Addr) : DX.IArgs := { p0 := ⟨12, 8, 12, 13⟩, p1 := ⟨12, 8, 12, 15⟩, p2 := ⟨12, 8, 12, 24⟩, p3 := ⟨12, 25, 12, 36⟩, p4 := ⟨12, 8, 12, 37⟩, p5 := ⟨12, 8, 12, 37⟩, p6 := ⟨13, 8, 13, 12⟩, p7 := ⟨13, 8, 13, 19⟩, p8 := ⟨13, 22, 13, 28⟩, p9 := ⟨13, 8, 13, 28⟩, m := "no person", f := "person", qual := "NoPerson.__init__", j := 0, ps := defArgs s_NoPerson___init__, ns := (defScope s_NoPerson___init__).names, more := (defScope s_NoPerson___init__).more, cc := cc, cda := cda, dV := dV, kV := kV, doc := doc, pm := pm, ct := ct, an := an }
abbrev s_NoWatcher___init__ : Stmt := inClass (topS 4) 0
abbrev ia_NoWatcher (cc cda : Addr) (dV kV doc pm ct : Value) (an : Option Addr) : DX.IArgs := { p0 := ⟨17, 8, 17, 13⟩, p1 := ⟨17, 8, 17, 15⟩, p2 := ⟨17, 8, 17, 24⟩, p3 := ⟨17, 25, 17, 37⟩, p4 := ⟨17, 8, 17, 38⟩, p5 := ⟨17, 8, 17, 38⟩, p6 := ⟨18, 8, 18, 12⟩, p7 := ⟨18, 8, 18, 14⟩, p8 := ⟨18, 17, 18, 18⟩, p9 := ⟨18, 8, 18, 18⟩, m := "no watcher", f := "w", qual := "NoWatcher.__init__", j := 0, ps := defArgs s_NoWatcher___init__, ns := (defScope s_NoWatcher___init__).names, more := (defScope s_NoWatcher___init__).more, cc := cc, cda := cda, dV := dV, kV := kV, doc := doc, pm := pm, ct := ct, an := an }
abbrev s_NoText___init__ : Stmt := inClass (topS 5) 0
abbrev ia_NoText (cc cda : Addr) (dV kV doc pm ct : Value) (an : Option Addr) : DX.IArgs := { p0 := ⟨22, 8, 22, 13⟩, p1 := ⟨22, 8, 22, 15⟩, p2 := ⟨22, 8, 22, 24⟩, p3 := ⟨22, 25, 22, 34⟩, p4 := ⟨22, 8, 22, 35⟩, p5 := ⟨22, 8, 22, 35⟩, p6 := ⟨23, 8, 23, 12⟩, p7 := ⟨23, 8, 23, 16⟩, p8 := ⟨23, 19, 23, 22⟩, p9 := ⟨23, 8, 23, 22⟩, m := "no text", f := "row", qual := "NoText.__init__", j := 0, ps := defArgs s_NoText___init__, ns := (defScope s_NoText___init__).names, more := (defScope s_NoText___init__).more, cc := cc, cda := cda, dV := dV, kV := kV, doc := doc, pm := pm, ct := ct, an := an }
abbrev s_NoLetter___init__ : Stmt := inClass (topS 6) 0
abbrev ia_NoLetter (cc cda : Addr) (dV kV doc pm ct : Value) (an : Option Addr) : DX.IArgs := { p0 := ⟨27, 8, 27, 13⟩, p1 := ⟨27, 8, 27, 15⟩, p2 := ⟨27, 8, 27, 24⟩, p3 := ⟨27, 25, 27, 36⟩, p4 := ⟨27, 8, 27, 37⟩, p5 := ⟨27, 8, 27, 37⟩, p6 := ⟨28, 8, 28, 12⟩, p7 := ⟨28, 8, 28, 14⟩, p8 := ⟨28, 17, 28, 18⟩, p9 := ⟨28, 8, 28, 18⟩, m := "no letter", f := "i", qual := "NoLetter.__init__", j := 0, ps := defArgs s_NoLetter___init__, ns := (defScope s_NoLetter___init__).names, more := (defScope s_NoLetter___init__).more, cc := cc, cda := cda, dV := dV, kV := kV, doc := doc, pm := pm, ct := ct, an := an }
structure EE (P : Program) (K : PySem.W.Frag) (mg : Str → Option Value) where
  e_NoDeal : DX.EDef P K mg "NoDeal" "at"
  e_NoPerson : DX.EDef P K mg "NoPerson" "person"
  e_NoWatcher : DX.EDef P K mg "NoWatcher" "w"
  e_NoText : DX.EDef P K mg "NoText" "row"
  e_NoLetter : DX.EDef P K mg "NoLetter" "i"
  n_NoPlan : DX.NDef K mg "NoPlan"
  n_NoPiece : DX.NDef K mg "NoPiece"
  n_NoRight : DX.NDef K mg "NoRight"
  n_NoQuestion : DX.NDef K mg "NoQuestion"
  n_Full : DX.NDef K mg "Full"
  n_NoMoment : DX.NDef K mg "NoMoment"
  n_NoPaper : DX.NDef K mg "NoPaper"
  n_NoEntry : DX.NDef K mg "NoEntry"
  n_NoScript : DX.NDef K mg "NoScript"
  n_NoLine : DX.NDef K mg "NoLine"
  C_ViewError : Addr
  a_ViewError : mg "ViewError" = some (.ref C_ViewError)
  k_NoDeal : DX.kitL K e_NoDeal.C ([(.ref e_NoDeal.C, true), (.ref e_NoPerson.C, false), (.ref e_NoWatcher.C, false), (.ref e_NoText.C, false), (.ref e_NoLetter.C, false), (.ref n_NoPlan.C, false), (.ref n_NoPiece.C, false), (.ref n_NoRight.C, false), (.ref n_NoQuestion.C, false), (.ref n_Full.C, false), (.ref n_NoMoment.C, false), (.ref n_NoPaper.C, false), (.ref n_NoEntry.C, false), (.ref n_NoScript.C, false), (.ref n_NoLine.C, false), (.ref C_ViewError, true), (.type "ValueError", true)]) = true
  x_NoDeal_ViewError : PySem.W.exmOne K (.ref e_NoDeal.C) (.ref C_ViewError) = some true
  k_NoPerson : DX.kitL K e_NoPerson.C ([(.ref e_NoDeal.C, false), (.ref e_NoPerson.C, true), (.ref e_NoWatcher.C, false), (.ref e_NoText.C, false), (.ref e_NoLetter.C, false), (.ref n_NoPlan.C, false), (.ref n_NoPiece.C, false), (.ref n_NoRight.C, false), (.ref n_NoQuestion.C, false), (.ref n_Full.C, false), (.ref n_NoMoment.C, false), (.ref n_NoPaper.C, false), (.ref n_NoEntry.C, false), (.ref n_NoScript.C, false), (.ref n_NoLine.C, false), (.ref C_ViewError, true), (.type "ValueError", true)]) = true
  x_NoPerson_ViewError : PySem.W.exmOne K (.ref e_NoPerson.C) (.ref C_ViewError) = some true
  k_NoWatcher : DX.kitL K e_NoWatcher.C ([(.ref e_NoDeal.C, false), (.ref e_NoPerson.C, false), (.ref e_NoWatcher.C, true), (.ref e_NoText.C, false), (.ref e_NoLetter.C, false), (.ref n_NoPlan.C, false), (.ref n_NoPiece.C, false), (.ref n_NoRight.C, false), (.ref n_NoQuestion.C, false), (.ref n_Full.C, false), (.ref n_NoMoment.C, false), (.ref n_NoPaper.C, false), (.ref n_NoEntry.C, false), (.ref n_NoScript.C, false), (.ref n_NoLine.C, false), (.ref C_ViewError, true), (.type "ValueError", true)]) = true
  x_NoWatcher_ViewError : PySem.W.exmOne K (.ref e_NoWatcher.C) (.ref C_ViewError) = some true
  k_NoText : DX.kitL K e_NoText.C ([(.ref e_NoDeal.C, false), (.ref e_NoPerson.C, false), (.ref e_NoWatcher.C, false), (.ref e_NoText.C, true), (.ref e_NoLetter.C, false), (.ref n_NoPlan.C, false), (.ref n_NoPiece.C, false), (.ref n_NoRight.C, false), (.ref n_NoQuestion.C, false), (.ref n_Full.C, false), (.ref n_NoMoment.C, false), (.ref n_NoPaper.C, false), (.ref n_NoEntry.C, false), (.ref n_NoScript.C, false), (.ref n_NoLine.C, false), (.ref C_ViewError, true), (.type "ValueError", true)]) = true
  x_NoText_ViewError : PySem.W.exmOne K (.ref e_NoText.C) (.ref C_ViewError) = some true
  k_NoLetter : DX.kitL K e_NoLetter.C ([(.ref e_NoDeal.C, false), (.ref e_NoPerson.C, false), (.ref e_NoWatcher.C, false), (.ref e_NoText.C, false), (.ref e_NoLetter.C, true), (.ref n_NoPlan.C, false), (.ref n_NoPiece.C, false), (.ref n_NoRight.C, false), (.ref n_NoQuestion.C, false), (.ref n_Full.C, false), (.ref n_NoMoment.C, false), (.ref n_NoPaper.C, false), (.ref n_NoEntry.C, false), (.ref n_NoScript.C, false), (.ref n_NoLine.C, false), (.ref C_ViewError, true), (.type "ValueError", true)]) = true
  x_NoLetter_ViewError : PySem.W.exmOne K (.ref e_NoLetter.C) (.ref C_ViewError) = some true
  k_NoPlan : DX.kitL K n_NoPlan.C ([(.ref e_NoDeal.C, false), (.ref e_NoPerson.C, false), (.ref e_NoWatcher.C, false), (.ref e_NoText.C, false), (.ref e_NoLetter.C, false), (.ref n_NoPlan.C, true), (.ref n_NoPiece.C, false), (.ref n_NoRight.C, false), (.ref n_NoQuestion.C, false), (.ref n_Full.C, false), (.ref n_NoMoment.C, false), (.ref n_NoPaper.C, false), (.ref n_NoEntry.C, false), (.ref n_NoScript.C, false), (.ref n_NoLine.C, false), (.ref C_ViewError, true), (.type "ValueError", true)]) = true
  k_NoPiece : DX.kitL K n_NoPiece.C ([(.ref e_NoDeal.C, false), (.ref e_NoPerson.C, false), (.ref e_NoWatcher.C, false), (.ref e_NoText.C, false), (.ref e_NoLetter.C, false), (.ref n_NoPlan.C, false), (.ref n_NoPiece.C, true), (.ref n_NoRight.C, false), (.ref n_NoQuestion.C, false), (.ref n_Full.C, false), (.ref n_NoMoment.C, false), (.ref n_NoPaper.C, false), (.ref n_NoEntry.C, false), (.ref n_NoScript.C, false), (.ref n_NoLine.C, false), (.ref C_ViewError, true), (.type "ValueError", true)]) = true
  k_NoRight : DX.kitL K n_NoRight.C ([(.ref e_NoDeal.C, false), (.ref e_NoPerson.C, false), (.ref e_NoWatcher.C, false), (.ref e_NoText.C, false), (.ref e_NoLetter.C, false), (.ref n_NoPlan.C, false), (.ref n_NoPiece.C, false), (.ref n_NoRight.C, true), (.ref n_NoQuestion.C, false), (.ref n_Full.C, false), (.ref n_NoMoment.C, false), (.ref n_NoPaper.C, false), (.ref n_NoEntry.C, false), (.ref n_NoScript.C, false), (.ref n_NoLine.C, false), (.ref C_ViewError, true), (.type "ValueError", true)]) = true
  k_NoQuestion : DX.kitL K n_NoQuestion.C ([(.ref e_NoDeal.C, false), (.ref e_NoPerson.C, false), (.ref e_NoWatcher.C, false), (.ref e_NoText.C, false), (.ref e_NoLetter.C, false), (.ref n_NoPlan.C, false), (.ref n_NoPiece.C, false), (.ref n_NoRight.C, false), (.ref n_NoQuestion.C, true), (.ref n_Full.C, false), (.ref n_NoMoment.C, false), (.ref n_NoPaper.C, false), (.ref n_NoEntry.C, false), (.ref n_NoScript.C, false), (.ref n_NoLine.C, false), (.ref C_ViewError, true), (.type "ValueError", true)]) = true
  k_Full : DX.kitL K n_Full.C ([(.ref e_NoDeal.C, false), (.ref e_NoPerson.C, false), (.ref e_NoWatcher.C, false), (.ref e_NoText.C, false), (.ref e_NoLetter.C, false), (.ref n_NoPlan.C, false), (.ref n_NoPiece.C, false), (.ref n_NoRight.C, false), (.ref n_NoQuestion.C, false), (.ref n_Full.C, true), (.ref n_NoMoment.C, false), (.ref n_NoPaper.C, false), (.ref n_NoEntry.C, false), (.ref n_NoScript.C, false), (.ref n_NoLine.C, false), (.ref C_ViewError, true), (.type "ValueError", true)]) = true
  x_Full_ViewError : PySem.W.exmOne K (.ref n_Full.C) (.ref C_ViewError) = some true
  k_NoMoment : DX.kitL K n_NoMoment.C ([(.ref e_NoDeal.C, false), (.ref e_NoPerson.C, false), (.ref e_NoWatcher.C, false), (.ref e_NoText.C, false), (.ref e_NoLetter.C, false), (.ref n_NoPlan.C, false), (.ref n_NoPiece.C, false), (.ref n_NoRight.C, false), (.ref n_NoQuestion.C, false), (.ref n_Full.C, false), (.ref n_NoMoment.C, true), (.ref n_NoPaper.C, false), (.ref n_NoEntry.C, false), (.ref n_NoScript.C, false), (.ref n_NoLine.C, false), (.ref C_ViewError, true), (.type "ValueError", true)]) = true
  k_NoPaper : DX.kitL K n_NoPaper.C ([(.ref e_NoDeal.C, false), (.ref e_NoPerson.C, false), (.ref e_NoWatcher.C, false), (.ref e_NoText.C, false), (.ref e_NoLetter.C, false), (.ref n_NoPlan.C, false), (.ref n_NoPiece.C, false), (.ref n_NoRight.C, false), (.ref n_NoQuestion.C, false), (.ref n_Full.C, false), (.ref n_NoMoment.C, false), (.ref n_NoPaper.C, true), (.ref n_NoEntry.C, false), (.ref n_NoScript.C, false), (.ref n_NoLine.C, false), (.ref C_ViewError, true), (.type "ValueError", true)]) = true
  k_NoEntry : DX.kitL K n_NoEntry.C ([(.ref e_NoDeal.C, false), (.ref e_NoPerson.C, false), (.ref e_NoWatcher.C, false), (.ref e_NoText.C, false), (.ref e_NoLetter.C, false), (.ref n_NoPlan.C, false), (.ref n_NoPiece.C, false), (.ref n_NoRight.C, false), (.ref n_NoQuestion.C, false), (.ref n_Full.C, false), (.ref n_NoMoment.C, false), (.ref n_NoPaper.C, false), (.ref n_NoEntry.C, true), (.ref n_NoScript.C, false), (.ref n_NoLine.C, false), (.ref C_ViewError, true), (.type "ValueError", true)]) = true
  k_NoScript : DX.kitL K n_NoScript.C ([(.ref e_NoDeal.C, false), (.ref e_NoPerson.C, false), (.ref e_NoWatcher.C, false), (.ref e_NoText.C, false), (.ref e_NoLetter.C, false), (.ref n_NoPlan.C, false), (.ref n_NoPiece.C, false), (.ref n_NoRight.C, false), (.ref n_NoQuestion.C, false), (.ref n_Full.C, false), (.ref n_NoMoment.C, false), (.ref n_NoPaper.C, false), (.ref n_NoEntry.C, false), (.ref n_NoScript.C, true), (.ref n_NoLine.C, false), (.ref C_ViewError, true), (.type "ValueError", true)]) = true
  k_NoLine : DX.kitL K n_NoLine.C ([(.ref e_NoDeal.C, false), (.ref e_NoPerson.C, false), (.ref e_NoWatcher.C, false), (.ref e_NoText.C, false), (.ref e_NoLetter.C, false), (.ref n_NoPlan.C, false), (.ref n_NoPiece.C, false), (.ref n_NoRight.C, false), (.ref n_NoQuestion.C, false), (.ref n_Full.C, false), (.ref n_NoMoment.C, false), (.ref n_NoPaper.C, false), (.ref n_NoEntry.C, false), (.ref n_NoScript.C, false), (.ref n_NoLine.C, true), (.ref C_ViewError, true), (.type "ValueError", true)]) = true
structure Txt (K : PySem.W.Frag) (mg : Str → Option Value) : Prop where
  b_ValueError : mg "ValueError" = none
  b_all : mg "all" = none
  b_bool : mg "bool" = none
  b_enumerate : mg "enumerate" = none
  b_int : mg "int" = none
  b_isinstance : mg "isinstance" = none
  b_len : mg "len" = none
  b_min : mg "min" = none
  b_range : mg "range" = none
  b_repr : mg "repr" = none
  b_tuple : mg "tuple" = none
  b_type : mg "type" = none
  c_ROOM : ∃ t, mg "ROOM" = some (.int 4 t)
theorem Txt.e_ROOM {X : CxZ} {pos : Pos} (T : Txt X.K X.mg) (hg : Gl X "ROOM" := by rfl) : DE X (.Name "ROOM" pos) (wC (.int 4)) := by
  obtain ⟨t, h⟩ := T.c_ROOM
  exact de_gint h hg
end K04

set_option autoImplicit false
set_option maxRecDepth 100000
set_option maxHeartbeats 4000000
namespace K04
open PySem L2 DL
section
variable {P : Program} {w : World} {K : PySem.W.Frag} {mg : Str → Option Value} {base : Heap}
def letter (c : Nat) : Bool := decide (97 ≤ c) && decide (c ≤ 122)
def okD (M : Mem) (d : D) : Prop := (tyD M d).isSome = true ∧ ∀ s, d = .str s → s.length ≤ sizeLine
end
end K04

set_option autoImplicit false
set_option maxRecDepth 100000
set_option maxHeartbeats 4000000
namespace K04
open PySem L2 DL
/-! what is asked of a value that anything may be -/
mutual
def okR (M : Mem) : D → Prop
  | .non => True
  | .bl _ => True
  | .int _ => True
  | .str s => s.length ≤ 1000000
  | .tup ds => ds.length ≤ 1000 ∧ okRs M ds
  | .lst _ => True
  | .cel a => (tyD M (.cel a)).isSome = true
  | _ => False
def okRs (M : Mem) : List D → Prop
  | [] => True
  | d :: ds => okR M d ∧ okRs M ds
end
theorem okR_ty {M : Mem} {d : D} (h : okR M d) : ∃ t, tyD M d = some t ∧ ((t = "int") = ∃ i, d = .int i) ∧ ((t = "str") = ∃ s, d = .str s) ∧ ((t = "tuple") = ∃ ds, d = .tup ds) ∧ ((t = "bool") = ∃ b, d = .bl b) := by
  cases d with
  | cel a =>
    unfold okR at h
    cases q : tyD M (.cel a) with
    | none => rw [q] at h; cases h
    | some t =>
      refine ⟨t, rfl, ?_⟩
      unfold tyD at q
      simp only at q
      split at q <;> cases q <;> simp
  | scr _ => unfold okR at h; exact h.elim
  | ty _ => unfold okR at h; exact h.elim
  | ftp _ => unfold okR at h; exact h.elim
  | _ => exact ⟨_, rfl, by simp⟩
def isInt : D → Bool
  | .int _ => true
  | _ => false
theorem r_type {M : Mem} {d : D} {k : KD} {t : String} (e : tyD M d = some t) (hk : k (.ty t) M) : rdType [d] M k := by
  unfold rdType; simp only [e]; exact hk
theorem ty_int {M : Mem} {d : D} {k : KD} {f : Bool → Bool} (h : okR M d) (hk : k (.bl (f (isInt d))) M) : rdType [d] M fun x M1 => rdIs f x (.ty "int") M1 k := by
  obtain ⟨t, e, e1, _⟩ := okR_ty h
  refine r_type e ?_
  have : decide (t = "int") = isInt d := by
    rw [Bool.eq_iff_iff, decide_eq_true_eq, e1]
    cases d <;> simp [isInt]
  show k (.bl (f (decide (t = "int")))) M
  rw [this]; exact hk
theorem tyD_cel {M : Mem} {a : Addr} : (tyD M (.cel a)).isSome = (M a).any oldC := by
  unfold tyD
  simp only
  cases M a with
  | none => rfl
  | some c => cases c <;> rfl
end K04

set_option autoImplicit false
set_option maxRecDepth 100000
set_option maxHeartbeats 4000000
namespace K04
open PySem L2 DL
section
variable {P : Program} {w : World} {K : PySem.W.Frag} {mg : Str → Option Value} {base : Heap}
def F_is_whole : FD := fun ds M k => ∃ d, ds = [d] ∧ okR M d ∧ k (.bl (isInt d)) M
theorem ok_is_whole {f : Addr} {fd : FuncData} (T : Txt K mg) (d_is_whole : Def K mg "is_whole" s_is_whole p_is_whole f fd) : DFn P w K mg base 1 f fd p_is_whole F_is_whole := by
  refine Fun.okD d_is_whole.F sc_is_whole (fun cdv A outer s H E hr => (dss_one (ds_ret (de_cmpA c_is (de_type T.b_type (dv 0)) (de_ty (n := "int") T.b_int (by decide +kernel)))))) (fun ds M k h => ?_)
  obtain ⟨d, rfl, hd, hk⟩ := h
  refine ⟨rfl, ?_⟩
  rw [show startD N_is_whole [d] = [some d] from rfl]
  simp only [wNext, wSeq, wBreak, wContinue, wExpr, wRet, wRetN, wIfS, wSet, wAsg, wPar, wPar3, wFor, wSub, wTst, wOp, wChain, wNotT, wAndT, wOrT, wAndV, wOrV, wNotV, wIf, wNil, wCons, wTup, wLst, wLstM, wCall, wCall0, wVar, wC, wLc, wLcM, wYes, wiL, wiT, wiS, wiR, wiEnT, wiEnL, wiZip, wSl, woNone, woSome, wMt, wJoin, wGet, wUn, DL.wTru, wDNew, fin, List.getElem?_cons_zero, List.getElem?_cons_succ, List.set_cons_zero, List.set_cons_succ]
  exact ty_int hd hk
end
end K04

set_option autoImplicit false
set_option maxRecDepth 100000
set_option maxHeartbeats 4000000
namespace K04
open PySem L2 DL
/-! isinstance of a value that anything may be -/
def isBl : D → Bool
  | .bl _ => true
  | _ => false
theorem isi_of {M : Mem} {d : D} {k : KD} {T : String} (b : Bool) (h : okR M d) (hT : ["bool", "int", "str", "tuple"].contains T = true) (e : ∀ t, tyD M d = some t → isiB t T = b) (hk : k (.bl b) M) : rdIsiA [d, .ty T] M k := by
  obtain ⟨t, q, _⟩ := okR_ty h
  refine r_isi q hT (fun l z => ?_) ?_
  · subst z; unfold okR at h; exact h
  · rw [e t q]; exact hk
theorem cel_ty {M : Mem} {a : Addr} {t : String} (q : tyD M (.cel a) = some t) : t = "list" ∨ t = "dict" := by
  unfold tyD at q
  simp only at q
  split at q <;> cases q <;> simp
theorem isi_int {M : Mem} {d : D} {k : KD} (h : okR M d) (hk : k (.bl (isInt d || isBl d)) M) : rdIsiA [d, .ty "int"] M k := by
  refine isi_of _ h (by decide) (fun t q => ?_) hk
  cases d with
  | cel a => rcases cel_ty q with e | e <;> (subst e; rfl)
  | scr _ => unfold okR at h; exact h.elim
  | ty _ => unfold okR at h; exact h.elim
  | ftp _ => unfold okR at h; exact h.elim
  | _ => cases q; rfl
theorem isi_bool {M : Mem} {d : D} {k : KD} (h : okR M d) (hk : k (.bl (isBl d)) M) : rdIsiA [d, .ty "bool"] M k := by
  refine isi_of _ h (by decide) (fun t q => ?_) hk
  cases d with
  | cel a => rcases cel_ty q with e | e <;> (subst e; rfl)
  | scr _ => unfold okR at h; exact h.elim
  | ty _ => unfold okR at h; exact h.elim
  | ftp _ => unfold okR at h; exact h.elim
  | _ => cases q; rfl
section
variable {P : Program} {w : World} {K : PySem.W.Frag} {mg : Str → Option Value} {base : Heap}
end
end K04

set_option autoImplicit false
set_option maxRecDepth 100000
set_option maxHeartbeats 4000000
namespace K04
open PySem L2 DL
/-! the pot that is drawn from -/
/-- great numbers in a list of their own, what is mixed, how many were taken -/
def Pt (M : Mem) (h l : Addr) (n : Nat) : Prop := ∃ (xs : List Int) (b c : Int), M h = some (.lst [.cel l, .int b, .int c]) ∧ M l = some (.lst (xs.map D.int)) ∧ h ≠ l ∧ (∀ x ∈ xs, 0 ≤ x) ∧ xs.length ≤ 63 ∧ 0 ≤ b ∧ b < 2305843009213693951 ∧ 0 ≤ c ∧ c ≤ n
def Px (h l : Addr) (M M' : Mem) : Prop := ∀ a c, a ≠ h → a ≠ l → M a = some c → M' a = some c
theorem Px.refl (h l : Addr) (M : Mem) : Px h l M M := fun _ _ _ _ e => e
theorem Px.trans {h l : Addr} {M M1 M2 : Mem} (a : Px h l M M1) (b : Px h l M1 M2) : Px h l M M2 := fun x c h1 h2 e => b x c h1 h2 (a x c h1 h2 e)
theorem Pt.up {M : Mem} {h l : Addr} {n m : Nat} (q : Pt M h l n) (z : n ≤ m) : Pt M h l m := by
  obtain ⟨xs, b, c, h1, h2, h3, h4, h5, h6, h7, h8, h9⟩ := q
  exact ⟨xs, b, c, h1, h2, h3, h4, h5, h6, h7, h8, by omega⟩
theorem Pt.fresh {M : Mem} {h l p : Addr} {n : Nat} (q : Pt M h l n) (hp : M p = none) : p ≠ h ∧ p ≠ l := by
  obtain ⟨xs, b, c, h1, h2, _⟩ := q
  exact ⟨Ne.symm (neM h1 hp), Ne.symm (neM h2 hp)⟩
theorem Pt.set {M : Mem} {h l p : Addr} {n : Nat} {c : Cell} (q : Pt M h l n) (h1 : p ≠ h) (h2 : p ≠ l) : Pt (setM M p c) h l n := by
  obtain ⟨xs, b, t, e1, e2, r⟩ := q
  exact ⟨xs, b, t, by rw [setM_ne (Ne.symm h1)]; exact e1, by rw [setM_ne (Ne.symm h2)]; exact e2, r⟩
theorem Pt.new {M : Mem} {h l p : Addr} {n : Nat} {c : Cell} (q : Pt M h l n) (hp : M p = none) : Pt (setM M p c) h l n := q.set (q.fresh hp).1 (q.fresh hp).2
theorem Px.new {h l p : Addr} {M M' : Mem} {c : Cell} (e : Px h l M M') (hp : M p = none) : Px h l M (setM M' p c) := fun a x h1 h2 z => by
  rw [setM_ne (neM z hp)]; exact e a x h1 h2 z
section
variable {P : Program} {w : World} {K : PySem.W.Frag} {mg : Str → Option Value} {base : Heap}
theorem toPs_ints (M : Mem) (xs : List Int) : toPs M (xs.map D.int) = some (xs.map PyData.int) := by
  induction xs with
  | nil => rfl
  | cons x r ih => rw [List.map_cons]; unfold toPs toP; rw [ih]; rfl
theorem lay_ints (xs : List Int) : PyData.canLayAll0 (xs.map PyData.int) = true ∧ PyData.depthAll (xs.map PyData.int) = 0 := by
  induction xs with
  | nil => exact ⟨by unfold PyData.canLayAll0; rfl, by unfold PyData.depthAll; rfl⟩
  | cons x r ih =>
    rw [List.map_cons]
    unfold PyData.canLayAll0 PyData.depthAll
    rw [ih.1, ih.2]
    exact ⟨by unfold PyData.canLay0; rfl, by unfold PyData.depth; rfl⟩
theorem shaped_ints (xs : List Int) : SeqAt.shaped (.list (xs.map PyData.int)) = true := by
  unfold SeqAt.shaped PyData.canLay0 PyData.depth
  rw [(lay_ints xs).1, (lay_ints xs).2]; rfl
theorem ne_nil {M : Mem} {l : Addr} {xs : List Int} {k : KD} (e : M l = some (.lst (xs.map D.int))) (h : k (.bl (!xs.isEmpty)) M) : rdEq not (.cel l) (.lst []) M k := by
  show rdEqP not (.cel l) (.lst []) M k
  unfold rdEqP toPC
  simp only [e, toPs_ints]
  refine ⟨shaped_ints xs, shaped_ints [], ?_⟩
  have : PyData.eqv (.list (xs.map PyData.int)) (.list []) = xs.isEmpty := by
    unfold PyData.eqv
    cases xs <;> (unfold PyData.eqvAll; rfl)
  rw [this]; exact h
def F_ppick : FD := fun ds M k => ∃ h l n many, ds = [.cel h, .int many] ∧ Pt M h l n ∧ n + 1 ≤ 1000000000 ∧ 0 < many ∧ many < 1073741824 ∧ ∀ r M', 0 ≤ r → r < many → Pt M' h l (n + 1) → Px h l M M' → k (.int r) M'
theorem ok_ppick (T : Txt K mg) (B : DD K mg) : DFn P w K mg base 1 B.f_law_pick B.fd_law_pick p_law_pick F_ppick := by
  refine Fun.okD B.d_law_pick.F sc_law_pick (fun cdv A outer s H E hr => (dss_cons (ds_while (dw_pt (dw_and (dt_cmpA (c_ne hr) (de_ix (dv 0) de_int) (de_lst da_nil)) (dw_and1 (dt_cmpA (c_eq hr) (de_ix (de_ix (dv 0) de_int) de_int) de_int)))) (dss_one (ds_expr (de_popAt (de_ix (dv 0) de_int) de_int)))) (dss_cons (ds_if (dt_cmpA (c_ne hr) (de_ix (dv 0) de_int) (de_lst da_nil)) (dss_cons (ds_set (i := 2) sc_law_pick.nd (de_mod (de_ix (de_ix (dv 0) de_int) de_int) (dv 1))) (dss_cons (ds_sub (de_ix (dv 0) de_int) de_int (de_div (de_ix (de_ix (dv 0) de_int) de_int) (dv 1))) (dss_one (ds_ret (dv 2))))) dss_nil) (dss_cons (ds_set (i := 3) sc_law_pick.nd (de_add (de_ix (dv 0) de_int) de_int)) (dss_cons (ds_sub (dv 0) de_int (dv 3)) (dss_cons (ds_set (i := 4) sc_law_pick.nd (de_mod (de_add (de_add (de_ix (dv 0) de_int) (de_mul (de_mul (de_mul de_int (dv 3)) (dv 3)) (dv 3))) (de_mul de_int (dv 3))) de_int)) (dss_one (ds_ret (de_mod (de_add (de_div (de_mod (de_mul (dv 4) (dv 4)) de_int) de_int) (de_div (dv 4) de_int)) (dv 1)))))))))) (fun ds M k h => ?_)
  obtain ⟨h, l, n, many, rfl, ⟨xs, b, c, hs⟩, hn, m0, m1, hk⟩ := h
  (refine ⟨rfl, ?_⟩; rw [show startD N_law_pick [.cel h, .int many] = [some (.cel h), some (.int many), none, none, none] from rfl])
  simp only [wSeq]
  unfold wWhile
  refine ⟨fun j Γ M' => Γ = [some (.cel h), some (.int many), none, none, none] ∧ ∃ (xs : List Int) (b c : Int), j = xs.length ∧ M' h = some (.lst [.cel l, .int b, .int c]) ∧ M' l = some (.lst (xs.map D.int)) ∧ h ≠ l ∧ (∀ x ∈ xs, 0 ≤ x) ∧ xs.length ≤ 63 ∧ 0 ≤ b ∧ b < 2305843009213693951 ∧ 0 ≤ c ∧ c ≤ n ∧ Px h l M M',
    ⟨xs.length, rfl, xs, b, c, rfl, hs.1, hs.2.1, hs.2.2.1, hs.2.2.2.1, hs.2.2.2.2.1, hs.2.2.2.2.2.1, hs.2.2.2.2.2.2.1, hs.2.2.2.2.2.2.2.1, hs.2.2.2.2.2.2.2.2, Px.refl _ _ _⟩, ?_⟩
  rintro j Γ M1 ⟨rfl, xs, b, c, rfl, h1, h2, h3, h4, h5, b0, b1, c0, c1, hx⟩
  simp only [wNext, wSeq, wBreak, wContinue, wExpr, wRet, wRetN, wIfS, wSet, wAsg, wPar, wPar3, wFor, wSub, wTst, wOp, wChain, wNotT, wAndT, wOrT, wAndV, wOrV, wNotV, wIf, wNil, wCons, wTup, wLst, wLstM, wCall, wCall0, wVar, wC, wLc, wLcM, wYes, wiL, wiT, wiS, wiR, wiEnT, wiEnL, wiZip, wSl, woNone, woSome, wMt, wJoin, wGet, wUn, DL.wTru, wDNew, fin, List.getElem?_cons_zero, List.getElem?_cons_succ, List.set_cons_zero, List.set_cons_succ]
  refine ix_cel h1 (at0 _ _) ⟨Nat.zero_le _, ne_nil h2 ?_⟩
  cases xs with
  | nil =>
    refine ff (ff (ix_cel h1 (at0 _ _) ⟨Nat.zero_le _, ne_nil h2 (ff ?_)⟩))
    refine ix_cel h1 (at2 _ _ _ _) (r_add ?_)
    refine r_st h1 (ix_nat (n := 3) (i := 2) (by decide)) ?_
    have g1 : setM M1 h (.lst ([.cel l, .int b, .int c].set 2 (.int (c + 1)))) h = some (.lst [.cel l, .int b, .int (c + 1)]) := setM_same
    have g2 : setM M1 h (.lst ([.cel l, .int b, .int c].set 2 (.int (c + 1)))) l = some (.lst (([] : List Int).map D.int)) := by rw [setM_ne (Ne.symm h3)]; exact h2
    have g3 : Px h l M (setM M1 h (.lst ([.cel l, .int b, .int c].set 2 (.int (c + 1))))) := fun a x n1 n2 e => by rw [setM_ne n1]; exact hx a x n1 n2 e
    generalize setM M1 h (.lst ([.cel l, .int b, .int c].set 2 (.int (c + 1)))) = M2 at g1 g2 g3 ⊢
    simp only [wNext, wSeq, wBreak, wContinue, wExpr, wRet, wRetN, wIfS, wSet, wAsg, wPar, wPar3, wFor, wSub, wTst, wOp, wChain, wNotT, wAndT, wOrT, wAndV, wOrV, wNotV, wIf, wNil, wCons, wTup, wLst, wLstM, wCall, wCall0, wVar, wC, wLc, wLcM, wYes, wiL, wiT, wiS, wiR, wiEnT, wiEnL, wiZip, wSl, woNone, woSome, wMt, wJoin, wGet, wUn, DL.wTru, wDNew, fin, List.getElem?_cons_zero, List.getElem?_cons_succ, List.set_cons_zero, List.set_cons_succ]
    refine ix_cel g1 (at1 _ _ _) (r_mul (.inl ⟨by decide, by decide⟩) (r_mul (.inr ⟨by omega, by omega⟩) (r_mul (.inr ⟨by omega, by omega⟩) (r_add (r_mul (.inl ⟨by decide, by decide⟩) (r_add (r_mod (by decide) ?_)))))))
    generalize hm : (b + 60013 * (c + 1) * (c + 1) * (c + 1) + 101 * (c + 1)) % 2305843009213693921 = m
    have p0 : 0 ≤ m := by rw [← hm]; exact Int.emod_nonneg _ (by decide)
    have p1 : m < 2305843009213693921 := by rw [← hm]; exact Int.emod_lt_of_pos _ (by decide)
    refine r_mul (.inl ⟨by omega, by omega⟩) (r_mod (by decide) (r_div (by decide) (by decide) (r_div (by decide) (by decide) (r_add (r_mod m0 ?_)))))
    exact hk _ _ (Int.emod_nonneg _ (by omega)) (Int.emod_lt_of_pos _ m0) ⟨[], b, c + 1, g1, g2, h3, h4, h5, b0, b1, by omega, by omega⟩ g3
  | cons x r =>
    have hx0 : 0 ≤ x := h4 x List.mem_cons_self
    by_cases e : x = 0
    · subst e
      refine tt (ix_cel h1 (at0 _ _) (ix_cel h2 (at0 _ _) (eq_intT (tt ?_))))
      refine ix_cel h1 (at0 _ _) ⟨isC h2, r_pop0 h2 ?_⟩
      refine ⟨r.length, Nat.lt_succ_self _, trivial, r, b, c, rfl, by rw [setM_ne h3]; exact h1, setM_same, h3, fun y hy => h4 y (List.mem_cons_of_mem _ hy), by simp only [List.length_cons] at h5; omega, b0, b1, c0, c1, fun a x n1 n2 e => by rw [setM_ne n2]; exact hx a x n1 n2 e⟩
    · refine tt (ix_cel h1 (at0 _ _) (ix_cel h2 (at0 _ _) (eq_intF e (ff ?_))))
      refine ix_cel h1 (at0 _ _) ⟨Nat.zero_le _, ne_nil h2 (tt ?_)⟩
      refine ix_cel h1 (at0 _ _) (ix_cel h2 (at0 _ _) (r_mod m0 ?_))
      refine ix_cel h1 (at0 _ _) (ix_cel h2 (at0 _ _) (r_div m0 m1 ?_))
      refine ix_cel h1 (at0 _ _) (r_st h2 (ix_nat (n := (x :: r).map D.int |>.length) (i := 0) (by simp)) ?_)
      simp only [wNext, wSeq, wBreak, wContinue, wExpr, wRet, wRetN, wIfS, wSet, wAsg, wPar, wPar3, wFor, wSub, wTst, wOp, wChain, wNotT, wAndT, wOrT, wAndV, wOrV, wNotV, wIf, wNil, wCons, wTup, wLst, wLstM, wCall, wCall0, wVar, wC, wLc, wLcM, wYes, wiL, wiT, wiS, wiR, wiEnT, wiEnL, wiZip, wSl, woNone, woSome, wMt, wJoin, wGet, wUn, DL.wTru, wDNew, fin, List.getElem?_cons_zero, List.getElem?_cons_succ, List.set_cons_zero, List.set_cons_succ]
      refine hk _ _ (Int.emod_nonneg _ (by omega)) (Int.emod_lt_of_pos _ m0) ⟨x / many :: r, b, c, by rw [setM_ne h3]; exact h1, setM_same, h3, fun y hy => ?_, h5, b0, b1, c0, by omega⟩ fun a z n1 n2 e => by rw [setM_ne n2]; exact hx a z n1 n2 e
      rcases List.mem_cons.mp hy with rfl | hy
      · exact Int.ediv_nonneg hx0 (by omega)
      · exact h4 y (List.mem_cons_of_mem _ hy)
theorem atI_of {α : Type} {xs : List α} {r : Int} (h0 : 0 ≤ r) (h1 : r < xs.length) : ∃ d, atI xs r = some d ∧ d ∈ xs := by
  have h : r.toNat < xs.length := by omega
  refine ⟨xs[r.toNat], ?_, List.getElem_mem h⟩
  have := atI_nat (xs := xs) (j := r.toNat) (v := xs[r.toNat]) (by simp [h])
  rw [Int.toNat_of_nonneg h0] at this; exact this
def F_pof : FD := fun ds M k => ∃ h l n x xs, ds = [.cel h, x] ∧ Pt M h l n ∧ n + 1 ≤ 1000000000 ∧ (x = .tup xs ∨ x = .lst xs) ∧ 0 < xs.length ∧ xs.length < 1000000 ∧ ∀ d M', d ∈ xs → Pt M' h l (n + 1) → Px h l M M' → k d M'
theorem ok_pof (T : Txt K mg) (B : DD K mg) : DFn P w K mg base 2 B.f_law_of B.fd_law_of p_law_of F_pof := by
  have G_law_pick : DFn P w K mg base 1 B.f_law_pick B.fd_law_pick p_law_pick F_ppick := ok_ppick T B
  refine Fun.okD B.d_law_of.F sc_law_of (fun cdv A outer s H E hr => (dss_one (ds_ret (de_ix (dv 1) (de_own B.d_law_pick G_law_pick hr (by first | decide | omega) (da_cons (dv 0) (da_cons (de_len T.b_len (dv 1)) da_nil))))))) (fun ds M k h => ?_)
  obtain ⟨h, l, n, x, xs, rfl, hh, hn, hx, n0, n1, hk⟩ := h
  (refine ⟨rfl, ?_⟩; rw [show startD N_law_of [.cel h, x] = [some (.cel h), some (x)] from rfl])
  simp only [wNext, wSeq, wBreak, wContinue, wExpr, wRet, wRetN, wIfS, wSet, wAsg, wPar, wPar3, wFor, wSub, wTst, wOp, wChain, wNotT, wAndT, wOrT, wAndV, wOrV, wNotV, wIf, wNil, wCons, wTup, wLst, wLstM, wCall, wCall0, wVar, wC, wLc, wLcM, wYes, wiL, wiT, wiS, wiR, wiEnT, wiEnL, wiZip, wSl, woNone, woSome, wMt, wJoin, wGet, wUn, DL.wTru, wDNew, fin, List.getElem?_cons_zero, List.getElem?_cons_succ, List.set_cons_zero, List.set_cons_succ]
  rcases hx with rfl | rfl
  · refine r_lenT ⟨h, l, n, _, rfl, hh, hn, by omega, by omega, fun r M' r0 r1 h' e' => ?_⟩
    obtain ⟨d, a1, a2⟩ := atI_of (xs := xs) r0 r1
    exact ix_tup a1 (hk d M' a2 h' e')
  · refine r_lenL ⟨h, l, n, _, rfl, hh, hn, by omega, by omega, fun r M' r0 r1 h' e' => ?_⟩
    obtain ⟨d, a1, a2⟩ := atI_of (xs := xs) r0 r1
    exact ix_lst a1 (hk d M' a2 h' e')
end
end K04

set_option autoImplicit false
set_option maxRecDepth 100000
set_option maxHeartbeats 4000000
namespace K04
open PySem L2 DL
section
variable {P : Program} {w : World} {K : PySem.W.Frag} {mg : Str → Option Value} {base : Heap}
theorem pairs_ints : ∀ (l : List Int) (j : Nat) (d : D), d ∈ pairsFrom (l.map D.int) → ∃ (i : Nat) (x : Int), d = .tup [.int (i : Nat), .int x] := fun l j d hd => by
  obtain ⟨i, hi⟩ := List.mem_iff_getElem?.mp hd
  obtain ⟨x, gx, rfl⟩ := pairsFrom_get hi
  rw [List.getElem?_map] at gx
  obtain ⟨y, _, rfl⟩ := Option.map_eq_some_iff.mp gx
  exact ⟨i, y, rfl⟩
def F_pbegin : FD := fun ds M k => ∃ ns : List Int, ds = [.scr (ns.map D.int)] ∧ ns.length ≤ 63 ∧ ∀ h l M', Pt M' h l 0 → (∀ a c, M a = some c → M' a = some c) → k (.cel h) M'
theorem ok_pbegin (T : Txt K mg) (B : DD K mg) : DFn P w K mg base 1 B.f_law_begin B.fd_law_begin p_law_begin F_pbegin := by
  refine Fun.okD B.d_law_begin.F sc_law_begin (fun cdv A outer s H E hr => (dss_cons (ds_par (i := 1) (j := 2) rfl sc_law_begin.nd (da_cons de_int (da_cons (de_lstM da_nil) da_nil)) rfl rfl (by decide) rfl rfl (by rfl)) (dss_cons (ds_for rfl (di_enumL T.b_enumerate (da_cons (de_slice (dv 0) do_none (do_some de_int)) da_nil)) (dg_tup rfl (dgs_cons (dg_name (i := 3) sc_law_begin.nd) (dgs_cons (dg_name (i := 4) sc_law_begin.nd) dgs_nil)) (gsCons_len (gsCons_len gsNil_len))) (dss_cons (ds_set (i := 1) sc_law_begin.nd (de_mod (de_add (de_add (de_add (de_mul (dv 1) de_int) (de_mod (dv 4) (de_pow de_int de_int))) (de_mul de_int (dv 3))) de_int) de_int)) (dss_one (ds_if (dt_cmpA c_ge (dv 4) (de_pow de_int de_int)) (dss_one (ds_expr (de_append (dv 2) (dv 4)))) dss_nil)))) (dss_one (ds_ret (de_lstM (da_cons (dv 2) (da_cons (dv 1) (da_cons de_int da_nil))))))))) (fun ds M k h => ?_)
  obtain ⟨ns, rfl, hn, hk⟩ := h
  (refine ⟨rfl, ?_⟩; rw [show startD N_law_begin [.scr (ns.map D.int)] = [some (.scr (ns.map D.int)), none, none, none, none] from rfl])
  have hz := sizeLine_eq
  have cut : cutD (ns.map D.int) none (some 63) = ns.map D.int := by
    have := cut_take (ns.map D.int) 63
    rw [show ((63 : Nat) : Int) = 63 from rfl] at this
    rw [this, List.take_of_length_le (by simpa using hn)]
  refine seq_step ?_
  simp only [wFor, wiEnL, wNext, wBreak, wContinue, wExpr, wRet, wRetN, wSet, wAsg, wPar, wPar3, wSub, wTst, wOp, wChain, wNotT, wAndV, wOrV, wNotV, wIf, wNil, wCons, wTup, wLst, wLstM, wCall, wCall0, wVar, wC, wLc, wLcM, wYes, wiL, wiT, wiS, wiR, wiEnT, wiEnL, wiZip, wSl, woNone, woSome, wMt, wJoin, wGet, wUn, DL.wTru, wDNew, fin, List.getElem?_cons_zero, List.getElem?_cons_succ, List.set_cons_zero, List.set_cons_succ]
  refine ⟨Nat.zero_le _, fun p hp => ?_⟩
  refine seq_step ?_
  simp only [wFor, wiEnL, wNext, wBreak, wContinue, wExpr, wRet, wRetN, wSet, wAsg, wPar, wPar3, wSub, wTst, wOp, wChain, wNotT, wAndV, wOrV, wNotV, wIf, wNil, wCons, wTup, wLst, wLstM, wCall, wCall0, wVar, wC, wLc, wLcM, wYes, wiL, wiT, wiS, wiR, wiEnT, wiEnL, wiZip, wSl, woNone, woSome, wMt, wJoin, wGet, wUn, DL.wTru, wDNew, fin, List.getElem?_cons_zero, List.getElem?_cons_succ, List.set_cons_zero, List.set_cons_succ]
  refine r_slR ?_
  rw [cut]
  simp only [asR]
  have mp : setM M p (.lst []) p = some (.lst []) := setM_same
  refine (show ∀ G, (∀ M', M' p ≠ none → G M') → loopD _ _ G (pairsFrom (ns.map D.int)) _ _ _ from fun G hG => ?_) _ fun _ _ => rfl
  refine loop_inv (fun its Γ M' => (∀ d ∈ its, ∃ (i : Nat) (x : Int), d = .tup [.int (i : Nat), .int x]) ∧ ∃ (xs : List Int) (b : Int) (x3 x4 : Option D), M' = setM M p (.lst (xs.map D.int)) ∧ (∀ x ∈ xs, 0 ≤ x) ∧ xs.length + its.length ≤ 63 ∧ 0 ≤ b ∧ b < 2305843009213693951 ∧ Γ = [some (.scr (ns.map D.int)), some (.int b), some (.cel p), x3, x4])
    (fun its Γ M' ⟨_, xs, b, x3, x4, e, _⟩ => hG M' (by rw [e, setM_same]; simp)) ?_ ?_ _ _ _ ⟨fun d hd => pairs_ints ns 0 d hd, [], 271828183, _, _, rfl, fun x hx => (by cases hx), by rw [pairsFrom_len, List.length_map]; simpa using hn, by decide, by decide, rfl⟩
  · rintro Γ M' ⟨_, xs, b, x3, x4, rfl, hx, hl, b0, b1, rfl⟩
    simp only [wNext, wBreak, wContinue, wExpr, wRet, wRetN, wSet, wAsg, wPar, wPar3, wSub, wTst, wOp, wChain, wNotT, wAndV, wOrV, wNotV, wIf, wNil, wCons, wTup, wLst, wLstM, wCall, wCall0, wVar, wC, wLc, wLcM, wYes, wiL, wiT, wiS, wiR, wiEnT, wiEnL, wiZip, wSl, woNone, woSome, wMt, wJoin, wGet, wUn, DL.wTru, wDNew, fin, List.getElem?_cons_zero, List.getElem?_cons_succ, List.set_cons_zero, List.set_cons_succ]
    refine ⟨Nat.le_of_ble_eq_true rfl, fun q hq => ?_⟩
    have ne : q ≠ p := fun z => by rw [z, setM_same] at hq; cases hq
    refine hk q p _ ⟨xs, b, 0, setM_same, by rw [setM_ne (Ne.symm ne), setM_same], ne, hx, by simpa using hl, b0, b1, by decide, (by decide)⟩ fun a c e => ?_
    have n1 : a ≠ p := neM e hp
    have n2 : a ≠ q := fun z => by rw [z] at e; rw [setM_ne ne] at hq; rw [hq] at e; cases e
    rw [setM_ne n2, setM_ne n1]; exact e
  · rintro d ds Γ M' ⟨hd, xs, b, x3, x4, rfl, hx, hl, b0, b1, rfl⟩
    obtain ⟨i, x, rfl⟩ := hd d List.mem_cons_self
    rw [List.length_cons] at hl
    refine ⟨_, rfl, fun k' h1 h2 h3 h4 => ?_⟩
    refine seq_step ?_
    simp only [gT, gsCons, gN, gsNil, wNext, wBreak, wContinue, wExpr, wRet, wRetN, wSet, wAsg, wPar, wPar3, wSub, wTst, wOp, wChain, wNotT, wAndV, wOrV, wNotV, wIf, wNil, wCons, wTup, wLst, wLstM, wCall, wCall0, wVar, wC, wLc, wLcM, wYes, wiL, wiT, wiS, wiR, wiEnT, wiEnL, wiZip, wSl, woNone, woSome, wMt, wJoin, wGet, wUn, DL.wTru, wDNew, fin, List.getElem?_cons_zero, List.getElem?_cons_succ, List.set_cons_zero, List.set_cons_succ]
    refine r_mul (.inl ⟨by omega, by omega⟩) (r_pow (by decide) (by decide) (by decide) (r_mod (by decide) (r_add (r_mul (.inl ⟨by decide, by decide⟩) (r_add (r_add (r_mod (by decide) ?_)))))))
    have p0 := Int.emod_nonneg (b * 1000003 + x % 10 ^ (40 : Int).toNat + 7919 * (i : Int) + 1) (show (2305843009213693951 : Int) ≠ 0 by decide)
    have p1 := Int.emod_lt_of_pos (b * 1000003 + x % 10 ^ (40 : Int).toNat + 7919 * (i : Int) + 1) (show (0 : Int) < 2305843009213693951 by decide)
    generalize (b * 1000003 + x % 10 ^ (40 : Int).toNat + 7919 * (i : Int) + 1) % 2305843009213693951 = b2 at p0 p1 ⊢
    try unfold wIfS
    try simp only [wNext, wBreak, wContinue, wExpr, wRet, wRetN, wSet, wAsg, wPar, wPar3, wSub, wTst, wOp, wChain, wNotT, wAndV, wOrV, wNotV, wIf, wNil, wCons, wTup, wLst, wLstM, wCall, wCall0, wVar, wC, wLc, wLcM, wYes, wiL, wiT, wiS, wiR, wiEnT, wiEnL, wiZip, wSl, woNone, woSome, wMt, wJoin, wGet, wUn, DL.wTru, wDNew, fin, List.getElem?_cons_zero, List.getElem?_cons_succ, List.set_cons_zero, List.set_cons_succ]
    refine r_pow (by decide) (by decide) (by decide) (r_ordI ?_)
    have e18 : (10 : Int) ^ (18 : Int).toNat = 1000000000000000000 := by decide +kernel
    rw [e18]
    refine bb (fun q => ?_) (fun q => ?_)
    · have q := of_decide_eq_true q
      refine ⟨⟨_, setM_same⟩, r_app setM_same (by rw [List.length_map]; omega) ?_⟩
      rw [setM_setM]
      refine h3 _ _ ⟨fun d hd' => hd d (List.mem_cons_of_mem _ hd'), xs ++ [x], b2, _, _, by rw [List.map_append]; rfl, fun y hy => ?_, by rw [List.length_append, List.length_singleton]; omega, p0, p1, rfl⟩
      rcases List.mem_append.mp hy with hy | hy
      · exact hx y hy
      · rw [List.mem_singleton] at hy; subst hy; omega
    · exact h3 _ _ ⟨fun d hd' => hd d (List.mem_cons_of_mem _ hd'), xs, b2, _, _, rfl, hx, by omega, p0, p1, rfl⟩
end
end K04

set_option autoImplicit false
set_option maxRecDepth 100000
set_option maxHeartbeats 4000000
namespace K04
open PySem L2 DL DX
/-! roads -/
theorem seqIx9 {n j : Nat} (h : j < n) : seqIndex? ((j : Nat) : Int) n = some j := by
  unfold seqIndex?
  dsimp only
  have e : (if ((j : Nat) : Int) < 0 then (j : Int) + n else (j : Int)) = j := if_neg (by omega)
  rw [e, decide_eq_true (show (0 : Int) ≤ (j : Int) by omega), decide_eq_true (show ((j : Nat) : Int) < n by omega)]
  rfl
def rdF (room : Int) (lp : Addr) : List (Str × D) := [(Str.ofString "_room", .int room), (Str.ofString "_letters", .cel lp)]
theorem rd_room (room : Int) (lp : Addr) : (rdF room lp).lookup (Str.ofString "_room") = some (.int room) := by
  unfold rdF
  rw [List.lookup_cons, show (Str.ofString "_room" == Str.ofString "_room") = true from by decide +kernel]
theorem rd_letters (room : Int) (lp : Addr) : (rdF room lp).lookup (Str.ofString "_letters") = some (.cel lp) := by
  unfold rdF
  rw [List.lookup_cons, show (Str.ofString "_letters" == Str.ofString "_room") = false from by decide +kernel, List.lookup_cons, show (Str.ofString "_letters" == Str.ofString "_letters") = true from by decide +kernel]
theorem rd_no (room : Int) (lp : Addr) (m : Str) (h : ((m == Str.ofString "_room") || (m == Str.ofString "_letters")) = false) : (rdF room lp).lookup m = none := by
  unfold rdF
  obtain ⟨h1, h2⟩ := Bool.or_eq_false_iff.mp h
  rw [List.lookup_cons, h1, List.lookup_cons, h2]; rfl
section
variable {P : Program} {w : World} {K : PySem.W.Frag} {mg : Str → Option Value} {base : Heap}
/-- the road at p: it bears so many, these letters lie on it -/
def RdA (B : DD K mg) (M : Mem) (p lp : Addr) (room : Int) (L : List D) : Prop := M p = some (.ins B.C_Road (rdF room lp)) ∧ M lp = some (.lst L) ∧ lp ≠ p
theorem RdA.put {B : DD K mg} {M : Mem} {p lp : Addr} {room : Int} {L L2 : List D} (h : RdA B M p lp room L) : RdA B (setM M lp (.lst L2)) p lp room L2 := ⟨by rw [setM_ne (Ne.symm h.2.2)]; exact h.1, setM_same, h.2.2⟩
def F_rinit (B : DD K mg) : FD := fun ds M k => ∃ p room, ds = [.cel p, .int room] ∧ M p = some (.ins B.C_Road []) ∧ ∀ lp M', lp ≠ p → M lp = none → RdA B M' p lp room [] → (∀ a c, a ≠ p → M a = some c → M' a = some c) → k .non M'
theorem ok_rinit (T : Txt K mg) (B : DD K mg) : DFn P w K mg base 1 B.f_Road___init__ B.fd_Road___init__ p_Road___init__ (F_rinit B) := by
  refine Fun.okD B.d_Road___init__.F sc_Road___init__ (fun cdv A outer s H E hr => (dss_cons (ds_fld B.c_Road.cl B.n_Road__room (dv 0) (dv 1)) (dss_one (ds_fld B.c_Road.cl B.n_Road__letters (dv 0) (de_lstM da_nil))))) (fun ds M k h => ?_)
  obtain ⟨p, room, rfl, em, hk⟩ := h
  (refine ⟨rfl, ?_⟩; rw [show startD N_Road___init__ [.cel p, .int room] = [some (.cel p), some (.int room)] from rfl])
  refine seq_step ?_
  simp only [wFld, wPutF, wAugF, wMth, wMk, wSplit, wStarts, wListMD, wNext, wBreak, wContinue, wExpr, wRet, wRetN, wSet, wAsg, wPar, wPar3, wSub, wTst, wOp, wChain, wNotT, wAndV, wOrV, wNotV, wIf, wNil, wCons, wTup, wLst, wLstM, wCall, wCall0, wVar, wC, wLc, wLcM, wYes, wiL, wiT, wiS, wiR, wiEnT, wiEnL, wiZip, wSl, woNone, woSome, wMt, wJoin, wGet, wUn, DL.wTru, wDNew, fin, List.getElem?_cons_zero, List.getElem?_cons_succ, List.set_cons_zero, List.set_cons_succ]
  refine ⟨p, [], rfl, em, by decide, ?_⟩
  refine ⟨Nat.zero_le _, fun lp hlp => ?_⟩
  have ne : lp ≠ p := fun z => by rw [z, setM_same] at hlp; cases hlp
  have hM : M lp = none := by rw [setM_ne ne] at hlp; exact hlp
  have e1 : setF (Str.ofString "_room") (.int room) [] = [(Str.ofString "_room", .int room)] := rfl
  refine ⟨p, _, rfl, by rw [setM_ne (Ne.symm ne), setM_same], by rw [e1]; exact Nat.le_of_ble_eq_true rfl, ?_⟩
  have e2 : setF (Str.ofString "_letters") (.cel lp) (setF (Str.ofString "_room") (.int room) []) = rdF room lp := by
    rw [e1]
    unfold setF rdF
    rw [if_neg (by decide +kernel)]
    unfold setF
    rfl
  rw [e2]
  refine hk lp _ ne hM ⟨setM_same, by rw [setM_ne ne, setM_same], ne⟩ fun a c n e => ?_
  rw [setM_ne n, setM_ne (fun z => by rw [z, hM] at e; cases e), setM_ne n]
  exact e
def F_rletters (B : DD K mg) : FD := fun ds M k => ∃ p lp room L, ds = [.cel p] ∧ RdA B M p lp room L ∧ k (.tup L) M
theorem ok_rletters (T : Txt K mg) (B : DD K mg) : DFn P w K mg base 1 B.f_Road_letters B.fd_Road_letters p_Road_letters (F_rletters B) := by
  refine Fun.okD B.d_Road_letters.F sc_Road_letters (fun cdv A outer s H E hr => (dss_one (ds_ret (de_tuple T.b_tuple (de_fld B.c_Road.cl B.n_Road__letters (dv 0)))))) (fun ds M k h => ?_)
  obtain ⟨p, lp, room, L, rfl, hr, hk⟩ := h
  (refine ⟨rfl, ?_⟩; rw [show startD N_Road_letters [.cel p] = [some (.cel p)] from rfl])
  simp only [wFld, wPutF, wAugF, wMth, wMk, wSplit, wStarts, wListMD, wNext, wBreak, wContinue, wExpr, wRet, wRetN, wSet, wAsg, wPar, wPar3, wSub, wTst, wOp, wChain, wNotT, wAndV, wOrV, wNotV, wIf, wNil, wCons, wTup, wLst, wLstM, wCall, wCall0, wVar, wC, wLc, wLcM, wYes, wiL, wiT, wiS, wiR, wiEnT, wiEnL, wiZip, wSl, woNone, woSome, wMt, wJoin, wGet, wUn, DL.wTru, wDNew, fin, List.getElem?_cons_zero, List.getElem?_cons_succ, List.set_cons_zero, List.set_cons_succ]
  refine ⟨p, _, _, rfl, hr.1, rd_letters _ _, r_tupC hr.2.1 hk⟩
def F_rput (B : DD K mg) : FD := fun ds M k => ∃ p lp room L x, ds = [.cel p, x] ∧ RdA B M p lp room L ∧ L.length ≤ 1000 ∧ k (.bl (decide ((L.length : Int) < room))) (if (L.length : Int) < room then setM M lp (.lst (L ++ [x])) else M)
theorem ok_rput (T : Txt K mg) (B : DD K mg) : DFn P w K mg base 1 B.f_Road_put B.fd_Road_put p_Road_put (F_rput B) := by
  refine Fun.okD B.d_Road_put.F sc_Road_put (fun cdv A outer s H E hr => (dss_cons (ds_if (dt_cmpA c_ge (de_len T.b_len (de_fld B.c_Road.cl B.n_Road__letters (dv 0))) (de_fld B.c_Road.cl B.n_Road__room (dv 0))) (dss_one (ds_ret de_bl)) dss_nil) (dss_cons (ds_expr (de_append (de_fld B.c_Road.cl B.n_Road__letters (dv 0)) (dv 1))) (dss_one (ds_ret de_bl))))) (fun ds M k h => ?_)
  obtain ⟨p, lp, room, L, x, rfl, hr, hl, hk⟩ := h
  (refine ⟨rfl, ?_⟩; rw [show startD N_Road_put [.cel p, x] = [some (.cel p), some (x)] from rfl])
  refine seq_step ?_
  try unfold wIfS
  simp only [wFld, wPutF, wAugF, wMth, wMk, wSplit, wStarts, wListMD, wNext, wBreak, wContinue, wExpr, wRet, wRetN, wSet, wAsg, wPar, wPar3, wSub, wTst, wOp, wChain, wNotT, wAndV, wOrV, wNotV, wIf, wNil, wCons, wTup, wLst, wLstM, wCall, wCall0, wVar, wC, wLc, wLcM, wYes, wiL, wiT, wiS, wiR, wiEnT, wiEnL, wiZip, wSl, woNone, woSome, wMt, wJoin, wGet, wUn, DL.wTru, wDNew, fin, List.getElem?_cons_zero, List.getElem?_cons_succ, List.set_cons_zero, List.set_cons_succ]
  refine ⟨p, _, _, rfl, hr.1, rd_letters _ _, ?_⟩
  refine (show rdLen [.cel lp] M _ from ?_)
  refine r_lenC hr.2.1 ⟨p, _, _, rfl, hr.1, rd_room _ _, ?_⟩
  refine (show rdGe (.int (L.length : Nat)) (.int room) M _ from r_ordI ?_)
  by_cases q : (L.length : Int) < room
  · rw [decide_eq_false (show ¬ (room ≤ (L.length : Int)) by omega)]
    rw [decide_eq_true q, if_pos q] at hk
    refine ff ?_
    refine seq_step ?_
    simp only [wFld, wPutF, wAugF, wMth, wMk, wSplit, wStarts, wListMD, wNext, wBreak, wContinue, wExpr, wRet, wRetN, wSet, wAsg, wPar, wPar3, wSub, wTst, wOp, wChain, wNotT, wAndV, wOrV, wNotV, wIf, wNil, wCons, wTup, wLst, wLstM, wCall, wCall0, wVar, wC, wLc, wLcM, wYes, wiL, wiT, wiS, wiR, wiEnT, wiEnL, wiZip, wSl, woNone, woSome, wMt, wJoin, wGet, wUn, DL.wTru, wDNew, fin, List.getElem?_cons_zero, List.getElem?_cons_succ, List.set_cons_zero, List.set_cons_succ]
    refine ⟨p, _, _, rfl, hr.1, rd_letters _ _, ⟨_, hr.2.1⟩, ?_⟩
    refine (show rdAppend (.cel lp) [x] M _ from r_app hr.2.1 (by have := sizeLine_eq; omega) ?_)
    exact hk
  · rw [decide_eq_true (show room ≤ (L.length : Int) by omega)]
    rw [decide_eq_false q, if_neg q] at hk
    exact tt hk
def inL (L : List D) : D → Bool
  | .int i => decide (0 ≤ i) && decide (i < L.length)
  | _ => false
def F_rcheck (B : DD K mg) (C : Addr) : FX := fun ds M k kx => ∃ p lp room L i, ds = [.cel p, i] ∧ RdA B M p lp room L ∧ okR M i ∧ (inL L i = true → k .non M) ∧ (inL L i = false → kx C [(Str.ofString "i", i)] M)
theorem ok_rcheck (T : Txt K mg) (B : DD K mg) (Z : EE P K mg) : DFnX P w K mg base 3 B.f_Road__check B.fd_Road__check p_Road__check (F_rcheck B Z.e_NoLetter.C) := by
  have G_is_whole : DFn P w K mg base 1 B.f_is_whole B.fd_is_whole p_is_whole F_is_whole := ok_is_whole T B.d_is_whole
  refine Fun.okX B.d_Road__check.F sc_Road__check (fun cdv A outer s H E z zm kx hr ho hp => (dss_one (ds_if (dw_pt (dw_or (dt_not (dt_val (de_own B.d_is_whole G_is_whole hr (by first | decide | omega) (da_cons (dv 1) da_nil)))) (dw_or1 (dt_not (dt_chainA c_le c_lt de_int (dv 1) (de_len T.b_len (de_fld B.c_Road.cl B.n_Road__letters (dv 0)))))))) (dss_one (ds_raise Z.e_NoLetter.C Z.e_NoLetter ho hr (by first | decide | omega) (dv 1))) dss_nil))) (fun ds M k kx h => ?_)
  obtain ⟨p, lp, room, L, i, rfl, hr, oi, hy, hn⟩ := h
  (refine ⟨rfl, ?_⟩; rw [show startD N_Road__check [.cel p, i] = [some (.cel p), some (i)] from rfl])
  try unfold wIfS
  try unfold wOrT
  simp only [wCallX, wRaise, wTry, wFldX, goneK, defX, wFld, wPutF, wAugF, wMth, wMk, wSplit, wStarts, wListMD, wNext, wBreak, wContinue, wExpr, wRet, wRetN, wSet, wAsg, wPar, wPar3, wSub, wTst, wOp, wChain, wNotT, wAndV, wOrV, wNotV, wIf, wNil, wCons, wTup, wLst, wLstM, wCall, wCall0, wVar, wC, wLc, wLcM, wYes, wiL, wiT, wiS, wiR, wiEnT, wiEnL, wiZip, wSl, woNone, woSome, wMt, wJoin, wGet, wUn, DL.wTru, wDNew, fin, List.getElem?_cons_zero, List.getElem?_cons_succ, List.set_cons_zero, List.set_cons_succ]
  refine ⟨i, rfl, oi, ?_⟩
  have no : isInt i = false → inL L i = false := fun h => by
    cases i <;> first | rfl | cases h
  dsimp only
  cases qi : isInt i with
  | false => exact tt (hn (no qi))
  | true =>
    cases i with
    | int j =>
      refine ff (show rdLe (.int 0) (.int j) M _ from r_ordI ?_)
      have sp : inL L (.int j) = (decide (0 ≤ j) && decide (j < L.length)) := rfl
      rw [sp] at hy hn
      cases q0 : decide ((0 : Int) ≤ j) with
      | false =>
        rw [q0] at hn
        exact tt (hn rfl)
      | true =>
        rw [q0, Bool.true_and] at hy hn
        refine ⟨p, _, _, rfl, hr.1, rd_letters _ _, (show rdLen [.cel lp] M _ from r_lenC hr.2.1 (show rdLt (.int j) (.int (L.length : Nat)) M _ from r_ordI ?_))⟩
        cases q1 : decide (j < (L.length : Int)) with
        | false => exact tt (hn q1)
        | true => exact ff (hy q1)
    | _ => cases qi
theorem ix_in {L : List D} {i : Int} (h : inL L (.int i) = true) : ∃ (j : Nat) (x : D), i = (j : Int) ∧ j < L.length ∧ L[j]? = some x := by
  have h : (decide (0 ≤ i) && decide (i < (L.length : Int))) = true := h
  simp only [Bool.and_eq_true, decide_eq_true_eq] at h
  have hj : i.toNat < L.length := by omega
  exact ⟨i.toNat, L[i.toNat], by omega, hj, List.getElem?_eq_getElem hj⟩
theorem inL_int {L : List D} {d : D} (h : inL L d = true) : ∃ i, d = .int i := by
  cases d <;> first | exact ⟨_, rfl⟩ | cases h
def F_rbring (B : DD K mg) (C : Addr) : FX := fun ds M k kx => ∃ p lp room L i, ds = [.cel p, i] ∧ RdA B M p lp room L ∧ L.length ≤ 1000 ∧ okR M i ∧ (∀ (j : Nat) x, i = .int (j : Nat) → L[j]? = some x → k x (setM M lp (.lst (L.eraseIdx j)))) ∧ (inL L i = false → kx C [(Str.ofString "i", i)] M)
theorem ok_rbring (T : Txt K mg) (B : DD K mg) (Z : EE P K mg) : DFnX P w K mg base 4 B.f_Road_bring B.fd_Road_bring p_Road_bring (F_rbring B Z.e_NoLetter.C) := by
  have G_Road__check : DFnX P w K mg base 3 B.f_Road__check B.fd_Road__check p_Road__check (F_rcheck B Z.e_NoLetter.C) := ok_rcheck T B Z
  refine Fun.okX B.d_Road_bring.F sc_Road_bring (fun cdv A outer s H E z zm kx hr ho hp => (dss_cons (ds_expr (de_mthX B.c_Road.cl B.d_Road__check G_Road__check ho hr (by first | decide | omega) (dv 0) (da_cons (dv 1) da_nil))) (dss_one (ds_ret (de_popAt (de_fld B.c_Road.cl B.n_Road__letters (dv 0)) (dv 1)))))) (fun ds M k kx h => ?_)
  obtain ⟨p, lp, room, L, i, rfl, hr, hl, oi, hy, hn⟩ := h
  (refine ⟨rfl, ?_⟩; rw [show startD N_Road_bring [.cel p, i] = [some (.cel p), some (i)] from rfl])
  refine seq_step ?_
  simp only [wCallX, wRaise, wTry, wFldX, goneK, defX, wMthX, wDelL, wRaise0, wDef, wKwd, wFld, wPutF, wAugF, wMth, wMk, wSplit, wStarts, wListMD, wNext, wBreak, wContinue, wExpr, wRet, wRetN, wSet, wAsg, wPar, wPar3, wSub, wTst, wOp, wChain, wNotT, wAndV, wOrV, wNotV, wIf, wNil, wCons, wTup, wLst, wLstM, wCall, wCall0, wVar, wC, wLc, wLcM, wYes, wiL, wiT, wiS, wiR, wiEnT, wiEnL, wiZip, wSl, woNone, woSome, wMt, wJoin, wGet, wUn, DL.wTru, wDNew, fin, List.getElem?_cons_zero, List.getElem?_cons_succ, List.set_cons_zero, List.set_cons_succ]
  refine ⟨p, _, rfl, hr.1, rd_no _ _ _ (by decide +kernel), p, lp, room, L, i, rfl, hr, oi, fun q => ?_, fun q => hn q⟩
  obtain ⟨i, rfl⟩ := inL_int q
  obtain ⟨j, x, rfl, jl, jx⟩ := ix_in q
  try simp only [wFld, wPutF, wAugF, wMth, wMk, wSplit, wStarts, wListMD, wNext, wBreak, wContinue, wExpr, wRet, wRetN, wSet, wAsg, wPar, wPar3, wSub, wTst, wOp, wChain, wNotT, wAndV, wOrV, wNotV, wIf, wNil, wCons, wTup, wLst, wLstM, wCall, wCall0, wVar, wC, wLc, wLcM, wYes, wiL, wiT, wiS, wiR, wiEnT, wiEnL, wiZip, wSl, woNone, woSome, wMt, wJoin, wGet, wUn, DL.wTru, wDNew, fin, List.getElem?_cons_zero, List.getElem?_cons_succ, List.set_cons_zero, List.set_cons_succ]
  refine ⟨p, _, _, rfl, hr.1, rd_letters _ _, ⟨_, hr.2.1⟩, ?_⟩
  unfold rdPopAt
  simp only [hr.2.1]
  refine ⟨⟨by omega, by omega⟩, ?_⟩
  rw [seqIx9 jl]
  simp only [jx]
  exact hy j x rfl jx
def F_rlose (B : DD K mg) (C : Addr) : FX := fun ds M k kx => ∃ p lp room L i, ds = [.cel p, i] ∧ RdA B M p lp room L ∧ L.length ≤ 1000 ∧ okR M i ∧ (∀ (j : Nat) x, i = .int (j : Nat) → L[j]? = some x → k .non (setM M lp (.lst (L.eraseIdx j)))) ∧ (inL L i = false → kx C [(Str.ofString "i", i)] M)
theorem ok_rlose (T : Txt K mg) (B : DD K mg) (Z : EE P K mg) : DFnX P w K mg base 4 B.f_Road_lose B.fd_Road_lose p_Road_lose (F_rlose B Z.e_NoLetter.C) := by
  have G_Road__check : DFnX P w K mg base 3 B.f_Road__check B.fd_Road__check p_Road__check (F_rcheck B Z.e_NoLetter.C) := ok_rcheck T B Z
  refine Fun.okX B.d_Road_lose.F sc_Road_lose (fun cdv A outer s H E z zm kx hr ho hp => (dss_cons (ds_expr (de_mthX B.c_Road.cl B.d_Road__check G_Road__check ho hr (by first | decide | omega) (dv 0) (da_cons (dv 1) da_nil))) (dss_one (ds_delL (de_fld B.c_Road.cl B.n_Road__letters (dv 0)) (dv 1))))) (fun ds M k kx h => ?_)
  obtain ⟨p, lp, room, L, i, rfl, hr, hl, oi, hy, hn⟩ := h
  (refine ⟨rfl, ?_⟩; rw [show startD N_Road_lose [.cel p, i] = [some (.cel p), some (i)] from rfl])
  refine seq_step ?_
  simp only [wCallX, wRaise, wTry, wFldX, goneK, defX, wMthX, wDelL, wRaise0, wDef, wKwd, wFld, wPutF, wAugF, wMth, wMk, wSplit, wStarts, wListMD, wNext, wBreak, wContinue, wExpr, wRet, wRetN, wSet, wAsg, wPar, wPar3, wSub, wTst, wOp, wChain, wNotT, wAndV, wOrV, wNotV, wIf, wNil, wCons, wTup, wLst, wLstM, wCall, wCall0, wVar, wC, wLc, wLcM, wYes, wiL, wiT, wiS, wiR, wiEnT, wiEnL, wiZip, wSl, woNone, woSome, wMt, wJoin, wGet, wUn, DL.wTru, wDNew, fin, List.getElem?_cons_zero, List.getElem?_cons_succ, List.set_cons_zero, List.set_cons_succ]
  refine ⟨p, _, rfl, hr.1, rd_no _ _ _ (by decide +kernel), p, lp, room, L, i, rfl, hr, oi, fun q => ?_, fun q => hn q⟩
  obtain ⟨i, rfl⟩ := inL_int q
  obtain ⟨j, x, rfl, jl, jx⟩ := ix_in q
  try simp only [wMthX, wDelL, wRaise0, wDef, wKwd, wFld, wPutF, wAugF, wMth, wMk, wSplit, wStarts, wListMD, wNext, wBreak, wContinue, wExpr, wRet, wRetN, wSet, wAsg, wPar, wPar3, wSub, wTst, wOp, wChain, wNotT, wAndV, wOrV, wNotV, wIf, wNil, wCons, wTup, wLst, wLstM, wCall, wCall0, wVar, wC, wLc, wLcM, wYes, wiL, wiT, wiS, wiR, wiEnT, wiEnL, wiZip, wSl, woNone, woSome, wMt, wJoin, wGet, wUn, DL.wTru, wDNew, fin, List.getElem?_cons_zero, List.getElem?_cons_succ, List.set_cons_zero, List.set_cons_succ]
  exact ⟨p, _, _, rfl, hr.1, rd_letters _ _, lp, L, (j : Int), j, rfl, rfl, hr.2.1, by omega, by omega, seqIx9 jl, hy j x rfl jx⟩
def F_rdouble (B : DD K mg) (C F : Addr) : FX := fun ds M k kx => ∃ p lp room L i, ds = [.cel p, i] ∧ RdA B M p lp room L ∧ L.length ≤ 1000 ∧ okR M i ∧
  (∀ (j : Nat) x, i = .int (j : Nat) → L[j]? = some x → (L.length : Int) < room → k .non (setM M lp (.lst (L ++ [x])))) ∧ (inL L i = true → ¬ (L.length : Int) < room → kx F [] M) ∧ (inL L i = false → kx C [(Str.ofString "i", i)] M)
theorem ok_rdouble (T : Txt K mg) (B : DD K mg) (Z : EE P K mg) : DFnX P w K mg base 4 B.f_Road_double B.fd_Road_double p_Road_double (F_rdouble B Z.e_NoLetter.C Z.n_Full.C) := by
  have G_Road__check : DFnX P w K mg base 3 B.f_Road__check B.fd_Road__check p_Road__check (F_rcheck B Z.e_NoLetter.C) := ok_rcheck T B Z
  have G_Road_put : DFn P w K mg base 1 B.f_Road_put B.fd_Road_put p_Road_put (F_rput B) := ok_rput T B
  refine Fun.okX B.d_Road_double.F sc_Road_double (fun cdv A outer s H E z zm kx hr ho hp => (dss_cons (ds_expr (de_mthX B.c_Road.cl B.d_Road__check G_Road__check ho hr (by first | decide | omega) (dv 0) (da_cons (dv 1) da_nil))) (dss_one (ds_if (dt_not (dt_val (de_mth B.c_Road.cl B.d_Road_put G_Road_put hr (by first | decide | omega) (dv 0) (da_cons (de_ix (de_fld B.c_Road.cl B.n_Road__letters (dv 0)) (dv 1)) da_nil)))) (dss_one (ds_raise0 Z.n_Full.C Z.n_Full ho)) dss_nil)))) (fun ds M k kx h => ?_)
  obtain ⟨p, lp, room, L, i, rfl, hr, hl, oi, hy, hf, hn⟩ := h
  (refine ⟨rfl, ?_⟩; rw [show startD N_Road_double [.cel p, i] = [some (.cel p), some (i)] from rfl])
  refine seq_step ?_
  simp only [wCallX, wRaise, wTry, wFldX, goneK, defX, wMthX, wDelL, wRaise0, wDef, wKwd, wFld, wPutF, wAugF, wMth, wMk, wSplit, wStarts, wListMD, wNext, wBreak, wContinue, wExpr, wRet, wRetN, wSet, wAsg, wPar, wPar3, wSub, wTst, wOp, wChain, wNotT, wAndV, wOrV, wNotV, wIf, wNil, wCons, wTup, wLst, wLstM, wCall, wCall0, wVar, wC, wLc, wLcM, wYes, wiL, wiT, wiS, wiR, wiEnT, wiEnL, wiZip, wSl, woNone, woSome, wMt, wJoin, wGet, wUn, DL.wTru, wDNew, fin, List.getElem?_cons_zero, List.getElem?_cons_succ, List.set_cons_zero, List.set_cons_succ]
  refine ⟨p, _, rfl, hr.1, rd_no _ _ _ (by decide +kernel), p, lp, room, L, i, rfl, hr, oi, fun q => ?_, fun q => hn q⟩
  have q0 := q
  obtain ⟨i, rfl⟩ := inL_int q
  obtain ⟨j, x, rfl, jl, jx⟩ := ix_in q
  try unfold wIfS
  try simp only [wMthX, wDelL, wRaise0, wDef, wKwd, wCallX, wRaise, wTry, wFldX, goneK, defX, wFld, wPutF, wAugF, wMth, wMk, wSplit, wStarts, wListMD, wNext, wBreak, wContinue, wExpr, wRet, wRetN, wSet, wAsg, wPar, wPar3, wSub, wTst, wOp, wChain, wNotT, wAndV, wOrV, wNotV, wIf, wNil, wCons, wTup, wLst, wLstM, wCall, wCall0, wVar, wC, wLc, wLcM, wYes, wiL, wiT, wiS, wiR, wiEnT, wiEnL, wiZip, wSl, woNone, woSome, wMt, wJoin, wGet, wUn, DL.wTru, wDNew, fin, List.getElem?_cons_zero, List.getElem?_cons_succ, List.set_cons_zero, List.set_cons_succ]
  refine ⟨p, _, rfl, hr.1, rd_no _ _ _ (by decide +kernel), p, _, _, rfl, hr.1, rd_letters _ _, ix_cel hr.2.1 (atI_nat jx) ?_⟩
  refine ⟨p, lp, room, L, x, rfl, hr, hl, ?_⟩
  by_cases z : (L.length : Int) < room
  · rw [decide_eq_true z, if_pos z]
    exact ff (hy j x rfl jx z)
  · rw [decide_eq_false z, if_neg z]
    exact tt (hf q0 z)
end
end K04

set_option autoImplicit false
set_option maxRecDepth 100000
set_option maxHeartbeats 4000000
namespace K04
open PySem L2 DL
/-! letters, and things in the place of a number -/
/-- a thing without dicts, looked at -/
def tgB (N c : Nat) : Nat → Nat → D → Bool
  | _, _, .non => true
  | _, _, .bl _ => true
  | _, a, .int i => decide (i.natAbs < N) && decide (41 ≤ a)
  | _, a, .str s => plain s && decide (s.length ≤ a)
  | b + 1, a, .tup ds => decide (ds.length ≤ c) && (decide (ds.length * (a / ds.length - 1 + 1) ≤ a) && ds.all fun d => tgB N c b (a / ds.length - 1) d)
  | b + 1, a, .lst ds => decide (ds.length * (a / ds.length - 1 + 1) ≤ a) && ds.all fun d => tgB N c b (a / ds.length - 1) d
  | _, _, _ => false
theorem tgB_ok {N c : Nat} {M : Mem} : ∀ (b a : Nat) (d : D), tgB N c b a d = true → Tg N M a b c d
  | b, a, .non, _ => .non
  | b, a, .bl _, _ => .bl _
  | b, a, .int i, h => by
    unfold tgB at h
    simp only [Bool.and_eq_true, decide_eq_true_eq] at h
    exact .int h.1 h.2
  | b, a, .str s, h => by
    unfold tgB at h
    simp only [Bool.and_eq_true, decide_eq_true_eq] at h
    exact .str h.1 h.2
  | 0, a, .tup ds, h => by unfold tgB at h; cases h
  | 0, a, .lst ds, h => by unfold tgB at h; cases h
  | b + 1, a, .tup ds, h => by
    unfold tgB at h
    simp only [Bool.and_eq_true, decide_eq_true_eq, List.all_eq_true] at h
    exact .tup ((Tgs.all fun d hd => tgB_ok b _ d (h.2.2 d hd)).le h.2.1 (Nat.le_refl _) (Nat.le_refl _)) h.1
  | b + 1, a, .lst ds, h => by
    unfold tgB at h
    simp only [Bool.and_eq_true, decide_eq_true_eq, List.all_eq_true] at h
    exact .lst ((Tgs.all fun d hd => tgB_ok b _ d (h.2 d hd)).le h.1 (Nat.le_refl _) (Nat.le_refl _))
  | b, a, .scr _, h => by cases b <;> (unfold tgB at h; cases h)
  | b, a, .cel _, h => by cases b <;> (unfold tgB at h; cases h)
  | b, a, .ty _, h => by cases b <;> (unfold tgB at h; cases h)
  | b, a, .ftp _, h => by cases b <;> (unfold tgB at h; cases h)
theorem Px.growD {h l : Addr} {n : Nat} {M M' : Mem} (e : Px h l M M') (q : Pt M h l n) : GrowD M M' := fun a kvs z => by
  obtain ⟨xs, b, c, z1, z2, _⟩ := q
  exact e a _ (fun y => by rw [y, z1] at z; cases z) (fun y => by rw [y, z2] at z; cases z) z
mutual
theorem sh_okR {M : Mem} : ∀ {d : D} {p : PyData}, Sh M d p → p.weight ≤ 1000 → okR M d
  | _, _, .non, _ => by unfold K04.okR; trivial
  | _, _, .bl _, _ => by unfold K04.okR; trivial
  | _, _, .int _, _ => by unfold K04.okR; trivial
  | _, _, .str s, h => by
    unfold PyData.weight at h
    unfold K04.okR
    have : s.cps.size = s.length := rfl
    omega
  | _, _, .tup hs, h => by
    unfold PyData.weight at h
    unfold K04.okR
    exact ⟨Nat.le_trans (sh_len hs) h, shs_okR hs h⟩
  | _, _, .lst _, _ => by unfold K04.okR; trivial
  | _, _, .bare e, _ => by unfold K04.okR; rw [tyD_cel, e]; rfl
  | _, _, .one e _, _ => by unfold K04.okR; rw [tyD_cel, e]; rfl
theorem shs_okR {M : Mem} : ∀ {d : List D} {p : List PyData}, Shs M d p → PyData.weightAll p ≤ 1000 → okRs M d
  | _, _, .nil, _ => by unfold K04.okRs; trivial
  | _, _, .cons h t, w => by
    unfold PyData.weightAll at w
    unfold K04.okRs
    exact ⟨sh_okR h (by omega), shs_okR t (by omega)⟩
theorem sh_len {M : Mem} : ∀ {d : List D} {p : List PyData}, Shs M d p → d.length ≤ PyData.weightAll p
  | _, _, .nil => Nat.zero_le _
  | _, _, .cons h t => by
    unfold PyData.weightAll
    rw [List.length_cons]
    have := sh_len t
    omega
end
/-- a thing, and how it is shown -/
def ThA (M : Mem) (a b : Nat) (d : D) : Prop := ∃ p, Sh M d p ∧ p.showable = true ∧ p.leavesShort 41 = true ∧ p.weight ≤ a ∧ p.depth ≤ b
theorem ThA.ok {M : Mem} {a b : Nat} {d : D} (h : ThA M a b d) (ha : a ≤ 1000) : okR M d := by
  obtain ⟨p, s, _, _, h3, _⟩ := h
  exact sh_okR s (by omega)
theorem ThA.up {M M' : Mem} {a b a' b' : Nat} {d : D} (h : ThA M a b d) (g : GrowD M M') (ha : a ≤ a') (hb : b ≤ b') : ThA M' a' b' d := by
  obtain ⟨p, s, h1, h2, h3, h4⟩ := h
  exact ⟨p, s.mono g, h1, h2, by omega, by omega⟩
theorem ThA.tup1 {M : Mem} {a b : Nat} {d : D} (h : ThA M a b d) : ThA M (a + 1) (b + 1) (.tup [d]) := by
  obtain ⟨p, s, h1, h2, h3, h4⟩ := h
  refine ⟨_, .tup (.cons s .nil), ?_, ?_, ?_, ?_⟩
  · simp only [PyData.showable, PyData.showableAll, h1, Bool.and_self]
  · simp only [PyData.leavesShort, PyData.leavesShortAll, h2, Bool.and_self]
  · simp only [PyData.weight, PyData.weightAll]; omega
  · simp only [PyData.depth, PyData.depthAll]; omega
theorem ThA.lst1 {M : Mem} {a b : Nat} {d : D} (h : ThA M a b d) : ThA M (a + 1) (b + 1) (.lst [d]) := by
  obtain ⟨p, s, h1, h2, h3, h4⟩ := h
  refine ⟨_, .lst (.cons s .nil), ?_, ?_, ?_, ?_⟩
  · simp only [PyData.showable, PyData.showableAll, h1, Bool.and_self]
  · simp only [PyData.leavesShort, PyData.leavesShortAll, h2, Bool.and_self]
  · simp only [PyData.weight, PyData.weightAll]; omega
  · simp only [PyData.depth, PyData.depthAll]; omega
/-- the text that it is shown as -/
def TxA (M : Mem) (d : D) (t : Str) : Prop := t.length ≤ 100000 ∧ ∀ (M' : Mem) (k : KD), GrowD M M' → k (.str t) M' → rdReprS [d] M' k
theorem ThA.text {M : Mem} {a b : Nat} {d : D} (h : ThA M a b d) (ha : a ≤ 2000) (hb : b ≤ 64) : ∃ t, TxA M d t := by
  obtain ⟨p, s, h1, h2, h3, h4⟩ := h
  have sl := PyData.shown_le 41 (by decide) _ h2
  have wl : (41 + 2) * p.weight ≤ (41 + 2) * 2000 := Nat.mul_le_mul_left _ (by omega)
  have hz := sizeLine_eq
  exact ⟨p.shown, by omega, fun M' k g hk => ⟨d, p, rfl, s.mono g, h1, by omega, by omega, hk⟩⟩
theorem TxA.grow {M M' : Mem} {d : D} {t : Str} (h : TxA M d t) (g : GrowD M M') : TxA M' d t := ⟨h.1, fun M2 k g2 hk => h.2 M2 k (g.trans g2) hk⟩
theorem rng_len (n : Nat) : (rng 0 n).length = n := by unfold rng; simp
/-- what a thing of the pool is, many told -/
def poolA (m : Int) : List D := [.int m, .int (-1), .int (m + 7), .bl true, .bl false, .non, .str (Str.ofString "0"), .str (Str.ofString ""), .tup [], .lst [.int 0], .tup [.int 0], .int (10 ^ (30 : Int).toNat)]
theorem thA_int {M : Mem} {i : Int} (h : i.natAbs < 10 ^ 12) : ThA M 41 0 (.int i) := by
  have lg := log_small h
  refine ⟨_, .int i, by unfold PyData.showable; exact decide_eq_true (by omega), by unfold PyData.leavesShort; exact decide_eq_true (Nat.le_trans (PyData.shown_int_le h) (by decide)), ?_, by simp [PyData.depth]⟩
  unfold PyData.weight
  split <;> omega
theorem poolA_ok {M : Mem} {m : Int} (h0 : 0 ≤ m) (h1 : m ≤ 1000) {d : D} (h : d ∈ poolA m) : ThA M 200 1 d := by
  have cst : ∀ d p, Sh M d p → (p.showable && (p.leavesShort 41 && (decide (p.weight ≤ 200) && decide (p.depth ≤ 1)))) = true → ThA M 200 1 d := fun d p s q => by
    simp only [Bool.and_eq_true, decide_eq_true_eq] at q
    exact ⟨p, s, q.1, q.2.1, q.2.2.1, q.2.2.2⟩
  simp only [poolA, List.mem_cons, List.not_mem_nil, or_false] at h
  rcases h with rfl | rfl | rfl | rfl | rfl | rfl | rfl | rfl | rfl | rfl | rfl | rfl
  · exact (thA_int (by omega)).up growD_refl (by omega) (by omega)
  · exact (thA_int (by decide)).up growD_refl (by omega) (by omega)
  · exact (thA_int (by omega)).up growD_refl (by omega) (by omega)
  · exact cst _ _ (.bl _) (by decide +kernel)
  · exact cst _ _ (.bl _) (by decide +kernel)
  · exact cst _ _ .non (by decide +kernel)
  · exact cst _ _ (.str _) (by decide +kernel)
  · exact cst _ _ (.str _) (by decide +kernel)
  · exact cst _ _ (.tup .nil) (by decide +kernel)
  · exact cst _ _ (.lst (.cons (.int _) .nil)) (by decide +kernel)
  · exact cst _ _ (.tup (.cons (.int _) .nil)) (by decide +kernel)
  · exact cst _ _ (.int _) (by decide +kernel)
theorem fits_all {N : Nat} {M : Mem} : ∀ {ds : List D}, (∀ d ∈ ds, fit N M d = true) → DL.fits N M ds = true
  | [], _ => by unfold DL.fits; rfl
  | d :: ds, h => by unfold DL.fits; rw [h d List.mem_cons_self, fits_all fun x hx => h x (List.mem_cons_of_mem _ hx)]; rfl
theorem heavies_all {n : Nat} : ∀ {ds : List D}, (∀ d ∈ ds, heavy d ≤ n) → heavies ds ≤ ds.length * (n + 1)
  | [], _ => by unfold heavies; omega
  | d :: ds, h => by
    unfold heavies
    have := h d List.mem_cons_self
    have := heavies_all (n := n) (ds := ds) fun x hx => h x (List.mem_cons_of_mem _ hx)
    rw [List.length_cons, Nat.succ_mul]
    omega
theorem fars_all {n : Nat} : ∀ {ds : List D}, (∀ d ∈ ds, far d ≤ n) → fars ds ≤ n
  | [], _ => by unfold fars; omega
  | d :: ds, h => by
    unfold fars
    have := h d List.mem_cons_self
    have := fars_all (n := n) (ds := ds) fun x hx => h x (List.mem_cons_of_mem _ hx)
    omega
theorem tgB_fit {N c : Nat} {M : Mem} : ∀ (b a : Nat) (d : D), tgB N c b a d = true → fit N M d = true ∧ heavy d ≤ a ∧ far d ≤ b
  | b, a, .non, _ => ⟨by unfold fit; rfl, by unfold heavy; omega, by unfold far; omega⟩
  | b, a, .bl _, _ => ⟨by unfold fit; rfl, by unfold heavy; omega, by unfold far; omega⟩
  | b, a, .int i, h => by
    unfold tgB at h
    simp only [Bool.and_eq_true, decide_eq_true_eq] at h
    exact ⟨by unfold fit; exact decide_eq_true h.1, by unfold heavy; omega, by unfold far; omega⟩
  | b, a, .str s, h => by
    unfold tgB at h
    simp only [Bool.and_eq_true, decide_eq_true_eq] at h
    exact ⟨by unfold fit; exact h.1, by unfold heavy; omega, by unfold far; omega⟩
  | 0, a, .tup ds, h => by unfold tgB at h; cases h
  | 0, a, .lst ds, h => by unfold tgB at h; cases h
  | b + 1, a, .tup ds, h => by
    unfold tgB at h
    simp only [Bool.and_eq_true, decide_eq_true_eq, List.all_eq_true] at h
    have q := fun d hd => tgB_fit (M := M) b _ d (h.2.2 d hd)
    have h1 := heavies_all fun d hd => (q d hd).2.1
    have h2 := fars_all fun d hd => (q d hd).2.2
    exact ⟨by unfold fit; exact fits_all fun d hd => (q d hd).1, by unfold heavy; omega, by unfold far; omega⟩
  | b + 1, a, .lst ds, h => by
    unfold tgB at h
    simp only [Bool.and_eq_true, decide_eq_true_eq, List.all_eq_true] at h
    have q := fun d hd => tgB_fit (M := M) b _ d (h.2 d hd)
    have h1 := heavies_all fun d hd => (q d hd).2.1
    have h2 := fars_all fun d hd => (q d hd).2.2
    exact ⟨by unfold fit; exact fits_all fun d hd => (q d hd).1, by unfold heavy; omega, by unfold far; omega⟩
  | b, a, .scr _, h => by cases b <;> (unfold tgB at h; cases h)
  | b, a, .cel _, h => by cases b <;> (unfold tgB at h; cases h)
  | b, a, .ty _, h => by cases b <;> (unfold tgB at h; cases h)
  | b, a, .ftp _, h => by cases b <;> (unfold tgB at h; cases h)
/-- a letter -/
abbrev LtA (x : D) : Prop := tgB 1000 10 8 2000 x = true
theorem LtA.text {M : Mem} {x : D} (h : LtA x) : ∃ t, TxA M x t := by
  obtain ⟨p, s, q1, q2, q3, q4⟩ := (tgB_ok (M := M) 8 2000 x h).sh (by decide)
  have sl := PyData.shown_le 13 (by decide) _ q2
  have wl : (13 + 2) * p.weight ≤ (13 + 2) * 2000 := Nat.mul_le_mul_left _ q3
  have hz := sizeLine_eq
  exact ⟨p.shown, by omega, fun M' k g hk => ⟨x, p, rfl, s.mono g, q1, by omega, by omega, hk⟩⟩
section
variable {P : Program} {w : World} {K : PySem.W.Frag} {mg : Str → Option Value} {base : Heap}
def F_pletter : FD := fun ds M k => ∃ h l n, ds = [.cel h] ∧ Pt M h l n ∧ n + 3 ≤ 1000000000 ∧ ∀ d M', LtA d → Pt M' h l (n + 2) → Px h l M M' → k d M'
theorem ok_pletter (T : Txt K mg) (B : DD K mg) : DFn P w K mg base 3 B.f_law_letter B.fd_law_letter p_law_letter F_pletter := by
  have G_law_pick : DFn P w K mg base 1 B.f_law_pick B.fd_law_pick p_law_pick F_ppick := ok_ppick T B
  have G_law_of : DFn P w K mg base 2 B.f_law_of B.fd_law_of p_law_of F_pof := ok_pof T B
  refine Fun.okD B.d_law_letter.F sc_law_letter (fun cdv A outer s H E hr => (dss_cons (ds_set (i := 1) sc_law_letter.nd (de_lst (da_cons (de_tup (da_cons de_str (da_cons de_int (da_cons de_int (da_cons (de_neg de_int) da_nil))))) (da_cons (de_tup (da_cons de_str (da_cons de_int (da_cons de_int (da_cons de_int da_nil))))) (da_cons (de_tup (da_cons de_str (da_cons de_int (da_cons de_int (da_cons de_int (da_cons (de_tup (da_cons (de_tup (da_cons (de_tup (da_cons de_int (da_cons de_str da_nil))) da_nil)) da_nil)) da_nil)))))) (da_cons (de_tup (da_cons de_str (da_cons de_int (da_cons de_int (da_cons de_int (da_cons (de_tup (da_cons (de_tup da_nil) da_nil)) da_nil)))))) da_nil)))))) (dss_one (ds_ret (de_own B.d_law_of G_law_of hr (by first | decide | omega) (da_cons (dv 0) (da_cons (de_add (dv 1) (de_lst (da_cons (de_tup (da_cons de_str (da_cons de_int (da_cons de_int (da_cons de_int (da_cons de_int (da_cons (de_tup (da_cons (de_tup (da_cons (de_tup (da_cons (de_tup (da_cons de_int (da_cons de_str da_nil))) da_nil)) (da_cons (de_tup da_nil) da_nil))) da_nil)) da_nil))))))) (da_cons (de_tup (da_cons de_str (da_cons de_int (da_cons de_int (da_cons (de_own B.d_law_pick G_law_pick hr (by first | decide | omega) (da_cons (dv 0) (da_cons de_int da_nil))) da_nil))))) da_nil)))) da_nil))))))) (fun ds M k h => ?_)
  obtain ⟨h, l, n, rfl, hh, hn, hk⟩ := h
  (refine ⟨rfl, ?_⟩; rw [show startD N_law_letter [.cel h] = [some (.cel h), none] from rfl])
  refine seq_step ?_
  simp only [wNext, wBreak, wContinue, wExpr, wRet, wRetN, wSet, wAsg, wPar, wPar3, wSub, wTst, wOp, wChain, wNotT, wAndV, wOrV, wNotV, wIf, wNil, wCons, wTup, wLst, wLstM, wCall, wCall0, wVar, wC, wLc, wLcM, wYes, wiL, wiT, wiS, wiR, wiEnT, wiEnL, wiZip, wSl, woNone, woSome, wMt, wJoin, wGet, wUn, DL.wTru, wDNew, fin, List.getElem?_cons_zero, List.getElem?_cons_succ, List.set_cons_zero, List.set_cons_succ]
  repeat refine ⟨Nat.le_of_ble_eq_true rfl, ?_⟩
  refine ⟨h, l, n, _, rfl, hh, by omega, by decide, by decide, fun r M1 r0 r1 h1 e1 => ?_⟩
  repeat refine ⟨Nat.le_of_ble_eq_true rfl, ?_⟩
  refine ⟨h, l, n + 1, _, _, rfl, h1, by omega, .inr rfl, by simp, by simp, fun d M2 hd h2 e2 => ?_⟩
  refine hk d M2 ?_ (h2.up (by omega)) (e1.trans e2)
  simp only [List.cons_append, List.nil_append, List.mem_cons, List.not_mem_nil, or_false] at hd
  rcases hd with rfl | rfl | rfl | rfl | rfl | rfl
  · exact (show tgB 1000 10 8 2000 _ = true by decide +kernel)
  · exact (show tgB 1000 10 8 2000 _ = true by decide +kernel)
  · exact (show tgB 1000 10 8 2000 _ = true by decide +kernel)
  · exact (show tgB 1000 10 8 2000 _ = true by decide +kernel)
  · exact (show tgB 1000 10 8 2000 _ = true by decide +kernel)
  · have hr : decide (r.natAbs < 1000) = true := decide_eq_true (by omega)
    have e1 : tgB 1000 10 7 (2000 / 4 - 1) (.int r) = true := by unfold tgB; rw [hr]; rfl
    have e2 : tgB 1000 10 7 (2000 / 4 - 1) (.str (Str.ofString "have")) = true := by decide +kernel
    have e3 : tgB 1000 10 7 (2000 / 4 - 1) (.int 0) = true := by decide +kernel
    show tgB 1000 10 (7 + 1) 2000 (.tup [.str (Str.ofString "have"), .int 0, .int 0, .int r]) = true
    unfold tgB
    simp only [List.length_cons, List.length_nil, List.all_cons, List.all_nil, e1, e2, e3]
    simp
def F_pthing : FD := fun ds M k => ∃ h l n, ∃ m : Nat, ds = [.cel h, .int (m : Nat)] ∧ Pt M h l n ∧ n + 30 ≤ 1000000000 ∧ m ≤ 1000 ∧ ∀ d M', ThA M' 300 25 d → Pt M' h l (n + 24) → Px h l M M' → k d M'
theorem ok_pthing (T : Txt K mg) (B : DD K mg) : DFn P w K mg base 3 B.f_law_thing B.fd_law_thing p_law_thing F_pthing := by
  have G_law_pick : DFn P w K mg base 1 B.f_law_pick B.fd_law_pick p_law_pick F_ppick := ok_ppick T B
  have G_law_of : DFn P w K mg base 2 B.f_law_of B.fd_law_of p_law_of F_pof := ok_pof T B
  refine Fun.okD B.d_law_thing.F sc_law_thing (fun cdv A outer s H E hr => (dss_cons (ds_set (i := 2) sc_law_thing.nd (de_own B.d_law_pick G_law_pick hr (by first | decide | omega) (da_cons (dv 0) (da_cons de_int da_nil)))) (dss_cons (ds_if (dw_pt (dw_and (dt_cmpA c_lt (dv 2) de_int) (dw_and1 (dt_cmpA c_gt (dv 1) de_int)))) (dss_one (ds_ret (de_own B.d_law_of G_law_of hr (by first | decide | omega) (da_cons (dv 0) (da_cons (de_lst (da_cons de_int (da_cons (de_sub (dv 1) de_int) (da_cons (de_own B.d_law_pick G_law_pick hr (by first | decide | omega) (da_cons (dv 0) (da_cons (dv 1) da_nil))) da_nil)))) da_nil))))) dss_nil) (dss_cons (ds_set (i := 3) sc_law_thing.nd (de_own B.d_law_of G_law_of hr (by first | decide | omega) (da_cons (dv 0) (da_cons (de_lst (da_cons (dv 1) (da_cons (de_neg de_int) (da_cons (de_add (dv 1) de_int) (da_cons de_bl (da_cons de_bl (da_cons de_non (da_cons de_str (da_cons de_str (da_cons (de_tup da_nil) (da_cons (de_lst (da_cons de_int da_nil)) (da_cons (de_tup (da_cons de_int da_nil)) (da_cons de_dnew (da_cons (de_pow de_int de_int) da_nil)))))))))))))) da_nil)))) (dss_cons (ds_for rfl (di_range T.b_range (da_cons (de_mul (de_own B.d_law_of G_law_of hr (by first | decide | omega) (da_cons (dv 0) (da_cons (de_lst (da_cons de_int (da_cons de_int (da_cons de_int (da_cons de_int (da_cons de_int da_nil)))))) da_nil))) (de_intof T.b_int (de_cmpA (c_eq hr) (dv 2) de_int))) da_nil)) (dg_name (i := 4) sc_law_thing.nd) (dss_one (ds_set (i := 3) sc_law_thing.nd (de_own B.d_law_of G_law_of hr (by first | decide | omega) (da_cons (dv 0) (da_cons (de_lst (da_cons (de_tup (da_cons (dv 3) da_nil)) (da_cons (de_lst (da_cons (dv 3) da_nil)) da_nil))) da_nil)))))) (dss_one (ds_ret (dv 3)))))))) (fun ds M k h => ?_)
  obtain ⟨h, l, n, m, rfl, hh, hn, hm, hk⟩ := h
  (refine ⟨rfl, ?_⟩; rw [show startD N_law_thing [.cel h, .int (m : Nat)] = [some (.cel h), some (.int (m : Nat)), none, none, none] from rfl])
  have hz := sizeLine_eq
  refine seq_step ?_
  simp only [wNext, wBreak, wContinue, wExpr, wRet, wRetN, wSet, wAsg, wPar, wPar3, wSub, wTst, wOp, wChain, wNotT, wAndV, wOrV, wNotV, wIf, wNil, wCons, wTup, wLst, wLstM, wCall, wCall0, wVar, wC, wLc, wLcM, wYes, wiL, wiT, wiS, wiR, wiEnT, wiEnL, wiZip, wSl, woNone, woSome, wMt, wJoin, wGet, wUn, DL.wTru, wDNew, fin, List.getElem?_cons_zero, List.getElem?_cons_succ, List.set_cons_zero, List.set_cons_succ]
  refine ⟨h, l, n, _, rfl, hh, by omega, by decide, by decide, fun way M1 w0 w1 h1 e1 => ?_⟩
  refine seq_join (fun Γ' M' => Γ' = [some (.cel h), some (.int (m : Nat)), some (.int way), none, none] ∧ M' = M1) ?_ ?_
  rotate_left
  · intro nx hnx
    try unfold wIfS
    try unfold wAndT
    try simp only [wNext, wBreak, wContinue, wExpr, wRet, wRetN, wSet, wAsg, wPar, wPar3, wSub, wTst, wOp, wChain, wNotT, wAndV, wOrV, wNotV, wIf, wNil, wCons, wTup, wLst, wLstM, wCall, wCall0, wVar, wC, wLc, wLcM, wYes, wiL, wiT, wiS, wiR, wiEnT, wiEnL, wiZip, wSl, woNone, woSome, wMt, wJoin, wGet, wUn, DL.wTru, wDNew, fin, List.getElem?_cons_zero, List.getElem?_cons_succ, List.set_cons_zero, List.set_cons_succ]
    refine r_ordI (bb (fun q => ?_) (fun q => ?_))
    · refine (show rdGt (.int (m : Nat)) (.int 0) M1 _ from r_ordI (bb (fun q2 => ?_) (fun q2 => ?_)))
      · have q2 := of_decide_eq_true q2
        refine ⟨h, l, n + 1, _, rfl, h1, by omega, by omega, by omega, fun r M2 r0 r1 h2 e2 => ?_⟩
        refine ⟨Nat.le_of_ble_eq_true rfl, h, l, n + 2, _, _, rfl, h2, by omega, .inr rfl, by simp, by simp, fun d M3 hd h3 e3 => ?_⟩
        refine hk d M3 ?_ (h3.up (by omega)) (e1.trans (e2.trans e3))
        simp only [List.mem_cons, List.not_mem_nil, or_false] at hd
        rcases hd with rfl | rfl | rfl
        · exact (thA_int (by decide)).up growD_refl (by omega) (by omega)
        · exact (thA_int (by omega)).up growD_refl (by omega) (by omega)
        · exact (thA_int (by omega)).up growD_refl (by omega) (by omega)
      · exact hnx _ _ ⟨rfl, rfl⟩
    · exact hnx _ _ ⟨rfl, rfl⟩
  rintro Γ2 M2 ⟨rfl, rfl⟩
  refine seq_step ?_
  try simp only [wNext, wBreak, wContinue, wExpr, wRet, wRetN, wSet, wAsg, wPar, wPar3, wSub, wTst, wOp, wChain, wNotT, wAndV, wOrV, wNotV, wIf, wNil, wCons, wTup, wLst, wLstM, wCall, wCall0, wVar, wC, wLc, wLcM, wYes, wiL, wiT, wiS, wiR, wiEnT, wiEnL, wiZip, wSl, woNone, woSome, wMt, wJoin, wGet, wUn, DL.wTru, wDNew, fin, List.getElem?_cons_zero, List.getElem?_cons_succ, List.set_cons_zero, List.set_cons_succ]
  refine r_U (r_add ?_)
  repeat refine ⟨Nat.le_of_ble_eq_true rfl, ?_⟩
  intro p hp
  refine r_pow (by decide) (by decide) (by decide) ⟨Nat.le_of_ble_eq_true rfl, ?_⟩
  have mp : setM M2 p (.dct []) p = some (.dct []) := setM_same
  have h3 := h1.new (c := .dct []) hp
  have e3 := (Px.refl h l M2).new (c := .dct []) hp
  generalize setM M2 p (.dct []) = M3 at mp h3 e3 ⊢
  refine ⟨h, l, n + 1, _, _, rfl, h3, by omega, .inr rfl, by simp, by simp, fun th M4 hth h4 e4 => ?_⟩
  have t4 : ThA M4 200 1 th := by
    by_cases e : th = .cel p
    · subst e
      exact ⟨_, .bare ((e4.growD h3) _ _ mp), by decide, by decide, by decide, by decide⟩
    · refine poolA_ok (m := (m : Int)) (by omega) (by omega) ?_
      simp only [List.mem_cons, List.not_mem_nil, or_false] at hth
      simp only [poolA, List.mem_cons, List.not_mem_nil, or_false]
      rcases hth with hd | hd | hd | hd | hd | hd | hd | hd | hd | hd | hd | hd | hd <;> first | exact absurd hd e | simp [hd]
  have e04 := e1.trans (e3.trans e4)
  refine seq_step ?_
  simp only [wFor, wNext, wBreak, wContinue, wExpr, wRet, wRetN, wSet, wAsg, wPar, wPar3, wSub, wTst, wOp, wChain, wNotT, wAndV, wOrV, wNotV, wIf, wNil, wCons, wTup, wLst, wLstM, wCall, wCall0, wVar, wC, wLc, wLcM, wYes, wiL, wiT, wiS, wiR, wiEnT, wiEnL, wiZip, wSl, woNone, woSome, wMt, wJoin, wGet, wUn, DL.wTru, wDNew, fin, List.getElem?_cons_zero, List.getElem?_cons_succ, List.set_cons_zero, List.set_cons_succ]
  repeat refine ⟨Nat.le_of_ble_eq_true rfl, ?_⟩
  refine ⟨h, l, n + 2, _, _, rfl, h4, by omega, .inr rfl, by simp, by simp, fun c M5 hc h5 e5 => ?_⟩
  obtain ⟨c, rfl, hcl⟩ : ∃ i : Nat, c = .int (i : Nat) ∧ i ≤ 18 := by
    simp only [List.mem_cons, List.not_mem_nil, or_false] at hc
    rcases hc with rfl | rfl | rfl | rfl | rfl
    · exact ⟨0, rfl, by decide⟩
    · exact ⟨0, rfl, by decide⟩
    · exact ⟨0, rfl, by decide⟩
    · exact ⟨1, rfl, by decide⟩
    · exact ⟨18, rfl, by decide⟩
  refine eq_int (r_intB ?_)
  obtain ⟨v, ev, hv⟩ : ∃ v : Nat, (if id (decide (way = 7)) = true then (1 : Int) else 0) = (v : Int) ∧ v ≤ 1 := by
    by_cases z : way = 7
    · exact ⟨1, by simp [z], by decide⟩
    · exact ⟨0, by simp [z], by decide⟩
  rw [ev]
  refine r_mul (.inl ⟨by omega, by omega⟩) ?_
  have cv : c * v ≤ 18 := Nat.le_trans (Nat.mul_le_mul hcl hv) (by decide)
  rw [show ((c : Nat) : Int) * ((v : Nat) : Int) = ((c * v : Nat) : Int) from (Int.natCast_mul c v).symm]
  generalize c * v = q at cv
  refine ⟨⟨by omega, by omega⟩, ?_⟩
  rw [show ((q : Nat) : Int).toNat = q from Int.toNat_natCast q]
  have t5 := t4.up (e5.growD h4) (Nat.le_refl _) (Nat.le_refl _)
  refine loop_inv (fun its Γ M' => its.length ≤ 18 ∧ ∃ d x1 x2 x4, ThA M' (200 + (18 - its.length)) (1 + (18 - its.length)) d ∧ Pt M' h l (n + 3 + (18 - its.length)) ∧ Px h l M M' ∧ Γ = [some (.cel h), x1, x2, some d, x4]) (fun _ _ _ _ => trivial) ?_ ?_ _ _ _
    ⟨by rw [rng_len]; omega, th, _, _, _, t5.up growD_refl (by omega) (by omega), h5.up (by omega), e04.trans e5, rfl⟩
  · rintro Γ M6 ⟨_, d, x1, x2, x4, t6, h6, e6, rfl⟩
    simp only [wNext, wBreak, wContinue, wExpr, wRet, wRetN, wSet, wAsg, wPar, wPar3, wSub, wTst, wOp, wChain, wNotT, wAndV, wOrV, wNotV, wIf, wNil, wCons, wTup, wLst, wLstM, wCall, wCall0, wVar, wC, wLc, wLcM, wYes, wiL, wiT, wiS, wiR, wiEnT, wiEnL, wiZip, wSl, woNone, woSome, wMt, wJoin, wGet, wUn, DL.wTru, wDNew, fin, List.getElem?_cons_zero, List.getElem?_cons_succ, List.set_cons_zero, List.set_cons_succ]
    exact hk d M6 (t6.up growD_refl (by simp) (by simp)) (h6.up (by simp)) e6
  · rintro i its Γ M6 ⟨hl, d, x1, x2, x4, t6, h6, e6, rfl⟩
    rw [List.length_cons] at hl t6 h6
    refine ⟨_, rfl, fun k' v1 v2 v3 v4 => ?_⟩
    simp only [wNext, wBreak, wContinue, wExpr, wRet, wRetN, wSet, wAsg, wPar, wPar3, wSub, wTst, wOp, wChain, wNotT, wAndV, wOrV, wNotV, wIf, wNil, wCons, wTup, wLst, wLstM, wCall, wCall0, wVar, wC, wLc, wLcM, wYes, wiL, wiT, wiS, wiR, wiEnT, wiEnL, wiZip, wSl, woNone, woSome, wMt, wJoin, wGet, wUn, DL.wTru, wDNew, fin, List.getElem?_cons_zero, List.getElem?_cons_succ, List.set_cons_zero, List.set_cons_succ]
    repeat refine ⟨Nat.le_of_ble_eq_true rfl, ?_⟩
    refine ⟨h, l, _, _, _, rfl, h6, by omega, .inr rfl, by simp, by simp, fun y M7 hy h7 e7 => ?_⟩
    refine v3 _ _ ⟨by omega, y, _, _, _, ThA.up (M := M6) ?_ (e7.growD h6) (Nat.le_refl _) (Nat.le_refl _), h7.up (by rw [show n + 3 + (18 - its.length) = n + 3 + (18 - (its.length + 1)) + 1 by omega]; exact Nat.le_refl _), e6.trans e7, rfl⟩
    have ea : 18 - its.length = (18 - (its.length + 1)) + 1 := by omega
    rw [ea]
    simp only [List.mem_cons, List.not_mem_nil, or_false] at hy
    rcases hy with rfl | rfl
    · exact t6.tup1.up growD_refl (by omega) (by omega)
    · exact t6.lst1.up growD_refl (by omega) (by omega)
end
end K04

set_option autoImplicit false
set_option maxRecDepth 100000
set_option maxHeartbeats 4000000
namespace K04
open PySem L2 DL DX
/-! what is told of a deed -/
section
variable {P : Program} {w : World} {K : PySem.W.Frag} {mg : Str → Option Value} {base : Heap}
def F_refusal (Z : EE P K mg) : FD := fun ds M k => ∃ a, ds = [.cel a] ∧ ((M a = some (.exc a Z.n_Full.C []) ∧ k (.str (Str.ofString "full")) M) ∨ ∃ th t, M a = some (.exc a Z.e_NoLetter.C [(Str.ofString "i", th)]) ∧ TxA M th t ∧ k (.str (Str.ofString "letter " ++ t)) M)
theorem ok_refusal (T : Txt K mg) (B : DD K mg) (Z : EE P K mg) : DFnN P w K mg base 2 B.f_law_refusal B.fd_law_refusal p_law_refusal (F_refusal Z) := by
  refine Fun.okDN B.d_law_refusal.F sc_law_refusal (fun cdv A outer s H E hr => (dss_cons (ds_set (i := 1) sc_law_refusal.nd (de_isX K T.b_isinstance (da_cons (dv 0) (da_cons (de_tup (da_cons (de_cls Z.e_NoDeal.at_) (da_cons (de_cls Z.n_NoEntry.at_) (da_cons (de_cls Z.n_NoLine.at_) (da_cons (de_cls Z.n_NoMoment.at_) (da_cons (de_cls Z.n_NoPaper.at_) (da_cons (de_cls Z.e_NoPerson.at_) (da_cons (de_cls Z.n_NoPiece.at_) (da_cons (de_cls Z.n_NoPlan.at_) (da_cons (de_cls Z.n_NoQuestion.at_) (da_cons (de_cls Z.n_NoRight.at_) da_nil))))))))))) da_nil)))) (dss_cons (ds_set (i := 1) sc_law_refusal.nd (de_or (dv 1) (de_or (de_isX K T.b_isinstance (da_cons (dv 0) (da_cons (de_tup (da_cons (de_cls Z.n_NoScript.at_) (da_cons (de_cls Z.e_NoText.at_) (da_cons (de_cls Z.e_NoWatcher.at_) da_nil)))) da_nil))) (de_one (de_not (de_isX K T.b_isinstance (da_cons (dv 0) (da_cons (de_ty (n := "ValueError") T.b_ValueError (by decide +kernel)) da_nil)))))))) (dss_cons (ds_if (dw_pt (dw_or (dt_val (dv 1)) (dw_or1 (dw_pt (dw_and (dt_val (de_isX K T.b_isinstance (da_cons (dv 0) (da_cons (de_cls Z.n_Full.at_) da_nil)))) (dw_and1 (dt_val (de_isX K T.b_isinstance (da_cons (dv 0) (da_cons (de_cls Z.e_NoLetter.at_) da_nil)))))))))) (dss_one (ds_ret de_str)) dss_nil) (dss_one (ds_ret (de_if (dt_val (de_isX K T.b_isinstance (da_cons (dv 0) (da_cons (de_cls Z.n_Full.at_) da_nil)))) de_str (de_add de_str (de_reprSN hr T.b_repr (de_fldX K (dv 0))))))))))) (fun ds M k h => ?_)
  obtain ⟨a, rfl, h⟩ := h
  (refine ⟨rfl, ?_⟩; rw [show startD N_law_refusal [.cel a] = [some (.cel a), none] from rfl])
  have hz := sizeLine_eq
  have nof : PySem.W.findIn K (.ref Z.e_NoLetter.C) "i" = some none := by have := Z.e_NoLetter.no; rw [Z.e_NoLetter.f_is] at this; exact this
  obtain ⟨C, fs, bf, bl, em, ie, kn, kv, kf, kl, fl, hf, hl⟩ : ∃ (C : Addr) (fs : List (Str × D)) (bf bl : Bool), M a = some (.exc a C fs) ∧ ExcC K C ∧ (∀ u ∈ [Value.ref Z.e_NoDeal.C, .ref Z.n_NoEntry.C, .ref Z.n_NoLine.C, .ref Z.n_NoMoment.C, .ref Z.n_NoPaper.C, .ref Z.e_NoPerson.C, .ref Z.n_NoPiece.C, .ref Z.n_NoPlan.C, .ref Z.n_NoQuestion.C, .ref Z.n_NoRight.C, .ref Z.n_NoScript.C, .ref Z.e_NoText.C, .ref Z.e_NoWatcher.C], PySem.W.kitOne K (.ref C) u = some false) ∧
      PySem.W.kitOne K (.ref C) (.type "ValueError") = some true ∧ PySem.W.kitOne K (.ref C) (.ref Z.n_Full.C) = some bf ∧ PySem.W.kitOne K (.ref C) (.ref Z.e_NoLetter.C) = some bl ∧ (bf && bl) = false ∧
      (bf = true → k (.str (Str.ofString "full")) M) ∧ (bf = false → C = Z.e_NoLetter.C ∧ ∃ th t, fs = [(Str.ofString "i", th)] ∧ TxA M th t ∧ k (.str (Str.ofString "letter " ++ t)) M) := by
    rcases h with ⟨em, hk⟩ | ⟨th, t, em, tx, hk⟩
    · have kt := fun {c : Value} {b : Bool} (m) => DX.kitL_at Z.k_Full (c := c) (b := b) m
      refine ⟨_, _, true, false, em, Z.n_Full.ie, fun u hu => ?_, kt (by simp), kt (by simp), kt (by simp), rfl, fun _ => hk, fun z => by cases z⟩
      simp only [List.mem_cons, List.not_mem_nil, or_false] at hu
      rcases hu with rfl | rfl | rfl | rfl | rfl | rfl | rfl | rfl | rfl | rfl | rfl | rfl | rfl <;> exact kt (by simp)
    · have kt := fun {c : Value} {b : Bool} (m) => DX.kitL_at Z.k_NoLetter (c := c) (b := b) m
      refine ⟨_, _, false, true, em, Z.e_NoLetter.ie, fun u hu => ?_, kt (by simp), kt (by simp), kt (by simp), rfl, fun z => (by cases z), fun _ => ⟨rfl, th, t, rfl, tx, hk⟩⟩
      simp only [List.mem_cons, List.not_mem_nil, or_false] at hu
      rcases hu with rfl | rfl | rfl | rfl | rfl | rfl | rfl | rfl | rfl | rfl | rfl | rfl | rfl <;> exact kt (by simp)
  refine seq_step ?_
  simp only [wNext, wBreak, wContinue, wExpr, wRet, wRetN, wSet, wAsg, wPar, wPar3, wSub, wTst, wOp, wChain, wNotT, wAndV, wOrV, wNotV, wIf, wNil, wCons, wTup, wLst, wLstM, wCall, wCall0, wVar, wC, wLc, wLcM, wYes, wiL, wiT, wiS, wiR, wiEnT, wiEnL, wiZip, wSl, woNone, woSome, wMt, wJoin, wGet, wUn, DL.wTru, wDNew, fin, List.getElem?_cons_zero, List.getElem?_cons_succ, List.set_cons_zero, List.set_cons_succ]
  refine ⟨Nat.le_of_ble_eq_true rfl, a, _, _, _, false, rfl, em, ie, ⟨[.ref Z.e_NoDeal.C, .ref Z.n_NoEntry.C, .ref Z.n_NoLine.C, .ref Z.n_NoMoment.C, .ref Z.n_NoPaper.C, .ref Z.e_NoPerson.C, .ref Z.n_NoPiece.C, .ref Z.n_NoPlan.C, .ref Z.n_NoQuestion.C, .ref Z.n_NoRight.C], rfl, DX.kitAny_no fun u hu => kn u (by
    simp only [List.mem_cons, List.not_mem_nil, or_false] at hu ⊢
    rcases hu with rfl | rfl | rfl | rfl | rfl | rfl | rfl | rfl | rfl | rfl <;> simp)⟩, ?_⟩
  refine seq_step ?_
  simp only [wNext, wBreak, wContinue, wExpr, wRet, wRetN, wSet, wAsg, wPar, wPar3, wSub, wTst, wOp, wChain, wNotT, wAndV, wOrV, wNotV, wIf, wNil, wCons, wTup, wLst, wLstM, wCall, wCall0, wVar, wC, wLc, wLcM, wYes, wiL, wiT, wiS, wiR, wiEnT, wiEnL, wiZip, wSl, woNone, woSome, wMt, wJoin, wGet, wUn, DL.wTru, wDNew, fin, List.getElem?_cons_zero, List.getElem?_cons_succ, List.set_cons_zero, List.set_cons_succ]
  refine ⟨Nat.le_of_ble_eq_true rfl, a, _, _, _, false, rfl, em, ie, ⟨[.ref Z.n_NoScript.C, .ref Z.e_NoText.C, .ref Z.e_NoWatcher.C], rfl, DX.kitAny_no fun u hu => kn u (by
    simp only [List.mem_cons, List.not_mem_nil, or_false] at hu ⊢
    rcases hu with rfl | rfl | rfl <;> simp)⟩, ?_⟩
  refine ⟨a, _, _, _, true, rfl, em, ie, ⟨_, rfl, kv⟩, ?_⟩
  refine seq_step ?_
  unfold wIfS
  try unfold wOrT
  try unfold wAndT
  simp only [wCallX, wRaise, wTry, wFldX, goneK, defX, wNext, wBreak, wContinue, wExpr, wRet, wRetN, wSet, wAsg, wPar, wPar3, wSub, wTst, wOp, wChain, wNotT, wAndV, wOrV, wNotV, wIf, wNil, wCons, wTup, wLst, wLstM, wCall, wCall0, wVar, wC, wLc, wLcM, wYes, wiL, wiT, wiS, wiR, wiEnT, wiEnL, wiZip, wSl, woNone, woSome, wMt, wJoin, wGet, wUn, DL.wTru, wDNew, fin, List.getElem?_cons_zero, List.getElem?_cons_succ, List.set_cons_zero, List.set_cons_succ]
  refine ff ?_
  refine ⟨a, _, _, _, bf, rfl, em, ie, ⟨_, rfl, kf⟩, ?_⟩
  cases bf with
  | true =>
    have bl0 : bl = false := by cases bl with | true => cases fl | false => rfl
    subst bl0
    refine tt ⟨a, _, _, _, false, rfl, em, ie, ⟨_, rfl, kl⟩, ff ?_⟩
    try simp only [wCallX, wRaise, wTry, wFldX, goneK, defX, wNext, wBreak, wContinue, wExpr, wRet, wRetN, wSet, wAsg, wPar, wPar3, wSub, wTst, wOp, wChain, wNotT, wAndV, wOrV, wNotV, wIf, wNil, wCons, wTup, wLst, wLstM, wCall, wCall0, wVar, wC, wLc, wLcM, wYes, wiL, wiT, wiS, wiR, wiEnT, wiEnL, wiZip, wSl, woNone, woSome, wMt, wJoin, wGet, wUn, DL.wTru, wDNew, fin, List.getElem?_cons_zero, List.getElem?_cons_succ, List.set_cons_zero, List.set_cons_succ]
    exact ⟨a, _, _, _, true, rfl, em, ie, ⟨_, rfl, kf⟩, tt (hf rfl)⟩
  | false =>
    refine ff ?_
    obtain ⟨rfl, th, t, rfl, tx, hk⟩ := hl rfl
    try simp only [wCallX, wRaise, wTry, wFldX, goneK, defX, wNext, wBreak, wContinue, wExpr, wRet, wRetN, wSet, wAsg, wPar, wPar3, wSub, wTst, wOp, wChain, wNotT, wAndV, wOrV, wNotV, wIf, wNil, wCons, wTup, wLst, wLstM, wCall, wCall0, wVar, wC, wLc, wLcM, wYes, wiL, wiT, wiS, wiR, wiEnT, wiEnL, wiZip, wSl, woNone, woSome, wMt, wJoin, wGet, wUn, DL.wTru, wDNew, fin, List.getElem?_cons_zero, List.getElem?_cons_succ, List.set_cons_zero, List.set_cons_succ]
    refine ⟨a, _, _, _, false, rfl, em, ie, ⟨_, rfl, kf⟩, ff ?_⟩
    have lk : List.lookup (Str.ofString "i") ([(Str.ofString "i", th)] : List (Str × D)) = some th := rfl
    refine ⟨a, _, _, th, rfl, em, ie, nof, lk, tx.2 M _ growD_refl ?_⟩
    refine r_addS ?_ hk
    have := tx.1
    have : (Str.ofString "letter ").length = 7 := by decide +kernel
    omega
end
end K04

set_option autoImplicit false
set_option maxRecDepth 100000
set_option maxHeartbeats 4000000
namespace K04
open PySem L2 DL DX
/-! a deed: what it is told as, by the road and by the law's own row -/
def OutR (M : Mem) (room : Int) (L : List D) (way : Str) (d : D) (t : Str) (L' : List D) : Prop := (inL L d = false ∧ ∃ t0, TxA M d t0 ∧ t = Str.ofString "letter " ++ t0 ∧ L' = L) ∨
  ∃ (j : Nat) (x : D), d = .int (j : Nat) ∧ L[j]? = some x ∧ ((way = Str.ofString "bring" ∧ ∃ t0, TxA M x t0 ∧ t = Str.ofString "told " ++ t0 ∧ L' = L.eraseIdx j) ∨ (way = Str.ofString "lose" ∧ t = Str.ofString "told " ++ Str.ofString "None" ∧ L' = L.eraseIdx j) ∨
    (way = Str.ofString "double" ∧ (((L.length : Int) < room ∧ t = Str.ofString "told " ++ Str.ofString "None" ∧ L' = L ++ [x]) ∨ (¬ (L.length : Int) < room ∧ t = Str.ofString "full" ∧ L' = L))))
theorem inL_at {L : List D} {j : Nat} {x : D} (h : L[j]? = some x) : inL L (.int (j : Nat)) = true := by
  have hl := (List.getElem?_eq_some_iff.mp h).1
  show (decide (0 ≤ ((j : Nat) : Int)) && decide (((j : Nat) : Int) < (L.length : Int))) = true
  rw [decide_eq_true (by omega), decide_eq_true (by omega)]; rfl
section
variable {P : Program} {w : World} {K : PySem.W.Frag} {mg : Str → Option Value} {base : Heap}
def F_ptold (B : DD K mg) : FD := fun ds M k => ∃ p lp room L way d t L', ds = [.cel p, .str way, d] ∧ RdA B M p lp room L ∧ L.length ≤ 1000 ∧ okR M d ∧ (way = Str.ofString "bring" ∨ way = Str.ofString "lose" ∨ way = Str.ofString "double") ∧ OutR M room L way d t L' ∧
  ∀ M', RdA B M' p lp room L' → (∀ a c, a ≠ lp → M a = some c → M' a = some c) → k (.str t) M'
theorem txt_non {M : Mem} {k : KD} (hk : k (.str (Str.ofString "None")) M) : rdReprS [.non] M k := ⟨.non, .none, rfl, .non, by decide, by decide +kernel, by decide, by unfold PyData.shown; exact hk⟩
theorem ok_ptold (T : Txt K mg) (B : DD K mg) (Z : EE P K mg) : DFn P w K mg base 5 B.f_law_told B.fd_law_told p_law_told (F_ptold B) := by
  have G_Road_bring : DFnX P w K mg base 4 B.f_Road_bring B.fd_Road_bring p_Road_bring (F_rbring B Z.e_NoLetter.C) := ok_rbring T B Z
  have G_Road_lose : DFnX P w K mg base 4 B.f_Road_lose B.fd_Road_lose p_Road_lose (F_rlose B Z.e_NoLetter.C) := ok_rlose T B Z
  have G_Road_double : DFnX P w K mg base 4 B.f_Road_double B.fd_Road_double p_Road_double (F_rdouble B Z.e_NoLetter.C Z.n_Full.C) := ok_rdouble T B Z
  have G_law_refusal : DFnN P w K mg base 2 B.f_law_refusal B.fd_law_refusal p_law_refusal (F_refusal Z) := ok_refusal T B Z
  refine Fun.okD B.d_law_told.F sc_law_told (fun cdv A outer s H E hr => (dss_cons (ds_set (i := 3) sc_law_told.nd de_non) (dss_cons (ds_try (i := 4) K out_never ⟨rfl, by decide, .inl Z.a_ViewError⟩ sc_law_told.nd (fun pn xe z zm kx ho hp => (dss_one (ds_if (dt_cmpA (c_eq hr) (dv 1) de_str) (dss_one (ds_set (i := 3) sc_law_told.nd (de_add de_str (de_reprS hr T.b_repr (de_mthX B.c_Road.cl B.d_Road_bring G_Road_bring ho hr (by first | decide | omega) (dv 0) (da_cons (dv 2) da_nil)))))) (dss_one (ds_set (i := 3) sc_law_told.nd (de_add de_str (de_reprS hr T.b_repr (de_if (dt_cmpA (c_eq hr) (dv 1) de_str) (de_mthX B.c_Road.cl B.d_Road_lose G_Road_lose ho hr (by first | decide | omega) (dv 0) (da_cons (dv 2) da_nil)) (de_mthX B.c_Road.cl B.d_Road_double G_Road_double ho hr (by first | decide | omega) (dv 0) (da_cons (dv 2) da_nil)))))))))) (fun a => (dss_one (ds_set (i := 3) sc_law_told.nd (de_ownN B.d_law_refusal G_law_refusal (DG.RoomG.suite hr _) (by first | decide | omega) (da_cons (dv 4) da_nil)))))) (dss_one (ds_ret (dv 3)))))) (fun ds M k h => ?_)
  obtain ⟨p, lp, room, L, way, d, t, L', rfl, hr, hl, od, hw, ho, hk⟩ := h
  (refine ⟨rfl, ?_⟩; rw [show startD N_law_told [.cel p, .str way, d] = [some (.cel p), some (.str way), some (d), none, none] from rfl])
  have hz := sizeLine_eq
  have gD : ∀ {L2 : List D}, GrowD M (setM M lp (.lst L2)) := fun {L2} a kvs e => by
    rw [setM_ne (fun z => by rw [z, hr.2.1] at e; cases e)]; exact e
  have told5 : (Str.ofString "told ").length = 5 := by decide +kernel
  have put : ∀ {L2 : List D} (a : Addr) (c : Cell), a ≠ lp → M a = some c → setM M lp (.lst L2) a = some c := fun a c n e => by rw [setM_ne n]; exact e
  refine seq_step ?_
  simp only [wNext, wBreak, wContinue, wExpr, wRet, wRetN, wSet, wAsg, wPar, wPar3, wSub, wTst, wOp, wChain, wNotT, wAndV, wOrV, wNotV, wIf, wNil, wCons, wTup, wLst, wLstM, wCall, wCall0, wVar, wC, wLc, wLcM, wYes, wiL, wiT, wiS, wiR, wiEnT, wiEnL, wiZip, wSl, woNone, woSome, wMt, wJoin, wGet, wUn, DL.wTru, wDNew, fin, List.getElem?_cons_zero, List.getElem?_cons_succ, List.set_cons_zero, List.set_cons_succ]
  refine seq_step ?_
  unfold wTry
  try unfold wIfS
  simp only [wCallX, wRaise, wTry, wFldX, goneK, defX, wMthX, wDelL, wRaise0, wDef, wKwd, wFld, wPutF, wAugF, wMth, wMk, wSplit, wStarts, wListMD, wNext, wBreak, wContinue, wExpr, wRet, wRetN, wSet, wAsg, wPar, wPar3, wSub, wTst, wOp, wChain, wNotT, wAndV, wOrV, wNotV, wIf, wNil, wCons, wTup, wLst, wLstM, wCall, wCall0, wVar, wC, wLc, wLcM, wYes, wiL, wiT, wiS, wiR, wiEnT, wiEnL, wiZip, wSl, woNone, woSome, wMt, wJoin, wGet, wUn, DL.wTru, wDNew, fin, List.getElem?_cons_zero, List.getElem?_cons_succ, List.set_cons_zero, List.set_cons_succ]
  refine eq_strA ?_
  have news : ∀ {a : Addr} {c : Cell}, M a = none → RdA B (setM M a c) p lp room L := fun {a c} ha => ⟨by rw [setM_ne (neM hr.1 ha)]; exact hr.1, by rw [setM_ne (neM hr.2.1 ha)]; exact hr.2.1, hr.2.2⟩
  have stay : ∀ {a : Addr} {c : Cell}, M a = none → ∀ b x, b ≠ lp → M b = some x → setM M a c b = some x := fun {a c} ha b x _ e => by rw [setM_ne (neM e ha)]; exact e
  have gN : ∀ {a : Addr} {c : Cell}, M a = none → GrowD M (setM M a c) := fun {a c} ha b x e => by rw [setM_ne (neM e ha)]; exact e
  have bad : inL L d = false → ∃ b, PySem.W.exmOne K (.ref Z.e_NoLetter.C) (.ref Z.C_ViewError) = some b ∧ (b = true → ∀ a, M a = none → F_refusal Z [.cel a] (setM M a (.exc a Z.e_NoLetter.C [(Str.ofString "i", d)])) fun d M1 => k d M1) ∧ (b = false → False) := fun q => by
    rcases ho with ⟨_, t0, tx, rfl, rfl⟩ | ⟨j, x, rfl, jx, _⟩
    · refine ⟨true, Z.x_NoLetter_ViewError, fun _ a ha => ⟨a, rfl, .inr ⟨d, t0, setM_same, tx.grow (gN ha), hk _ (news ha) (stay ha)⟩⟩, fun z => by cases z⟩
    · rw [inL_at jx] at q; cases q
  have good : ∀ (j : Nat) (x : D), d = .int (j : Nat) → L[j]? = some x → (way = Str.ofString "bring" ∧ ∃ t0, TxA M x t0 ∧ t = Str.ofString "told " ++ t0 ∧ L' = L.eraseIdx j) ∨ (way = Str.ofString "lose" ∧ t = Str.ofString "told " ++ Str.ofString "None" ∧ L' = L.eraseIdx j) ∨
    (way = Str.ofString "double" ∧ (((L.length : Int) < room ∧ t = Str.ofString "told " ++ Str.ofString "None" ∧ L' = L ++ [x]) ∨ (¬ (L.length : Int) < room ∧ t = Str.ofString "full" ∧ L' = L))) := fun j x e jx => by
    rcases ho with ⟨q, _⟩ | ⟨j2, x2, e2, jx2, r⟩
    · rw [e, inL_at jx] at q; cases q
    · rw [e] at e2
      have ej : j = j2 := by have := D.int.inj e2; omega
      subst ej
      rw [jx] at jx2; cases jx2
      exact r
  have nb : Str.ofString "lose" ≠ Str.ofString "bring" := by decide
  have nb2 : Str.ofString "double" ≠ Str.ofString "bring" := by decide
  have nb3 : Str.ofString "double" ≠ Str.ofString "lose" := by decide
  have addS : ∀ {t0 : Str} {M1 : Mem}, t0.length ≤ 100000 → k (.str (Str.ofString "told " ++ t0)) M1 → rdAdd (.str (Str.ofString "told ")) (.str t0) M1 fun d M1 => k d M1 := fun {t0 M1} hl h => r_addS (by omega) h
  have none4 : (Str.ofString "None").length ≤ 100000 := by decide +kernel
  rcases hw with rfl | rfl | rfl
  · refine tt' (decide_eq_true rfl) ⟨p, _, rfl, hr.1, rd_no _ _ _ (by decide +kernel), p, lp, room, L, d, rfl, hr, hl, od, fun j x e jx => ?_, bad⟩
    rcases good j x e jx with ⟨_, t0, tx, rfl, rfl⟩ | ⟨z, _⟩ | ⟨z, _⟩
    · exact tx.2 _ _ gD (addS tx.1 (hk _ hr.put put))
    · exact absurd z nb.symm
    · exact absurd z nb2.symm
  · refine ff' (decide_eq_false nb) (eq_strA (tt' (decide_eq_true rfl) ⟨p, _, rfl, hr.1, rd_no _ _ _ (by decide +kernel), p, lp, room, L, d, rfl, hr, hl, od, fun j x e jx => ?_, bad⟩))
    rcases good j x e jx with ⟨z, _⟩ | ⟨_, rfl, rfl⟩ | ⟨z, _⟩
    · exact absurd z nb
    · exact txt_non (addS none4 (hk _ hr.put put))
    · exact absurd z nb3.symm
  · refine ff' (decide_eq_false nb2) (eq_strA (ff' (decide_eq_false nb3) ⟨p, _, rfl, hr.1, rd_no _ _ _ (by decide +kernel), p, lp, room, L, d, rfl, hr, hl, od, fun j x e jx z => ?_, fun q z => ?_, bad⟩))
    · rcases good j x e jx with ⟨y, _⟩ | ⟨y, _⟩ | ⟨_, ⟨_, rfl, rfl⟩ | ⟨y, _⟩⟩
      · exact absurd y nb2
      · exact absurd y nb3
      · exact txt_non (addS none4 (hk _ hr.put put))
      · exact absurd z y
    · obtain ⟨i, rfl⟩ := inL_int q
      obtain ⟨j, x, rfl, jl, jx⟩ := ix_in q
      refine ⟨true, Z.x_Full_ViewError, fun _ a ha => ⟨a, rfl, .inl ⟨setM_same, ?_⟩⟩, fun z => by cases z⟩
      rcases good j x rfl jx with ⟨y, _⟩ | ⟨y, _⟩ | ⟨_, ⟨y, _⟩ | ⟨_, rfl, rfl⟩⟩
      · exact absurd y nb2
      · exact absurd y nb3
      · exact absurd y z
      · exact hk _ (news ha) (stay ha)
end
end K04

set_option autoImplicit false
set_option maxRecDepth 100000
set_option maxHeartbeats 4000000
namespace K04
open PySem L2 DL DX
section
variable {P : Program} {w : World} {K : PySem.W.Frag} {mg : Str → Option Value} {base : Heap}
def F_pdue : FD := fun ds M k => ∃ o room L way d t L', ds = [.cel o, .int room, .str way, d] ∧ M o = some (.lst L) ∧ L.length ≤ 1000 ∧ okR M d ∧ (way = Str.ofString "bring" ∨ way = Str.ofString "lose" ∨ way = Str.ofString "double") ∧ OutR M room L way d t L' ∧
  ∀ M', M' o = some (.lst L') → (∀ a c, a ≠ o → M a = some c → M' a = some c) → k (.str t) M'
theorem ok_pdue (T : Txt K mg) (B : DD K mg) : DFn P w K mg base 1 B.f_law_due B.fd_law_due p_law_due F_pdue := by
  refine Fun.okD B.d_law_due.F sc_law_due (fun cdv A outer s H E hr => (dss_cons (ds_if (dw_pt (dw_or (dt_not (dt_val (de_isi T.b_isinstance (dv 3) (de_ty (n := "int") T.b_int (by decide +kernel))))) (dw_or (dt_val (de_isi T.b_isinstance (dv 3) (de_ty (n := "bool") T.b_bool (by decide +kernel)))) (dw_or1 (dt_not (dt_chainA c_le c_lt de_int (dv 3) (de_len T.b_len (dv 0)))))))) (dss_one (ds_ret (de_add de_str (de_reprS hr T.b_repr (dv 3))))) dss_nil) (dss_cons (ds_if (dt_cmpA (c_eq hr) (dv 2) de_str) (dss_cons (ds_if (dt_cmpA c_ge (de_len T.b_len (dv 0)) (dv 1)) (dss_one (ds_ret de_str)) dss_nil) (dss_cons (ds_expr (de_append (dv 0) (de_ix (dv 0) (dv 3)))) (dss_one (ds_ret de_str)))) dss_nil) (dss_cons (ds_set (i := 4) sc_law_due.nd (de_popAt (dv 0) (dv 3))) (dss_one (ds_ret (de_if (dt_cmpA (c_eq hr) (dv 2) de_str) (de_add de_str (de_reprS hr T.b_repr (dv 4))) de_str))))))) (fun ds M k h => ?_)
  obtain ⟨o, room, L, way, d, t, L', rfl, eo, hl, od, hw, ho, hk⟩ := h
  (refine ⟨rfl, ?_⟩; rw [show startD N_law_due [.cel o, .int room, .str way, d] = [some (.cel o), some (.int room), some (.str way), some (d), none] from rfl])
  have hz := sizeLine_eq
  have gD : ∀ {L2 : List D}, GrowD M (setM M o (.lst L2)) := fun {L2} a kvs e => by
    rw [setM_ne (fun z => by rw [z, eo] at e; cases e)]; exact e
  have put : ∀ {L2 : List D} (a : Addr) (c : Cell), a ≠ o → M a = some c → setM M o (.lst L2) a = some c := fun a c n e => by rw [setM_ne n]; exact e
  have tn : Str.ofString "told " ++ Str.ofString "None" = Str.ofString "told None" := by decide +kernel
  have same : k (.str t) M → L' = L → True := fun _ _ => trivial
  have told5 : (Str.ofString "told ").length = 5 := by decide +kernel
  have let7 : (Str.ofString "letter ").length = 7 := by decide +kernel
  refine seq_step ?_
  try unfold wIfS
  try unfold wOrT
  simp only [wNext, wBreak, wContinue, wExpr, wRet, wRetN, wSet, wAsg, wPar, wPar3, wSub, wTst, wOp, wChain, wNotT, wAndV, wOrV, wNotV, wIf, wNil, wCons, wTup, wLst, wLstM, wCall, wCall0, wVar, wC, wLc, wLcM, wYes, wiL, wiT, wiS, wiR, wiEnT, wiEnL, wiZip, wSl, woNone, woSome, wMt, wJoin, wGet, wUn, DL.wTru, wDNew, fin, List.getElem?_cons_zero, List.getElem?_cons_succ, List.set_cons_zero, List.set_cons_succ]
  refine isi_int od ?_
  have bad : inL L d = false → rdReprS [d] M fun y M2 => rdAdd (.str (Str.ofString "letter ")) y M2 k := fun q => by
    rcases ho with ⟨_, t0, tx, rfl, rfl⟩ | ⟨j, x, rfl, jx, _⟩
    · refine tx.2 M _ growD_refl (r_addS ?_ (hk M eo fun _ _ _ e => e))
      have := tx.1
      omega
    · rw [inL_at jx] at q; cases q
  have lit : k (.str (Str.ofString "told " ++ Str.ofString "None")) = k (.str (Str.ofString "told None")) := by rw [tn]
  cases d with
  | int i =>
    refine ff (isi_bool od (ff ?_))
    refine (show rdLe (.int 0) (.int i) M _ from r_ordI ?_)
    have sp : inL L (.int i) = (decide (0 ≤ i) && decide (i < (L.length : Int))) := rfl
    cases q0 : decide ((0 : Int) ≤ i) with
    | false =>
      rw [q0] at sp
      exact tt (bad sp)
    | true =>
      rw [q0, Bool.true_and] at sp
      refine (show rdLen [.cel o] M _ from r_lenC eo (show rdLt (.int i) (.int (L.length : Nat)) M _ from r_ordI ?_))
      cases q1 : decide (i < (L.length : Int)) with
      | false =>
        rw [q1] at sp
        exact tt (bad sp)
      | true =>
        rw [q1] at sp
        refine ff (seq_step ?_)
        obtain ⟨j, x, rfl, jl, jx⟩ := ix_in sp
        have good : (way = Str.ofString "bring" ∧ ∃ t0, TxA M x t0 ∧ t = Str.ofString "told " ++ t0 ∧ L' = L.eraseIdx j) ∨ (way = Str.ofString "lose" ∧ t = Str.ofString "told " ++ Str.ofString "None" ∧ L' = L.eraseIdx j) ∨
          (way = Str.ofString "double" ∧ (((L.length : Int) < room ∧ t = Str.ofString "told " ++ Str.ofString "None" ∧ L' = L ++ [x]) ∨ (¬ (L.length : Int) < room ∧ t = Str.ofString "full" ∧ L' = L))) := by
          rcases ho with ⟨q, _⟩ | ⟨j2, x2, e2, jx2, r⟩
          · rw [sp] at q; cases q
          · have ej : j = j2 := by have := D.int.inj e2; omega
            subst ej
            rw [jx] at jx2; cases jx2
            exact r
        have nb : Str.ofString "lose" ≠ Str.ofString "bring" := by decide
        have nb2 : Str.ofString "double" ≠ Str.ofString "bring" := by decide
        have nb3 : Str.ofString "double" ≠ Str.ofString "lose" := by decide
        have pop : ∀ {k2 : KD}, k2 x (setM M o (.lst (L.eraseIdx j))) → rdPopAt (.cel o) [.int (j : Nat)] M k2 := fun {k2} h => by
          unfold rdPopAt
          simp only [eo]
          refine ⟨⟨by omega, by omega⟩, ?_⟩
          rw [seqIx9 jl]
          simp only [jx]
          exact h
        try unfold wIfS
        try simp only [wNext, wBreak, wContinue, wExpr, wRet, wRetN, wSet, wAsg, wPar, wPar3, wSub, wTst, wOp, wChain, wNotT, wAndV, wOrV, wNotV, wIf, wNil, wCons, wTup, wLst, wLstM, wCall, wCall0, wVar, wC, wLc, wLcM, wYes, wiL, wiT, wiS, wiR, wiEnT, wiEnL, wiZip, wSl, woNone, woSome, wMt, wJoin, wGet, wUn, DL.wTru, wDNew, fin, List.getElem?_cons_zero, List.getElem?_cons_succ, List.set_cons_zero, List.set_cons_succ]
        rcases hw with rfl | rfl | rfl
        · refine eq_strA (ff' (decide_eq_false nb2.symm) (seq_step ?_))
          try simp only [wNext, wBreak, wContinue, wExpr, wRet, wRetN, wSet, wAsg, wPar, wPar3, wSub, wTst, wOp, wChain, wNotT, wAndV, wOrV, wNotV, wIf, wNil, wCons, wTup, wLst, wLstM, wCall, wCall0, wVar, wC, wLc, wLcM, wYes, wiL, wiT, wiS, wiR, wiEnT, wiEnL, wiZip, wSl, woNone, woSome, wMt, wJoin, wGet, wUn, DL.wTru, wDNew, fin, List.getElem?_cons_zero, List.getElem?_cons_succ, List.set_cons_zero, List.set_cons_succ]
          rcases good with ⟨_, t0, tx, rfl, rfl⟩ | ⟨z, _⟩ | ⟨z, _⟩
          · refine ⟨⟨_, eo⟩, pop (eq_strA (tt' (decide_eq_true rfl) (tx.2 _ _ gD (r_addS ?_ (hk _ setM_same put)))))⟩
            have := tx.1
            omega
          · exact absurd z nb.symm
          · exact absurd z nb2.symm
        · refine eq_strA (ff' (decide_eq_false nb3.symm) (seq_step ?_))
          try simp only [wNext, wBreak, wContinue, wExpr, wRet, wRetN, wSet, wAsg, wPar, wPar3, wSub, wTst, wOp, wChain, wNotT, wAndV, wOrV, wNotV, wIf, wNil, wCons, wTup, wLst, wLstM, wCall, wCall0, wVar, wC, wLc, wLcM, wYes, wiL, wiT, wiS, wiR, wiEnT, wiEnL, wiZip, wSl, woNone, woSome, wMt, wJoin, wGet, wUn, DL.wTru, wDNew, fin, List.getElem?_cons_zero, List.getElem?_cons_succ, List.set_cons_zero, List.set_cons_succ]
          rcases good with ⟨z, _⟩ | ⟨_, rfl, rfl⟩ | ⟨z, _⟩
          · exact absurd z nb
          · refine ⟨⟨_, eo⟩, pop (eq_strA (ff' (decide_eq_false nb) ?_))⟩
            rw [← tn]
            exact hk _ setM_same put
          · exact absurd z nb3.symm
        · refine eq_strA (tt' (decide_eq_true rfl) (seq_step ?_))
          try unfold wIfS
          try simp only [wNext, wBreak, wContinue, wExpr, wRet, wRetN, wSet, wAsg, wPar, wPar3, wSub, wTst, wOp, wChain, wNotT, wAndV, wOrV, wNotV, wIf, wNil, wCons, wTup, wLst, wLstM, wCall, wCall0, wVar, wC, wLc, wLcM, wYes, wiL, wiT, wiS, wiR, wiEnT, wiEnL, wiZip, wSl, woNone, woSome, wMt, wJoin, wGet, wUn, DL.wTru, wDNew, fin, List.getElem?_cons_zero, List.getElem?_cons_succ, List.set_cons_zero, List.set_cons_succ]
          refine r_lenC eo (show rdGe (.int (L.length : Nat)) (.int room) M _ from r_ordI ?_)
          rcases good with ⟨z, _⟩ | ⟨z, _⟩ | ⟨_, ⟨z, rfl, rfl⟩ | ⟨z, rfl, eL⟩⟩
          · exact absurd z nb2
          · exact absurd z nb3
          · rw [decide_eq_false (show ¬ (room ≤ (L.length : Int)) by omega)]
            refine ff (seq_step ?_)
            try simp only [wNext, wBreak, wContinue, wExpr, wRet, wRetN, wSet, wAsg, wPar, wPar3, wSub, wTst, wOp, wChain, wNotT, wAndV, wOrV, wNotV, wIf, wNil, wCons, wTup, wLst, wLstM, wCall, wCall0, wVar, wC, wLc, wLcM, wYes, wiL, wiT, wiS, wiR, wiEnT, wiEnL, wiZip, wSl, woNone, woSome, wMt, wJoin, wGet, wUn, DL.wTru, wDNew, fin, List.getElem?_cons_zero, List.getElem?_cons_succ, List.set_cons_zero, List.set_cons_succ]
            refine ⟨⟨_, eo⟩, ix_cel eo (atI_nat jx) (r_app eo (by omega) ?_)⟩
            rw [← tn]
            exact hk _ setM_same put
          · rw [decide_eq_true (show room ≤ (L.length : Int) by omega)]
            rw [eL] at hk
            exact tt (hk M eo fun _ _ _ e => e)
  | bl b => exact ff (isi_bool od (tt (bad rfl)))
  | _ => exact tt (bad rfl)
end
end K04

set_option autoImplicit false
set_option maxRecDepth 100000
set_option maxHeartbeats 4000000
namespace K04
open PySem L2 DL DX
/-! two roads, and the law's own rows beside them -/
mutual
theorem toR_grow {M M' : Mem} (g : ExtA M M') : ∀ (d : D) (p : PyData), toR M d = some p → toR M' d = some p
  | .non, p, h => by unfold toR at *; exact h
  | .bl _, p, h => by unfold toR at *; exact h
  | .int _, p, h => by unfold toR at *; exact h
  | .str _, p, h => by unfold toR at *; exact h
  | .tup ds, p, h => by
    unfold toR at *
    split at h
    · rename_i ps e
      rw [toRs_grow g ds ps e]; exact h
    · cases h
  | .lst ds, p, h => by
    unfold toR at *
    split at h
    · rename_i ps e
      rw [toRs_grow g ds ps e]; exact h
    · cases h
  | .cel a, p, h => by
    unfold toR at *
    split at h
    · rename_i e
      rw [g a _ e]; exact h
    · cases h
  | .scr _, p, h => by unfold toR at h; cases h
  | .ty _, p, h => by unfold toR at h; cases h
  | .ftp _, p, h => by unfold toR at h; cases h
theorem toRs_grow {M M' : Mem} (g : ExtA M M') : ∀ (ds : List D) (ps : List PyData), toRs M ds = some ps → toRs M' ds = some ps
  | [], ps, h => by unfold toRs at *; exact h
  | d :: ds, ps, h => by
    unfold toRs at *
    split at h
    · rename_i p qs e1 e2
      rw [toR_grow g d p e1, toRs_grow g ds qs e2]; exact h
    · cases h
end
section
variable {P : Program} {w : World} {K : PySem.W.Frag} {mg : Str → Option Value} {base : Heap}
/-- a road, the list of its letters, how many it bears, what lies on it, the law's own row -/
structure One where
  p : Addr
  l : Addr
  o : Addr
  s : Int
  L : List D
structure OneA (B : DD K mg) (M : Mem) (h g : Addr) (r : One) : Prop where
  rd : RdA B M r.p r.l r.s r.L
  ow : M r.o = some (.lst r.L)
  lo : r.l ≠ r.o
  lh : r.l ≠ h ∧ r.l ≠ g
  oh : r.o ≠ h ∧ r.o ≠ g
  s0 : 1 ≤ r.s ∧ r.s ≤ 7
  ln : r.L.length ≤ 7
  lt : ∀ x ∈ r.L, LtA x
/-- their lists are others -/
def Apart (a b : One) : Prop := a.l ≠ b.l ∧ a.l ≠ b.o ∧ a.o ≠ b.l ∧ a.o ≠ b.o
theorem Apart.symm {a b : One} (h : Apart a b) : Apart b a := ⟨Ne.symm h.1, Ne.symm h.2.2.1, Ne.symm h.2.1, Ne.symm h.2.2.2⟩
/-- what becomes of one as its road's list and its own row change -/
theorem OneA.keep {B : DD K mg} {M M' : Mem} {h g : Addr} {r : One} (q : OneA B M h g r) (e : ∀ a c, a = r.p ∨ a = r.l ∨ a = r.o → M a = some c → M' a = some c) : OneA B M' h g r :=
  ⟨⟨e _ _ (.inl rfl) q.rd.1, e _ _ (.inr (.inl rfl)) q.rd.2.1, q.rd.2.2⟩, e _ _ (.inr (.inr rfl)) q.ow, q.lo, q.lh, q.oh, q.s0, q.ln, q.lt⟩
theorem OneA.px {B : DD K mg} {M M' : Mem} {h g : Addr} {n : Nat} {r : One} (q : OneA B M h g r) (pt : Pt M h g n) (e : Px h g M M') : OneA B M' h g r := q.keep fun a c z ea => by
  refine e a c ?_ ?_ ea
  · obtain ⟨xs, b, t, e1, e2, _⟩ := pt
    rcases z with rfl | rfl | rfl
    · intro y; rw [y, e1] at ea; rw [← y] at e1; have := q.rd.1; rw [e1] at this; cases this
    · exact q.lh.1
    · exact q.oh.1
  · obtain ⟨xs, b, t, e1, e2, _⟩ := pt
    rcases z with rfl | rfl | rfl
    · intro y; rw [← y] at e2; have := q.rd.1; rw [e2] at this; cases this
    · exact q.lh.2
    · exact q.oh.2
/-- the road's list and the row have become L2 -/
theorem OneA.becomes {B : DD K mg} {M M1 M2 : Mem} {h g : Addr} {r : One} {L2 : List D} (q : OneA B M h g r) (h1 : RdA B M1 r.p r.l r.s L2) (e1 : ∀ a c, a ≠ r.l → M a = some c → M1 a = some c)
    (h2 : M2 r.o = some (.lst L2)) (e2 : ∀ a c, a ≠ r.o → M1 a = some c → M2 a = some c) (l7 : L2.length ≤ 7) (lt : ∀ x ∈ L2, LtA x) : OneA B M2 h g { r with L := L2 } := by
  have np : r.p ≠ r.o := fun z => by have := q.rd.1; rw [z, q.ow] at this; cases this
  exact ⟨⟨e2 _ _ np h1.1, e2 _ _ q.lo h1.2.1, h1.2.2⟩, h2, q.lo, q.lh, q.oh, q.s0, l7, lt⟩
theorem OneA.other {B : DD K mg} {M M1 M2 : Mem} {h g : Addr} {r r2 : One} (q : OneA B M h g r) (q2 : OneA B M h g r2) (ap : Apart r r2) (e1 : ∀ a c, a ≠ r.l → M a = some c → M1 a = some c) (e2 : ∀ a c, a ≠ r.o → M1 a = some c → M2 a = some c) : OneA B M2 h g r2 :=
  q2.keep fun a c z ea => by
    refine e2 a c ?_ (e1 a c ?_ ea)
    · rcases z with rfl | rfl | rfl
      · intro y; rw [y, q.ow] at ea; have := q2.rd.1; rw [y, q.ow] at this; cases this
      · exact Ne.symm ap.2.2.1
      · exact Ne.symm ap.2.2.2
    · rcases z with rfl | rfl | rfl
      · intro y; have := q2.rd.1; rw [y, q.rd.2.1] at this; cases this
      · exact Ne.symm ap.1
      · exact Ne.symm ap.2.1
theorem pt_keep {B : DD K mg} {M M1 M2 : Mem} {h g : Addr} {n : Nat} {r : One} (q : OneA B M h g r) (pt : Pt M h g n) (e1 : ∀ a c, a ≠ r.l → M a = some c → M1 a = some c) (e2 : ∀ a c, a ≠ r.o → M1 a = some c → M2 a = some c) : Pt M2 h g n := by
  obtain ⟨xs, b, t, z1, z2, z⟩ := pt
  exact ⟨xs, b, t, e2 _ _ (Ne.symm q.oh.1) (e1 _ _ (Ne.symm q.lh.1) z1), e2 _ _ (Ne.symm q.oh.2) (e1 _ _ (Ne.symm q.lh.2) z2), z⟩
theorem gd_keep {B : DD K mg} {M M1 : Mem} {h g : Addr} {r : One} (q : OneA B M h g r) (e1 : ∀ a c, a ≠ r.l → M a = some c → M1 a = some c) : GrowD M M1 := fun a kvs z => e1 a _ (fun y => by rw [y, q.rd.2.1] at z; cases z) z
/-- what comes of a deed -/
theorem out_is {M : Mem} {room : Int} {L : List D} {way : Str} {d : D} {a b : Nat} (hd : ThA M a b d) (ha : a ≤ 2000) (hb : b ≤ 64) (hw : way = Str.ofString "bring" ∨ way = Str.ofString "lose" ∨ way = Str.ofString "double") (r7 : room ≤ 7) (l7 : L.length ≤ 7) (lt : ∀ x ∈ L, LtA x) :
    ∃ t L', OutR M room L way d t L' ∧ L'.length ≤ 7 ∧ ∀ x ∈ L', LtA x := by
  cases q : inL L d with
  | false =>
    obtain ⟨t, tx⟩ := hd.text ha hb
    exact ⟨_, L, .inl ⟨q, t, tx, rfl, rfl⟩, l7, lt⟩
  | true =>
    obtain ⟨i, rfl⟩ := inL_int q
    obtain ⟨j, x, rfl, jl, jx⟩ := ix_in q
    have er : (L.eraseIdx j).length ≤ 7 ∧ ∀ y ∈ L.eraseIdx j, LtA y := ⟨Nat.le_trans (List.length_eraseIdx_le _ _) l7, fun y hy => lt y (List.mem_of_mem_eraseIdx hy)⟩
    have hx := lt x (List.mem_of_getElem? jx)
    rcases hw with rfl | rfl | rfl
    · obtain ⟨t, tx⟩ := hx.text (M := M)
      exact ⟨_, _, .inr ⟨j, x, rfl, jx, .inl ⟨rfl, t, tx, rfl, rfl⟩⟩, er⟩
    · exact ⟨_, _, .inr ⟨j, x, rfl, jx, .inr (.inl ⟨rfl, rfl, rfl⟩)⟩, er⟩
    · by_cases z : (L.length : Int) < room
      · refine ⟨_, _, .inr ⟨j, x, rfl, jx, .inr (.inr ⟨rfl, .inl ⟨z, rfl, rfl⟩⟩)⟩, by rw [List.length_append, List.length_singleton]; omega, fun y hy => ?_⟩
        rcases List.mem_append.mp hy with hy | hy
        · exact lt y hy
        · rw [List.mem_singleton] at hy; subst hy; exact hx
      · exact ⟨_, _, .inr ⟨j, x, rfl, jx, .inr (.inr ⟨rfl, .inr ⟨z, rfl, rfl⟩⟩)⟩, l7, lt⟩
theorem OutR.grow {M M' : Mem} {room : Int} {L : List D} {way : Str} {d : D} {t : Str} {L' : List D} (h : OutR M room L way d t L') (g : GrowD M M') : OutR M' room L way d t L' := by
  rcases h with ⟨q, t0, tx, r⟩ | ⟨j, x, e, jx, ⟨w, t0, tx, r⟩ | r⟩
  · exact .inl ⟨q, t0, tx.grow g, r⟩
  · exact .inr ⟨j, x, e, jx, .inl ⟨w, t0, tx.grow g, r⟩⟩
  · exact .inr ⟨j, x, e, jx, .inr r⟩
/-- how all letters of a row are shown -/
theorem row_text {L : List D} (l7 : L.length ≤ 7) (lt : ∀ x ∈ L, LtA x) : ∃ s : Str, PyData.strOk s = true ∧ ∀ (M : Mem) (k : KD), k (.str s) M → rdRepr [.tup L] M k := by
  have q := fun M x (hx : x ∈ L) => tgB_fit (M := M) 8 2000 x (lt x hx)
  have ft : ∀ M, fit 1000 M (.tup L) = true := fun M => by unfold fit; exact fits_all fun x hx => (q M x hx).1
  obtain ⟨p, e, _⟩ := fit_R (N := 1000) (M := fun _ => none) (by decide) (.tup L) (ft _)
  have same : ∀ M, toR M (.tup L) = some p := fun M => toR_grow (fun a c z => by cases z) _ _ e
  have pl := shown_plain (.tup L) p (ft fun _ => none) e
  refine ⟨p.shown, ?_, fun M k hk => r_repr (N := 1000) (by decide) (ft M) ?_ ?_ fun p2 h2 => ?_⟩
  · unfold DL.plain at pl
    unfold PyData.strOk
    rw [← Array.all_toList]
    rw [List.all_eq_true] at pl ⊢
    intro c hc
    have := of_decide_eq_true (pl c hc)
    simp; omega
  · unfold heavy
    have := heavies_all fun x hx => (q M x hx).2.1
    have : L.length * (2000 + 1) ≤ 7 * 2001 := Nat.mul_le_mul l7 (Nat.le_refl _)
    omega
  · unfold far
    have := fars_all fun x hx => (q M x hx).2.2
    omega
  · rw [same M] at h2; cases h2; exact hk
theorem lc_two {gd : D → DL.Env → Option DL.Env} {we : WE} {G : Mem → Prop} {Γ Γ1 : DL.Env} {d1 d2 : D} {k : List D → Mem → Prop} {M : Mem} (g : G M) (h1 : gd d1 Γ = some Γ1)
    (h : ∀ k1 : KD, (∀ y1 M1, (G M1 ∧ ∃ Γ2, gd d2 Γ = some Γ2 ∧ ∀ k2 : KD, (∀ y2 M2, G M2 ∧ k [y1, y2] M2 → k2 y2 M2) → we Γ2 M1 k2) → k1 y1 M1) → we Γ1 M k1) : lcD gd wYes we G Γ [d1, d2] [] M k := by
  unfold lcD
  refine ⟨g, ?_⟩
  rw [h1]
  dsimp only [wYes]
  rw [if_pos rfl]
  refine (h _ fun y1 M1 z => ⟨Nat.le_of_ble_eq_true rfl, ?_⟩)
  obtain ⟨g1, Γ2, e2, q⟩ := z
  unfold lcD
  refine ⟨g1, ?_⟩
  rw [e2]
  dsimp only [wYes]
  rw [if_pos rfl]
  refine (q _ fun y2 M2 z => ⟨Nat.le_of_ble_eq_true rfl, ?_⟩)
  unfold lcD
  exact z
theorem mk_road {B : DD K mg} {M : Mem} {k : KD} {z : Int} (hk : ∀ p lp M', M p = none → M lp = none → RdA B M' p lp z [] → ExtA M M' → k (.cel p) M') :
    ∀ p, M p = none → F_rinit B [.cel p, .int z] (setM M p (.ins B.C_Road [])) fun v M2 => v = .non ∧ k (.cel p) M2 := fun p hp =>
  ⟨p, z, rfl, setM_same, fun lp M' ne hl hr e => ⟨rfl, hk p lp M' hp (by rw [setM_ne ne] at hl; exact hl) hr fun a c ea => by
    have n : a ≠ p := fun y => by rw [y, hp] at ea; cases ea
    exact e a c n (by rw [setM_ne n]; exact ea)⟩⟩
def txB : Bool → Str
  | true => (PyData.bool true).shown
  | false => (PyData.bool false).shown
theorem repr_bl {b : Bool} {M : Mem} {k : KD} (hk : k (.str (txB b)) M) : rdRepr [.bl b] M k := by
  refine r_repr (N := 1000) (by decide) (by unfold fit; rfl) (by unfold heavy; decide) (by unfold far; decide) fun p hp => ?_
  unfold toR at hp
  cases hp
  cases b <;> exact hk
theorem rep_one {x : D} {b : Bool} {M : Mem} {k : KD} (hk : k (.lst (if b = true then [x] else [])) M) : rdInt [.bl b] M fun d M1 => rdRep (.lst [x]) d M1 k := by
  cases b with
  | true => exact ⟨⟨by decide, by decide⟩, Nat.le_of_ble_eq_true rfl, hk⟩
  | false => exact ⟨⟨by decide, by decide⟩, Nat.le_of_ble_eq_true rfl, hk⟩
structure Two (B : DD K mg) (M : Mem) (h g : Addr) (n : Nat) (q u v : Addr) (a b : One) : Prop where
  pt : Pt M h g n
  fst : OneA B M h g a
  snd : OneA B M h g b
  ap : Apart a b
  own : M q = some (.lst [.cel u, .cel v])
theorem Two.symm {B : DD K mg} {M : Mem} {h g : Addr} {n : Nat} {q u v : Addr} {a b : One} (t : Two B M h g n q u v a b) : Two B M h g n q u v b a := ⟨t.pt, t.snd, t.fst, t.ap.symm, t.own⟩
theorem Two.up {B : DD K mg} {M : Mem} {h g : Addr} {n m : Nat} {q u v : Addr} {a b : One} (t : Two B M h g n q u v a b) (z : n ≤ m) : Two B M h g m q u v a b := ⟨t.pt.up z, t.fst, t.snd, t.ap, t.own⟩
theorem own_ne {B : DD K mg} {M : Mem} {h g : Addr} {q u v : Addr} {a : One} (t : OneA B M h g a) (e : M q = some (.lst [.cel u, .cel v])) : q ≠ a.l ∧ q ≠ a.o := by
  have no : ∀ {c : Addr}, M c = some (.lst a.L) → q ≠ c := fun ec z => by
    rw [← z, e] at ec
    have := t.lt (.cel u) (by rw [← Cell.lst.inj (Option.some.inj ec)]; exact List.mem_cons_self)
    unfold LtA tgB at this
    cases this
  exact ⟨no t.rd.2.1, no t.ow⟩
theorem own_pot {M : Mem} {h g : Addr} {n : Nat} {q u v : Addr} (t : Pt M h g n) (e : M q = some (.lst [.cel u, .cel v])) : q ≠ h ∧ q ≠ g := by
  obtain ⟨xs, b, c, e1, e2, _⟩ := t
  refine ⟨fun z => ?_, fun z => ?_⟩
  · rw [z, e1] at e; cases e
  · rw [z, e2] at e
    have := Cell.lst.inj (Option.some.inj e)
    cases xs with
    | nil => cases this
    | cons x r => cases this
/-- a draw -/
theorem Two.px {B : DD K mg} {M M' : Mem} {h g : Addr} {n m : Nat} {q u v : Addr} {a b : One} (t : Two B M h g n q u v a b) (p : Pt M' h g m) (e : Px h g M M') : Two B M' h g m q u v a b :=
  ⟨p, t.fst.px t.pt e, t.snd.px t.pt e, t.ap, e _ _ (own_pot t.pt t.own).1 (own_pot t.pt t.own).2 t.own⟩
/-- a deed on the first -/
theorem Two.deed {B : DD K mg} {M M1 M2 : Mem} {h g : Addr} {n : Nat} {q u v : Addr} {a b : One} {L2 : List D} (t : Two B M h g n q u v a b) (h1 : RdA B M1 a.p a.l a.s L2) (e1 : ∀ x c, x ≠ a.l → M x = some c → M1 x = some c)
    (h2 : M2 a.o = some (.lst L2)) (e2 : ∀ x c, x ≠ a.o → M1 x = some c → M2 x = some c) (l7 : L2.length ≤ 7) (lt : ∀ x ∈ L2, LtA x) : Two B M2 h g n q u v { a with L := L2 } b :=
  ⟨pt_keep t.fst t.pt e1 e2, t.fst.becomes h1 e1 h2 e2 l7 lt, t.fst.other t.snd t.ap e1 e2, t.ap, e2 _ _ (own_ne t.fst t.own).2 (e1 _ _ (own_ne t.fst t.own).1 t.own)⟩
theorem RdA.ext {B : DD K mg} {M M' : Mem} {p lp : Addr} {room : Int} {L : List D} (h : RdA B M p lp room L) (e : ExtA M M') : RdA B M' p lp room L := ⟨e _ _ h.1, e _ _ h.2.1, h.2.2⟩
theorem OneA.ext {B : DD K mg} {M M' : Mem} {h g : Addr} {r : One} (t : OneA B M h g r) (e : ExtA M M') : OneA B M' h g r := t.keep fun a c _ z => e a c z
theorem Pt.ext {M M' : Mem} {h g : Addr} {n : Nat} (t : Pt M h g n) (e : ExtA M M') : Pt M' h g n := by
  obtain ⟨xs, b, c, e1, e2, r⟩ := t
  exact ⟨xs, b, c, e _ _ e1, e _ _ e2, r⟩
def F_pright (B : DD K mg) : FD := fun ds M k => ∃ h g n, ds = [.cel h] ∧ Pt M h g n ∧ n + 2000 ≤ 1000000000 ∧ ∀ M', Pt M' h g (n + 1500) → k (.bl true) M'
theorem ok_pright (T : Txt K mg) (B : DD K mg) (Z : EE P K mg) : DFn P w K mg base 6 B.f_law_right B.fd_law_right p_law_right (F_pright B) := by
  have G_law_pick : DFn P w K mg base 1 B.f_law_pick B.fd_law_pick p_law_pick F_ppick := ok_ppick T B
  have G_law_of : DFn P w K mg base 2 B.f_law_of B.fd_law_of p_law_of F_pof := ok_pof T B
  have G_law_letter : DFn P w K mg base 3 B.f_law_letter B.fd_law_letter p_law_letter F_pletter := ok_pletter T B
  have G_law_thing : DFn P w K mg base 3 B.f_law_thing B.fd_law_thing p_law_thing F_pthing := ok_pthing T B
  have G_law_told : DFn P w K mg base 5 B.f_law_told B.fd_law_told p_law_told (F_ptold B) := ok_ptold T B Z
  have G_law_due : DFn P w K mg base 1 B.f_law_due B.fd_law_due p_law_due F_pdue := ok_pdue T B
  have G_Road___init__ : DFn P w K mg base 1 B.f_Road___init__ B.fd_Road___init__ p_Road___init__ (F_rinit B) := ok_rinit T B
  have G_Road_put : DFn P w K mg base 1 B.f_Road_put B.fd_Road_put p_Road_put (F_rput B) := ok_rput T B
  have G_Road_letters : DFn P w K mg base 1 B.f_Road_letters B.fd_Road_letters p_Road_letters (F_rletters B) := ok_rletters T B
  refine Fun.okD B.d_law_right.F sc_law_right (fun cdv A outer s H E hr => (dss_cons (ds_set (i := 1) sc_law_right.nd (de_lst (da_cons (de_own B.d_law_of G_law_of hr (by first | decide | omega) (da_cons (dv 0) (da_cons (de_lst (da_cons de_int (da_cons de_int (da_cons de_int (da_cons de_int (da_cons de_non da_nil)))))) da_nil))) (da_cons (de_own B.d_law_of G_law_of hr (by first | decide | omega) (da_cons (dv 0) (da_cons (de_lst (da_cons de_int (da_cons de_int (da_cons de_non da_nil)))) da_nil))) da_nil)))) (dss_cons (ds_setLc (i := 2) rfl sc_law_right.nd (di_list (dv 1)) (blkOk_by (own := [("space", 3)]) (N := N_law_right) (sc := defScope s_law_right) (by decide +kernel)) (fun _ _ _ _ _ => (dg_name (i := 3) sc_law_right.nd)) gd_name (fun _ _ _ _ _ => dts_nil) (fun _ _ _ _ _ => (de_if (dt_cmpA c_is (dv 3) de_non) (de_mkD0 B.c_Road B.d_Road___init__ G_Road___init__ hr (by first | decide | omega)) (de_mkK0 B.c_Road B.d_Road___init__ G_Road___init__ hr (by first | decide | omega) (dv 3)))) (sw_true rfl rfl rfl (by decide +kernel))) (dss_cons (ds_par (i := 4) (j := 5) rfl sc_law_right.nd (da_cons (de_lc rfl sc_law_right.nd (di_list (dv 1)) (blkOk_by (own := [("space", 3)]) (N := N_law_right) (sc := defScope s_law_right) (by decide +kernel)) (fun _ _ _ _ _ => (dg_name (i := 3) sc_law_right.nd)) gd_name (fun _ _ _ _ _ => dts_nil) (fun _ _ _ _ _ => (de_if (dt_cmpA c_is (dv 3) de_non) de_int (dv 3)))) (da_cons (de_lstM (da_cons (de_lstM da_nil) (da_cons (de_lstM da_nil) da_nil))) da_nil)) rfl rfl (by decide) rfl rfl (by rfl)) (dss_cons (ds_for rfl (di_range T.b_range (da_cons (de_own B.d_law_pick G_law_pick hr (by first | decide | omega) (da_cons (dv 0) (da_cons de_int da_nil))) da_nil)) (dg_name (i := 6) sc_law_right.nd) (dss_cons (ds_par (i := 7) (j := 8) rfl sc_law_right.nd (da_cons (de_own B.d_law_pick G_law_pick hr (by first | decide | omega) (da_cons (dv 0) (da_cons de_int da_nil))) (da_cons (de_own B.d_law_of G_law_of hr (by first | decide | omega) (da_cons (dv 0) (da_cons (de_lst (da_cons de_str (da_cons de_str (da_cons de_str (da_cons de_str (da_cons de_str (da_cons de_str (da_cons de_str da_nil)))))))) da_nil))) da_nil)) rfl rfl (by decide) rfl rfl (by rfl)) (dss_cons (ds_par3 (i := 9) (j := 10) (l := 11) rfl sc_law_right.nd (da_cons (de_ix (dv 2) (dv 7)) (da_cons (de_ix (dv 5) (dv 7)) (da_cons (de_ix (dv 4) (dv 7)) da_nil))) rfl rfl rfl (by decide) (by decide) (by decide) rfl rfl rfl (by rfl)) (dss_cons (ds_if (dt_cmpA (c_eq hr) (dv 8) de_str) (dss_cons (ds_par (i := 12) (j := 13) rfl sc_law_right.nd (da_cons (de_own B.d_law_letter G_law_letter hr (by first | decide | omega) (da_cons (dv 0) da_nil)) (da_cons (de_cmpA c_lt (de_len T.b_len (dv 10)) (dv 11)) da_nil)) rfl rfl (by decide) rfl rfl (by rfl)) (dss_cons (ds_if (dt_cmpA (c_ne hr) (de_repr hr T.b_repr (de_mth B.c_Road.cl B.d_Road_put G_Road_put hr (by first | decide | omega) (dv 9) (da_cons (dv 12) da_nil))) (de_repr hr T.b_repr (dv 13))) (dss_one (ds_ret de_bl)) dss_nil) (dss_one (ds_expr (de_extend (dv 10) (de_rep (de_lst (da_cons (dv 12) da_nil)) (de_intof T.b_int (dv 13)))))))) (dss_cons (ds_set (i := 14) sc_law_right.nd (de_own B.d_law_thing G_law_thing hr (by first | decide | omega) (da_cons (dv 0) (da_cons (de_len T.b_len (dv 10)) da_nil)))) (dss_one (ds_if (dt_cmpA (c_ne hr) (de_own B.d_law_told G_law_told hr (by first | decide | omega) (da_cons (dv 9) (da_cons (dv 8) (da_cons (dv 14) da_nil)))) (de_own B.d_law_due G_law_due hr (by first | decide | omega) (da_cons (dv 10) (da_cons (dv 11) (da_cons (dv 8) (da_cons (dv 14) da_nil)))))) (dss_one (ds_ret de_bl)) dss_nil)))) (dss_one (ds_if (dt_cmpA (c_ne hr) (de_lc rfl sc_law_right.nd (di_list (dv 2)) (blkOk_by (own := [("one", 15)]) (N := N_law_right) (sc := defScope s_law_right) (by decide +kernel)) (fun _ _ _ _ _ => (dg_name (i := 15) sc_law_right.nd)) gd_name (fun _ _ _ _ _ => dts_nil) (fun _ _ _ _ _ => (de_repr hr T.b_repr (de_mth0 B.c_Road.cl B.d_Road_letters G_Road_letters hr (by first | decide | omega) (dv 15))))) (de_lc rfl sc_law_right.nd (di_list (dv 5)) (blkOk_by (own := [("one", 15)]) (N := N_law_right) (sc := defScope s_law_right) (by decide +kernel)) (fun _ _ _ _ _ => (dg_name (i := 15) sc_law_right.nd)) gd_name (fun _ _ _ _ _ => dts_nil) (fun _ _ _ _ _ => (de_repr hr T.b_repr (de_tuple T.b_tuple (dv 15)))))) (dss_one (ds_ret de_bl)) dss_nil)))))) (dss_one (ds_ret de_bl))))))) (fun ds M k h => ?_)
  obtain ⟨h, g, n, rfl, pt, hn, hk⟩ := h
  (refine ⟨rfl, ?_⟩; rw [show startD N_law_right [.cel h] = [some (.cel h), none, none, none, none, none, none, none, none, none, none, none, none, none, none, none] from rfl])
  have hz := sizeLine_eq
  refine seq_step ?_
  simp only [wNext, wBreak, wContinue, wExpr, wRet, wRetN, wSet, wAsg, wPar, wPar3, wSub, wTst, wOp, wChain, wNotT, wAndV, wOrV, wNotV, wIf, wNil, wCons, wTup, wLst, wLstM, wCall, wCall0, wVar, wC, wLc, wLcM, wYes, wiL, wiT, wiS, wiR, wiEnT, wiEnL, wiZip, wSl, woNone, woSome, wMt, wJoin, wGet, wUn, DL.wTru, wDNew, fin, List.getElem?_cons_zero, List.getElem?_cons_succ, List.set_cons_zero, List.set_cons_succ]
  refine ⟨Nat.le_of_ble_eq_true rfl, h, g, n, _, _, rfl, pt, by omega, .inr rfl, by simp, by simp, fun s1 M1 hs1 h1 e1 => ?_⟩
  refine ⟨Nat.le_of_ble_eq_true rfl, h, g, n + 1, _, _, rfl, h1, by omega, .inr rfl, by simp, by simp, fun s2 M2 hs2 h2 e2 => ⟨Nat.le_of_ble_eq_true rfl, ?_⟩⟩
  refine seq_step ?_
  simp only [wMthX, wDelL, wRaise0, wDef, wKwd, wFld, wPutF, wAugF, wMth, wMk, wSplit, wStarts, wListMD, wNext, wBreak, wContinue, wExpr, wRet, wRetN, wSet, wAsg, wPar, wPar3, wSub, wTst, wOp, wChain, wNotT, wAndV, wOrV, wNotV, wIf, wNil, wCons, wTup, wLst, wLstM, wCall, wCall0, wVar, wC, wLc, wLcM, wYes, wiL, wiT, wiS, wiR, wiEnT, wiEnL, wiZip, wSl, woNone, woSome, wMt, wJoin, wGet, wUn, DL.wTru, wDNew, fin, List.getElem?_cons_zero, List.getElem?_cons_succ, List.set_cons_zero, List.set_cons_succ]
  obtain ⟨z1, r1, zz1⟩ : ∃ z1 : Int, (1 ≤ z1 ∧ z1 ≤ 7) ∧ (s1 = .non ∧ z1 = 4 ∨ s1 = .int z1) := by
    simp only [List.mem_cons, List.not_mem_nil, or_false] at hs1
    rcases hs1 with rfl | rfl | rfl | rfl | rfl
    · exact ⟨1, by decide, .inr rfl⟩
    · exact ⟨2, by decide, .inr rfl⟩
    · exact ⟨4, by decide, .inr rfl⟩
    · exact ⟨7, by decide, .inr rfl⟩
    · exact ⟨4, by decide, .inl ⟨rfl, rfl⟩⟩
  obtain ⟨z2, r2, zz2⟩ : ∃ z2 : Int, (1 ≤ z2 ∧ z2 ≤ 7) ∧ (s2 = .non ∧ z2 = 4 ∨ s2 = .int z2) := by
    simp only [List.mem_cons, List.not_mem_nil, or_false] at hs2
    rcases hs2 with rfl | rfl | rfl
    · exact ⟨1, by decide, .inr rfl⟩
    · exact ⟨3, by decide, .inr rfl⟩
    · exact ⟨4, by decide, .inl ⟨rfl, rfl⟩⟩
  have made : ∀ (s : D) (z : Int) (Γ : DL.Env) (M : Mem) (k : KD), (s = .non ∧ z = 4 ∨ s = .int z) → Γ[3]? = some (some s) → (∀ p lp M', M p = none → M lp = none → RdA B M' p lp z [] → ExtA M M' → k (.cel p) M') →
      wIf (wTst (wOp (rdIs id) (wVar 3) (wC D.non))) (wMk B.C_Road (F_rinit B) (wDef [D.int 4] wNil)) (wMk B.C_Road (F_rinit B) (wKwd 0 wNil (wVar 3))) Γ M k := fun s z Γ M k hs e hk => by
    rcases hs with ⟨rfl, rfl⟩ | rfl
    · simp only [wMthX, wDelL, wRaise0, wDef, wKwd, wFld, wPutF, wAugF, wMth, wMk, wSplit, wStarts, wListMD, wNext, wBreak, wContinue, wExpr, wRet, wRetN, wSet, wAsg, wPar, wPar3, wSub, wTst, wOp, wChain, wNotT, wAndV, wOrV, wNotV, wIf, wNil, wCons, wTup, wLst, wLstM, wCall, wCall0, wVar, wC, wLc, wLcM, wYes, wiL, wiT, wiS, wiR, wiEnT, wiEnL, wiZip, wSl, woNone, woSome, wMt, wJoin, wGet, wUn, DL.wTru, wDNew, fin, List.getElem?_cons_zero, List.getElem?_cons_succ, List.set_cons_zero, List.set_cons_succ, e]
      exact mk_road (B := B) hk
    · simp only [wMthX, wDelL, wRaise0, wDef, wKwd, wFld, wPutF, wAugF, wMth, wMk, wSplit, wStarts, wListMD, wNext, wBreak, wContinue, wExpr, wRet, wRetN, wSet, wAsg, wPar, wPar3, wSub, wTst, wOp, wChain, wNotT, wAndV, wOrV, wNotV, wIf, wNil, wCons, wTup, wLst, wLstM, wCall, wCall0, wVar, wC, wLc, wLcM, wYes, wiL, wiT, wiS, wiR, wiEnT, wiEnL, wiZip, wSl, woNone, woSome, wMt, wJoin, wGet, wUn, DL.wTru, wDNew, fin, List.getElem?_cons_zero, List.getElem?_cons_succ, List.set_cons_zero, List.set_cons_succ, e]
      exact ⟨rfl, mk_road (B := B) hk⟩
  have lims : ∀ (s : D) (z : Int) (Γ : DL.Env) (M : Mem) (k : KD), (s = .non ∧ z = 4 ∨ s = .int z) → Γ[3]? = some (some s) → k (.int z) M → wIf (wTst (wOp (rdIs id) (wVar 3) (wC D.non))) (wC (D.int 4)) (wVar 3) Γ M k := fun s z Γ M k hs e hk => by
    rcases hs with ⟨rfl, rfl⟩ | rfl
    · simp only [wNext, wBreak, wContinue, wExpr, wRet, wRetN, wSet, wAsg, wPar, wPar3, wSub, wTst, wOp, wChain, wNotT, wAndV, wOrV, wNotV, wIf, wNil, wCons, wTup, wLst, wLstM, wCall, wCall0, wVar, wC, wLc, wLcM, wYes, wiL, wiT, wiS, wiR, wiEnT, wiEnL, wiZip, wSl, woNone, woSome, wMt, wJoin, wGet, wUn, DL.wTru, wDNew, fin, List.getElem?_cons_zero, List.getElem?_cons_succ, List.set_cons_zero, List.set_cons_succ, e]
      exact hk
    · simp only [wNext, wBreak, wContinue, wExpr, wRet, wRetN, wSet, wAsg, wPar, wPar3, wSub, wTst, wOp, wChain, wNotT, wAndV, wOrV, wNotV, wIf, wNil, wCons, wTup, wLst, wLstM, wCall, wCall0, wVar, wC, wLc, wLcM, wYes, wiL, wiT, wiS, wiR, wiEnT, wiEnL, wiZip, wSl, woNone, woSome, wMt, wJoin, wGet, wUn, DL.wTru, wDNew, fin, List.getElem?_cons_zero, List.getElem?_cons_succ, List.set_cons_zero, List.set_cons_succ, e]
      exact hk
  refine (show lcD (gN 3) wYes _ _ _ [s1, s2] [] M2 _ from lc_two rfl rfl ?_)
  refine fun k1 u1 => made s1 z1 _ M2 _ zz1 rfl fun p1 l1 M3 hp1 hl1 hr1 e3 => u1 _ _ ⟨rfl, _, rfl, fun k2 u2 => made s2 z2 _ M3 _ zz2 rfl fun p2 l2 M4 hp2 hl2 hr2 e4 => u2 _ _ ⟨rfl, ?_⟩⟩
  refine seq_step ?_
  simp only [wMthX, wDelL, wRaise0, wDef, wKwd, wFld, wPutF, wAugF, wMth, wMk, wSplit, wStarts, wListMD, wNext, wBreak, wContinue, wExpr, wRet, wRetN, wSet, wAsg, wPar, wPar3, wSub, wTst, wOp, wChain, wNotT, wAndV, wOrV, wNotV, wIf, wNil, wCons, wTup, wLst, wLstM, wCall, wCall0, wVar, wC, wLc, wLcM, wYes, wiL, wiT, wiS, wiR, wiEnT, wiEnL, wiZip, wSl, woNone, woSome, wMt, wJoin, wGet, wUn, DL.wTru, wDNew, fin, List.getElem?_cons_zero, List.getElem?_cons_succ, List.set_cons_zero, List.set_cons_succ]
  refine (show lcD (gN 3) wYes _ _ _ [s1, s2] [] M4 _ from lc_two rfl rfl ?_)
  refine fun k1 u1 => lims s1 z1 _ M4 _ zz1 rfl (u1 _ _ ⟨rfl, _, rfl, fun k2 u2 => lims s2 z2 _ M4 _ zz2 rfl (u2 _ _ ⟨rfl, ?_⟩)⟩)
  refine ⟨Nat.zero_le _, fun o1 ho1 => ⟨Nat.zero_le _, fun o2 ho2 => ⟨Nat.le_of_ble_eq_true rfl, fun q hq => ?_⟩⟩⟩
  refine seq_step ?_
  simp only [wFor, wNext, wBreak, wContinue, wExpr, wRet, wRetN, wSet, wAsg, wPar, wPar3, wSub, wTst, wOp, wChain, wNotT, wAndV, wOrV, wNotV, wIf, wNil, wCons, wTup, wLst, wLstM, wCall, wCall0, wVar, wC, wLc, wLcM, wYes, wiL, wiT, wiS, wiR, wiEnT, wiEnL, wiZip, wSl, woNone, woSome, wMt, wJoin, wGet, wUn, DL.wTru, wDNew, fin, List.getElem?_cons_zero, List.getElem?_cons_succ, List.set_cons_zero, List.set_cons_succ]
  have a1 : ∀ {M : Mem} {x : Addr} {c : Cell}, M x = none → ExtA M (setM M x c) := fun hx a c e => by rw [setM_ne (fun z => by rw [z, hx] at e; cases e)]; exact e
  have x5 := a1 (c := .lst []) ho1
  have x6 := a1 (c := .lst []) ho2
  have x7 := a1 (c := .lst [.cel o1, .cel o2]) hq
  have two : Two B (setM (setM (setM M4 o1 (Cell.lst [])) o2 (Cell.lst [])) q (Cell.lst [D.cel o1, D.cel o2])) h g (n + 2) q o1 o2 ⟨p1, l1, o1, z1, []⟩ ⟨p2, l2, o2, z2, []⟩ := by
    have pt4 := (h2.ext e3).ext e4
    have pt5 := pt4.ext x5
    have q1 := hr1.ext e4
    have m5 : setM M4 o1 (Cell.lst []) o1 = some (.lst []) := setM_same
    have m6 : setM (setM M4 o1 (Cell.lst [])) o2 (Cell.lst []) o2 = some (.lst []) := setM_same
    have k1 : OneA B (setM M4 o1 (Cell.lst [])) h g ⟨p1, l1, o1, z1, []⟩ := ⟨q1.ext x5, m5, neM q1.2.1 ho1, h2.fresh hl1, pt4.fresh ho1, r1, Nat.zero_le _, fun _ z => nomatch z⟩
    have k2 : OneA B (setM (setM M4 o1 (Cell.lst [])) o2 (Cell.lst [])) h g ⟨p2, l2, o2, z2, []⟩ := ⟨(hr2.ext x5).ext x6, m6, neM (hr2.ext x5).2.1 ho2, (h2.ext e3).fresh hl2, pt5.fresh ho2, r2, Nat.zero_le _, fun _ z => nomatch z⟩
    exact ⟨(pt5.ext x6).ext x7, (k1.ext x6).ext x7, k2.ext x7, ⟨neM hr1.2.1 hl2, neM (q1.ext x5).2.1 ho2, Ne.symm (neM hr2.2.1 ho1), neM m5 ho2⟩, setM_same⟩
  refine ⟨h, g, n + 2, 31, rfl, two.pt, by omega, by decide, by decide, fun r M5 r0 r31 h5 e5 => ?_⟩
  have two5 := two.px h5 e5
  obtain ⟨c, rfl⟩ : ∃ c : Nat, r = (c : Nat) := ⟨r.toNat, by omega⟩
  refine ⟨⟨by omega, by omega⟩, ?_⟩
  refine loop_inv (fun its Γ M' => its.length ≤ 31 ∧ ∃ L1 L2, Two B M' h g (n + 3 + 40 * (31 - its.length)) q o1 o2 ⟨p1, l1, o1, z1, L1⟩ ⟨p2, l2, o2, z2, L2⟩ ∧ ∃ x6 x7 x8 x9 x10 x11 x12 x13 x14 x15, Γ = [some (.cel h), some (.lst [s1, s2]), some (.lst [.cel p1, .cel p2]), none, some (.lst [.int z1, .int z2]), some (.cel q), x6, x7, x8, x9, x10, x11, x12, x13, x14, x15]) (fun _ _ _ _ => trivial) ?_ ?_ _ _ _
    ⟨by rw [rng_len]; omega, [], [], two5.up (by omega), _, _, _, _, _, _, _, _, _, _, rfl⟩
  · rintro Γ M' ⟨_, L1, L2, t, x6, x7, x8, x9, x10, x11, x12, x13, x14, x15, rfl⟩
    exact hk M' (t.pt.up (by have : ([] : List D).length = 0 := rfl; omega))
  · rintro d its Γ M' ⟨hl, L1, L2, t, x6, x7, x8, x9, x10, x11, x12, x13, x14, x15, rfl⟩
    simp only [List.length_cons] at hl t
    refine ⟨_, rfl, fun k' v1 v2 v3 v4 => ?_⟩
    obtain ⟨N, eN⟩ : ∃ N, N = n + 3 + 40 * (31 - (its.length + 1)) := ⟨_, rfl⟩
    rw [← eN] at t
    have hN : N + 40 ≤ n + 3 + 40 * (31 - its.length) := by omega
    have hN2 : N ≤ n + 1250 := by omega
    refine seq_step ?_
    simp only [wNext, wBreak, wContinue, wExpr, wRet, wRetN, wSet, wAsg, wPar, wPar3, wSub, wTst, wOp, wChain, wNotT, wAndV, wOrV, wNotV, wIf, wNil, wCons, wTup, wLst, wLstM, wCall, wCall0, wVar, wC, wLc, wLcM, wYes, wiL, wiT, wiS, wiR, wiEnT, wiEnL, wiZip, wSl, woNone, woSome, wMt, wJoin, wGet, wUn, DL.wTru, wDNew, fin, List.getElem?_cons_zero, List.getElem?_cons_succ, List.set_cons_zero, List.set_cons_succ]
    refine ⟨h, g, N, 2, rfl, t.pt, by omega, by decide, by decide, fun at' M6 a0 a2 h6 e6 => ?_⟩
    have t6 := t.px h6 e6
    refine ⟨Nat.le_of_ble_eq_true rfl, h, g, N + 1, _, _, rfl, t6.pt, by omega, .inr rfl, by simp, by simp, fun way M7 hway h7 e7 => ?_⟩
    have t7 := t6.px h7 e7
    refine seq_step ?_
    simp only [wNext, wBreak, wContinue, wExpr, wRet, wRetN, wSet, wAsg, wPar, wPar3, wSub, wTst, wOp, wChain, wNotT, wAndV, wOrV, wNotV, wIf, wNil, wCons, wTup, wLst, wLstM, wCall, wCall0, wVar, wC, wLc, wLcM, wYes, wiL, wiT, wiS, wiR, wiEnT, wiEnL, wiZip, wSl, woNone, woSome, wMt, wJoin, wGet, wUn, DL.wTru, wDNew, fin, List.getElem?_cons_zero, List.getElem?_cons_succ, List.set_cons_zero, List.set_cons_succ]
    obtain ⟨c, o, tc, ix1, ix2, ix3, fin⟩ : ∃ c o : One, Two B M7 h g (N + 2) q o1 o2 c o ∧ atI [D.cel p1, D.cel p2] at' = some (.cel c.p) ∧ atI [D.cel o1, D.cel o2] at' = some (.cel c.o) ∧ atI [D.int z1, D.int z2] at' = some (.int c.s) ∧
        ∀ M' L', Two B M' h g (N + 30) q o1 o2 { c with L := L' } o → ∃ L1 L2, Two B M' h g (N + 30) q o1 o2 ⟨p1, l1, o1, z1, L1⟩ ⟨p2, l2, o2, z2, L2⟩ := by
      have : at' = 0 ∨ at' = 1 := by omega
      rcases this with rfl | rfl
      · exact ⟨_, _, t7, rfl, rfl, rfl, fun M' L' z => ⟨L', L2, z⟩⟩
      · exact ⟨_, _, t7.symm, rfl, rfl, rfl, fun M' L' z => ⟨L1, L', z.symm⟩⟩
    obtain ⟨way', rfl, hwy⟩ : ∃ w' : Str, way = .str w' ∧ (w' = Str.ofString "put" ∨ (w' = Str.ofString "bring" ∨ w' = Str.ofString "lose" ∨ w' = Str.ofString "double")) := by
      simp only [List.mem_cons, List.not_mem_nil, or_false] at hway
      rcases hway with rfl | rfl | rfl | rfl | rfl | rfl | rfl
      · exact ⟨_, rfl, .inl rfl⟩
      · exact ⟨_, rfl, .inl rfl⟩
      · exact ⟨_, rfl, .inl rfl⟩
      · exact ⟨_, rfl, .inr (.inl rfl)⟩
      · exact ⟨_, rfl, .inr (.inr (.inl rfl))⟩
      · exact ⟨_, rfl, .inr (.inr (.inr rfl))⟩
      · exact ⟨_, rfl, .inr (.inr (.inr rfl))⟩
    refine ix_lst ix1 (ix_cel tc.own ix2 (ix_lst ix3 ?_))
    refine seq_join (fun Γ' M' => (∃ L', Two B M' h g (N + 30) q o1 o2 { c with L := L' } o) ∧ ∃ x7 x8 x9 x10 x11 x12 x13 x14, Γ' = [some (.cel h), some (.lst [s1, s2]), some (.lst [.cel p1, .cel p2]), none, some (.lst [.int z1, .int z2]), some (.cel q), some d, x7, x8, x9, x10, x11, x12, x13, x14, x15]) ?_ ?_
    · rintro Γ' M' ⟨⟨L', z⟩, x7, x8, x9, x10, x11, x12, x13, x14, rfl⟩
      simp only [wIfS, wTst, wMthX, wDelL, wRaise0, wDef, wKwd, wFld, wPutF, wAugF, wMth, wMk, wSplit, wStarts, wListMD, wNext, wBreak, wContinue, wExpr, wRet, wRetN, wSet, wAsg, wPar, wPar3, wSub, wTst, wOp, wChain, wNotT, wAndV, wOrV, wNotV, wIf, wNil, wCons, wTup, wLst, wLstM, wCall, wCall0, wVar, wC, wLc, wLcM, wYes, wiL, wiT, wiS, wiR, wiEnT, wiEnL, wiZip, wSl, woNone, woSome, wMt, wJoin, wGet, wUn, DL.wTru, wDNew, fin, List.getElem?_cons_zero, List.getElem?_cons_succ, List.set_cons_zero, List.set_cons_succ]
      obtain ⟨L1, L2, t9⟩ := fin M' L' z
      obtain ⟨y1, ok1, tx1⟩ := row_text t9.fst.ln t9.fst.lt
      obtain ⟨y2, ok2, tx2⟩ := row_text t9.snd.ln t9.snd.lt
      refine (show lcD (gN 15) wYes _ _ _ [.cel p1, .cel p2] [] M' _ from lc_two rfl rfl ?_)
      refine fun u1 w1 => ?_
      simp only [wMthX, wDelL, wRaise0, wDef, wKwd, wFld, wPutF, wAugF, wMth, wMk, wSplit, wStarts, wListMD, wNext, wBreak, wContinue, wExpr, wRet, wRetN, wSet, wAsg, wPar, wPar3, wSub, wTst, wOp, wChain, wNotT, wAndV, wOrV, wNotV, wIf, wNil, wCons, wTup, wLst, wLstM, wCall, wCall0, wVar, wC, wLc, wLcM, wYes, wiL, wiT, wiS, wiR, wiEnT, wiEnL, wiZip, wSl, woNone, woSome, wMt, wJoin, wGet, wUn, DL.wTru, wDNew, fin, List.getElem?_cons_zero, List.getElem?_cons_succ, List.set_cons_zero, List.set_cons_succ]
      refine ⟨p1, _, rfl, t9.fst.rd.1, rd_no _ _ _ (by decide +kernel), ⟨p1, l1, z1, L1, rfl, t9.fst.rd, tx1 _ _ (w1 _ _ ⟨rfl, _, rfl, fun u2 w2 => ?_⟩)⟩⟩
      refine ⟨p2, _, rfl, t9.snd.rd.1, rd_no _ _ _ (by decide +kernel), ⟨p2, l2, z2, L2, rfl, t9.snd.rd, tx2 _ _ (w2 _ _ ⟨rfl, ?_⟩)⟩⟩
      have own9 : asR M' (.cel q) = some [.cel o1, .cel o2] := by unfold asR; simp only [t9.own]
      rw [own9]
      refine (show lcD (gN 15) wYes _ _ _ [.cel o1, .cel o2] [] M' _ from lc_two own9 rfl ?_)
      refine fun u3 w3 => ?_
      simp only [wNext, wBreak, wContinue, wExpr, wRet, wRetN, wSet, wAsg, wPar, wPar3, wSub, wTst, wOp, wChain, wNotT, wAndV, wOrV, wNotV, wIf, wNil, wCons, wTup, wLst, wLstM, wCall, wCall0, wVar, wC, wLc, wLcM, wYes, wiL, wiT, wiS, wiR, wiEnT, wiEnL, wiZip, wSl, woNone, woSome, wMt, wJoin, wGet, wUn, DL.wTru, wDNew, fin, List.getElem?_cons_zero, List.getElem?_cons_succ, List.set_cons_zero, List.set_cons_succ]
      refine r_tupC t9.fst.ow (tx1 _ _ (w3 _ _ ⟨own9, _, rfl, fun u4 w4 => ?_⟩))
      refine (show rdTuple [.cel o2] M' (fun d M1 => rdRepr [d] M1 u4) from r_tupC t9.snd.ow (tx2 _ _ (w4 _ _ ⟨own9, ?_⟩)))
      refine (show rdEq not (.lst ([y1, y2].map D.str)) (.lst ([y1, y2].map D.str)) M' _ from eq_strs ?_ ?_ ?_)
      · intro s hs
        simp only [List.mem_cons, List.not_mem_nil, or_false] at hs
        rcases hs with rfl | rfl <;> assumption
      · intro s hs
        simp only [List.mem_cons, List.not_mem_nil, or_false] at hs
        rcases hs with rfl | rfl <;> assumption
      rw [decide_eq_true rfl]
      refine v3 _ _ ⟨by omega, L1, L2, t9.up (by omega), _, _, _, _, _, _, _, _, _, _, rfl⟩
    · intro nx hnx
      unfold wIfS
      simp only [wTst, wNext, wBreak, wContinue, wExpr, wRet, wRetN, wSet, wAsg, wPar, wPar3, wSub, wTst, wOp, wChain, wNotT, wAndV, wOrV, wNotV, wIf, wNil, wCons, wTup, wLst, wLstM, wCall, wCall0, wVar, wC, wLc, wLcM, wYes, wiL, wiT, wiS, wiR, wiEnT, wiEnL, wiZip, wSl, woNone, woSome, wMt, wJoin, wGet, wUn, DL.wTru, wDNew, fin, List.getElem?_cons_zero, List.getElem?_cons_succ, List.set_cons_zero, List.set_cons_succ]
      refine eq_strA ?_
      by_cases hp : way' = Str.ofString "put"
      · rw [decide_eq_true hp]
        refine (show (if true = true then _ else _) from ?_)
        rw [if_pos rfl]
        refine seq_step ?_
        simp only [wNext, wBreak, wContinue, wExpr, wRet, wRetN, wSet, wAsg, wPar, wPar3, wSub, wTst, wOp, wChain, wNotT, wAndV, wOrV, wNotV, wIf, wNil, wCons, wTup, wLst, wLstM, wCall, wCall0, wVar, wC, wLc, wLcM, wYes, wiL, wiT, wiS, wiR, wiEnT, wiEnL, wiZip, wSl, woNone, woSome, wMt, wJoin, wGet, wUn, DL.wTru, wDNew, fin, List.getElem?_cons_zero, List.getElem?_cons_succ, List.set_cons_zero, List.set_cons_succ]
        refine ⟨h, g, N + 2, rfl, tc.pt, by omega, fun x M8 hx h8 e8 => ?_⟩
        have t8 := tc.px h8 e8
        refine r_lenC t8.fst.ow (r_ordI ?_)
        refine seq_step ?_
        simp only [wIfS, wTst, wMthX, wDelL, wRaise0, wDef, wKwd, wFld, wPutF, wAugF, wMth, wMk, wSplit, wStarts, wListMD, wNext, wBreak, wContinue, wExpr, wRet, wRetN, wSet, wAsg, wPar, wPar3, wSub, wTst, wOp, wChain, wNotT, wAndV, wOrV, wNotV, wIf, wNil, wCons, wTup, wLst, wLstM, wCall, wCall0, wVar, wC, wLc, wLcM, wYes, wiL, wiT, wiS, wiR, wiEnT, wiEnL, wiZip, wSl, woNone, woSome, wMt, wJoin, wGet, wUn, DL.wTru, wDNew, fin, List.getElem?_cons_zero, List.getElem?_cons_succ, List.set_cons_zero, List.set_cons_succ]
        refine ⟨c.p, _, rfl, t8.fst.rd.1, rd_no _ _ _ (by decide +kernel), ⟨c.p, c.l, c.s, c.L, x, rfl, t8.fst.rd, by have := t8.fst.ln; omega, ?_⟩⟩
        refine repr_bl (repr_bl (eq_strA ?_))
        rw [decide_eq_true rfl]
        refine (show (if false = true then _ else _) from ?_)
        rw [if_neg Bool.false_ne_true]
        have l8 := t8.fst.ln
        have s8 := t8.fst.s0
        by_cases z : (c.L.length : Int) < c.s
        · rw [decide_eq_true z, if_pos z]
          have ow9 : setM M8 c.l (Cell.lst (c.L ++ [x])) c.o = some (.lst c.L) := by rw [setM_ne (Ne.symm t8.fst.lo)]; exact t8.fst.ow
          refine ⟨⟨_, ow9⟩, Nat.le_of_ble_eq_true rfl, rep_one ?_⟩
          refine r_ext (xs := c.L) (ys := [x]) ow9 rfl ?_ (hnx _ (setM (setM M8 c.l (Cell.lst (c.L ++ [x]))) c.o (Cell.lst (c.L ++ [x]))) ⟨⟨c.L ++ [x], (t8.up (m := N + 30) (by omega)).deed t8.fst.rd.put (fun a e n q => by rw [setM_ne n]; exact q) setM_same (fun a e n q => by rw [setM_ne n]; exact q) ?_ ?_⟩, _, _, _, _, _, _, _, _, rfl⟩)
          · simp; omega
          · simp; omega
          · intro y hy
            rcases List.mem_append.mp hy with hy | hy
            · exact t8.fst.lt y hy
            · rw [List.mem_singleton] at hy; subst hy; exact hx
        · rw [decide_eq_false z, if_neg z]
          refine ⟨⟨_, t8.fst.ow⟩, Nat.le_of_ble_eq_true rfl, rep_one ?_⟩
          refine r_ext (xs := c.L) (ys := []) t8.fst.ow rfl (by simp; omega) (hnx _ (setM M8 c.o (Cell.lst (c.L ++ []))) ⟨⟨c.L, (t8.up (m := N + 30) (by omega)).deed t8.fst.rd (fun a e n q => q) (by rw [List.append_nil]; exact setM_same) (fun a e n q => by rw [setM_ne n]; exact q) l8 t8.fst.lt⟩, _, _, _, _, _, _, _, _, rfl⟩)
      · rw [decide_eq_false hp]
        refine (show (if false = true then _ else _) from ?_)
        rw [if_neg Bool.false_ne_true]
        refine seq_step ?_
        simp only [wNext, wBreak, wContinue, wExpr, wRet, wRetN, wSet, wAsg, wPar, wPar3, wSub, wTst, wOp, wChain, wNotT, wAndV, wOrV, wNotV, wIf, wNil, wCons, wTup, wLst, wLstM, wCall, wCall0, wVar, wC, wLc, wLcM, wYes, wiL, wiT, wiS, wiR, wiEnT, wiEnL, wiZip, wSl, woNone, woSome, wMt, wJoin, wGet, wUn, DL.wTru, wDNew, fin, List.getElem?_cons_zero, List.getElem?_cons_succ, List.set_cons_zero, List.set_cons_succ]
        refine r_lenC tc.fst.ow ⟨h, g, N + 2, c.L.length, rfl, tc.pt, by omega, by have := tc.fst.ln; omega, fun th M8 hth h8 e8 => ?_⟩
        have t8 := tc.px h8 e8
        simp only [wIfS, wTst, wMthX, wDelL, wRaise0, wDef, wKwd, wFld, wPutF, wAugF, wMth, wMk, wSplit, wStarts, wListMD, wNext, wBreak, wContinue, wExpr, wRet, wRetN, wSet, wAsg, wPar, wPar3, wSub, wTst, wOp, wChain, wNotT, wAndV, wOrV, wNotV, wIf, wNil, wCons, wTup, wLst, wLstM, wCall, wCall0, wVar, wC, wLc, wLcM, wYes, wiL, wiT, wiS, wiR, wiEnT, wiEnL, wiZip, wSl, woNone, woSome, wMt, wJoin, wGet, wUn, DL.wTru, wDNew, fin, List.getElem?_cons_zero, List.getElem?_cons_succ, List.set_cons_zero, List.set_cons_succ]
        have hwy' := hwy.resolve_left hp
        obtain ⟨tx, L', out, l7, lt'⟩ := out_is (room := c.s) hth (by decide) (by decide) hwy' (by have := t8.fst.s0; omega) t8.fst.ln t8.fst.lt
        have ok := hth.ok (by decide)
        refine ⟨c.p, c.l, c.s, c.L, _, th, tx, L', rfl, t8.fst.rd, by have := t8.fst.ln; omega, ok, hwy', out, fun M9 hr9 e9 => ?_⟩
        have gd := gd_keep t8.fst e9
        have np : c.o ≠ c.l := Ne.symm t8.fst.lo
        refine ⟨c.o, c.s, c.L, _, th, tx, L', rfl, e9 _ _ np t8.fst.ow, by have := t8.fst.ln; omega, (hth.up gd (Nat.le_refl _) (Nat.le_refl _)).ok (by decide), hwy', out.grow gd, fun M10 h10 e10 => ?_⟩
        refine eq_strA ?_
        rw [decide_eq_true rfl]
        refine (show (if false = true then _ else _) from ?_)
        rw [if_neg Bool.false_ne_true]
        exact hnx _ _ ⟨⟨L', (t8.up (m := N + 30) (by omega)).deed hr9 e9 h10 e10 l7 lt'⟩, _, _, _, _, _, _, _, _, rfl⟩
end
end K04

set_option autoImplicit false
set_option maxRecDepth 100000
set_option maxHeartbeats 4000000
namespace K04
open PySem L2 DL
section
variable {P : Program} {w : World} {K : PySem.W.Frag} {mg : Str → Option Value} {base : Heap}
theorem bools_rep : ∀ n : Nat, boolsD (List.replicate n (.bl true)) = some (List.replicate n true)
  | 0 => rfl
  | n + 1 => by
    rw [List.replicate_succ, List.replicate_succ]
    unfold boolsD
    simp only [bools_rep n]
theorem r_allRep {n : Nat} {M : Mem} {k : KD} (hk : k (.bl true) M) : rdAll [.lst (List.replicate n (.bl true))] M k := by
  unfold rdAll asR
  simp only [bools_rep]
  have e : (List.replicate n true).all id = true := by simp
  first | (rw [e]; exact hk) | exact hk
theorem repr_four {M : Mem} {k : KD} (hk : k (.str (Str.ofString "4")) M) : rdRepr [.int 4] M k := by
  refine r_repr (N := 1000) (by decide) (by unfold fit; rfl) (by unfold heavy; decide +kernel) (by unfold far; decide) fun p hp => ?_
  unfold toR at hp
  cases hp
  rw [show (PyData.int 4).shown = Str.ofString "4" from by unfold PyData.shown; decide +kernel]
  exact hk
def F_law : FD := fun ds M k => ∃ ns : List Int, ds = [.scr (ns.map D.int)] ∧ ns.length ≤ 63 ∧ ∀ M', k (.bl true) M'
theorem ok_law (T : Txt K mg) (B : DD K mg) (Z : EE P K mg) : DFn P w K mg base 7 B.f_law B.fd_law p_law F_law := by
  have G_law_begin : DFn P w K mg base 1 B.f_law_begin B.fd_law_begin p_law_begin F_pbegin := ok_pbegin T B
  have G_law_right : DFn P w K mg base 6 B.f_law_right B.fd_law_right p_law_right (F_pright B) := ok_pright T B Z
  refine Fun.okD (k := 6) B.d_law.F sc_law (fun cdv A outer s H E hr => (dss_cons (ds_set (i := 1) sc_law.nd (de_own B.d_law_begin G_law_begin hr (by first | decide | omega) (da_cons (dv 0) da_nil))) (dss_cons (ds_if (dt_cmpA (c_ne hr) (de_repr hr T.b_repr T.e_ROOM) de_str) (dss_one (ds_ret de_bl)) dss_nil) (dss_one (ds_ret (de_all rfl T.b_all (de_lc rfl sc_law.nd (di_range T.b_range (da_cons (de_add de_int (de_min2 rfl T.b_min (de_len T.b_len (dv 0)) de_int)) da_nil)) (blkOk_by (own := [("turn", 2)]) (N := N_law) (sc := defScope s_law) (by decide +kernel)) (fun _ _ _ _ _ => (dg_name (i := 2) sc_law.nd)) gd_name (fun _ _ _ _ _ => dts_nil) (fun _ _ _ _ _ => (de_own B.d_law_right G_law_right hr (by first | decide | omega) (da_cons (dv 1) da_nil)))))))))) (fun ds M k h => ?_)
  obtain ⟨ns, rfl, hn, hk⟩ := h
  (refine ⟨rfl, ?_⟩; rw [show startD N_law [.scr (ns.map D.int)] = [some (.scr (ns.map D.int)), none, none] from rfl])
  have hz := sizeLine_eq
  refine seq_step ?_
  simp only [wUpd, wDisp1, wNext, wBreak, wContinue, wExpr, wRet, wRetN, wSet, wAsg, wPar, wPar3, wSub, wTst, wOp, wChain, wNotT, wAndV, wOrV, wNotV, wIf, wNil, wCons, wTup, wLst, wLstM, wCall, wCall0, wVar, wC, wLc, wLcM, wYes, wiL, wiT, wiS, wiR, wiEnT, wiEnL, wiZip, wSl, woNone, woSome, wMt, wJoin, wGet, wUn, DL.wTru, wDNew, fin, List.getElem?_cons_zero, List.getElem?_cons_succ, List.set_cons_zero, List.set_cons_succ]
  refine ⟨ns, rfl, hn, fun h g M1 h1 e1 => ?_⟩
  refine seq_step ?_
  try unfold wIfS
  try simp only [wUpd, wDisp1, wNext, wBreak, wContinue, wExpr, wRet, wRetN, wSet, wAsg, wPar, wPar3, wSub, wTst, wOp, wChain, wNotT, wAndV, wOrV, wNotV, wIf, wNil, wCons, wTup, wLst, wLstM, wCall, wCall0, wVar, wC, wLc, wLcM, wYes, wiL, wiT, wiS, wiR, wiEnT, wiEnL, wiZip, wSl, woNone, woSome, wMt, wJoin, wGet, wUn, DL.wTru, wDNew, fin, List.getElem?_cons_zero, List.getElem?_cons_succ, List.set_cons_zero, List.set_cons_succ]
  refine repr_four ?_
  refine eq_strA ?_
  rw [decide_eq_true rfl]
  refine (show (if false = true then _ else _) from ?_)
  rw [if_neg Bool.false_ne_true]
  refine r_lenR (r_min2 (r_add ⟨⟨by split <;> omega, by split <;> omega⟩, ?_⟩))
  refine lc_inv (fun its acc M' => ∃ h' g' : Addr, h' = h ∧ Pt M' h' g' (1500 * acc.length) ∧ acc = List.replicate acc.length (.bl true) ∧ acc.length + its.length ≤ 3) (fun _ _ _ _ => trivial) ?_ ?_ (fun its acc M' ⟨_, _, _, _, _, l⟩ => by omega) _ _ _ ⟨h, g, rfl, h1, rfl, by rw [rng_len]; simp only [List.length_nil, List.length_map]; split <;> omega⟩
  · rintro acc M' ⟨h', g', rfl, _, e, _⟩
    rw [e]
    exact r_allRep (hk M')
  · rintro x its acc M' ⟨h', g', rfl, pt, ea, hl⟩
    rw [List.length_cons] at hl
    refine ⟨_, rfl, fun ky kn hky _ => ?_⟩
    dsimp only [wYes]
    rw [if_pos rfl]
    simp only [wNext, wBreak, wContinue, wExpr, wRet, wRetN, wSet, wAsg, wPar, wPar3, wSub, wTst, wOp, wChain, wNotT, wAndV, wOrV, wNotV, wIf, wNil, wCons, wTup, wLst, wLstM, wCall, wCall0, wVar, wC, wLc, wLcM, wYes, wiL, wiT, wiS, wiR, wiEnT, wiEnL, wiZip, wSl, woNone, woSome, wMt, wJoin, wGet, wUn, DL.wTru, wDNew, fin, List.getElem?_cons_zero, List.getElem?_cons_succ, List.set_cons_zero, List.set_cons_succ, wipeD, List.map]
    refine ⟨h', g', _, rfl, pt, by omega, fun M2 p2 => ?_⟩
    refine hky _ _ (by omega) ⟨h', g', rfl, by rw [List.length_append, List.length_singleton, Nat.mul_add]; exact p2, ?_, by rw [List.length_append, List.length_singleton]; omega⟩
    rw [List.length_append, ea, List.length_replicate, List.length_singleton]
    simp [List.replicate_succ']
end
end K04

set_option autoImplicit false
set_option maxRecDepth 100000
set_option maxHeartbeats 4000000
namespace K04
open PySem L2 DL
theorem law_flaw : FLaw F_law := fun ns M k hl hk => ⟨ns, rfl, hl, hk⟩
theorem sS_NoDeal : DX.SuperScope (defScope s_NoDeal___init__).names "at" := ⟨rfl, rfl, rfl, rfl, by decide +kernel, by decide, by decide⟩
theorem bS_NoDeal {cc cda : Addr} {kV doc pm ct : Value} {an : Option Addr} (s : Shared) (e v : Value) : BindsTo s (ia_NoDeal cc cda .none kV doc pm ct an).fd ⟨[e, v], []⟩ [("self", e), ("at", v)] := .of_eq rfl
theorem sS_NoPerson : DX.SuperScope (defScope s_NoPerson___init__).names "person" := ⟨rfl, rfl, rfl, rfl, by decide +kernel, by decide, by decide⟩
theorem bS_NoPerson {cc cda : Addr} {kV doc pm ct : Value} {an : Option Addr} (s : Shared) (e v : Value) : BindsTo s (ia_NoPerson cc cda .none kV doc pm ct an).fd ⟨[e, v], []⟩ [("self", e), ("person", v)] := .of_eq rfl
theorem sS_NoWatcher : DX.SuperScope (defScope s_NoWatcher___init__).names "w" := ⟨rfl, rfl, rfl, rfl, by decide +kernel, by decide, by decide⟩
theorem bS_NoWatcher {cc cda : Addr} {kV doc pm ct : Value} {an : Option Addr} (s : Shared) (e v : Value) : BindsTo s (ia_NoWatcher cc cda .none kV doc pm ct an).fd ⟨[e, v], []⟩ [("self", e), ("w", v)] := .of_eq rfl
theorem sS_NoText : DX.SuperScope (defScope s_NoText___init__).names "row" := ⟨rfl, rfl, rfl, rfl, by decide +kernel, by decide, by decide⟩
theorem bS_NoText {cc cda : Addr} {kV doc pm ct : Value} {an : Option Addr} (s : Shared) (e v : Value) : BindsTo s (ia_NoText cc cda .none kV doc pm ct an).fd ⟨[e, v], []⟩ [("self", e), ("row", v)] := .of_eq rfl
theorem sS_NoLetter : DX.SuperScope (defScope s_NoLetter___init__).names "i" := ⟨rfl, rfl, rfl, rfl, by decide +kernel, by decide, by decide⟩
theorem bS_NoLetter {cc cda : Addr} {kV doc pm ct : Value} {an : Option Addr} (s : Shared) (e v : Value) : BindsTo s (ia_NoLetter cc cda .none kV doc pm ct an).fd ⟨[e, v], []⟩ [("self", e), ("i", v)] := .of_eq rfl
theorem all_mk {l : PySem.W.OpenLaw} {w : World} {K : PySem.W.Frag} {h : Heap} {mg mb : Str → Option Value} {fa f0 f1 f2 f3 f4 f5 f6 f7 f8 f9 f10 f11 f12 f13 f14 f15 f16 f17 : Addr} {q : Program} {loose : List Str} {mean : ExcName → Option Value} (X : K.In h) (T0 : PyProof.Rows.Top q loose mean mg mb h) (hfa : mg "law" = some (.ref fa))
    {od0 an0 od1 an1 od2 an2 od3 an3 od4 an4 od5 an5 od6 an6 od7 an7 od8 an8 od9 an9 od10 an10 od11 an11 od12 an12 od13 an13 od14 an14 od15 an15 od16 an16 od17 an17 : Option Addr} {sl0 sl1 sl2 sl3 sl4 sl5 sl6 sl7 sl8 sl9 sl10 sl11 sl12 sl13 sl14 sl15 sl16 sl17 : Array (Option Value)} {oc0 kV0 dc0 pm0 cd0 ct0 oc1 kV1 dc1 pm1 cd1 ct1 oc2 kV2 dc2 pm2 cd2 ct2 oc3 kV3 dc3 pm3 cd3 ct3 oc4 kV4 dc4 pm4 cd4 ct4 oc5 kV5 dc5 pm5 cd5 ct5 oc6 kV6 dc6 pm6 cd6 ct6 oc7 kV7 dc7 pm7 cd7 ct7 oc8 kV8 dc8 pm8 cd8 ct8 oc9 kV9 dc9 pm9 cd9 ct9 oc10 kV10 dc10 pm10 cd10 ct10 oc11 kV11 dc11 pm11 cd11 ct11 oc12 kV12 dc12 pm12 cd12 ct12 oc13 kV13 dc13 pm13 cd13 ct13 oc14 kV14 dc14 pm14 cd14 ct14 oc15 kV15 dc15 pm15 cd15 ct15 oc16 kV16 dc16 pm16 cd16 ct16 oc17 kV17 dc17 pm17 cd17 ct17 : Value}
    {C_Road : Addr} (ac_Road : PySem.W.nsIn K mainGlobals "Road" = some (some (.ref C_Road))) (pg_Road : PySem.W.plainGet K C_Road Str.empty = true) (hd_Road : PySem.W.hasDictIn K C_Road = true) (po_Road : PySem.W.plainOver K C_Road = true) (sa_Road : PySem.W.findIn K (.ref C_Road) "__setattr__" = some (some (.builtin "object.__setattr__"))) (mk_Road : PySem.W.makesIn K C_Road = true) (kc_Road : PySem.W.keepIn K (.ref C_Road) = true)
    (nf_Road__letters : PySem.W.findIn K (.ref C_Road) "_letters" = some none)
    (nf_Road__room : PySem.W.findIn K (.ref C_Road) "_room" = some none)
    (a0 : PySem.W.nsIn K mainGlobals "is_whole" = some (some (.ref f0))) (l0 : K.lookup f0 = some ⟨oc0, od0, .func (PySem.W.fnOf "is_whole" "is_whole" (defArgs s_is_whole) (defBody s_is_whole) (defScope s_is_whole) .none kV0 dc0 pm0 an0 cd0 ct0), sl0⟩) (c0 : PySem.W.codeIn K cd0 "is_whole" = true) (k0 : PySem.W.keepIn K (.ref f0) = true)
    (a1 : PySem.W.nsIn K mainGlobals "_law_begin" = some (some (.ref f1))) (l1 : K.lookup f1 = some ⟨oc1, od1, .func (PySem.W.fnOf "_law_begin" "_law_begin" (defArgs s_law_begin) (defBody s_law_begin) (defScope s_law_begin) .none kV1 dc1 pm1 an1 cd1 ct1), sl1⟩) (c1 : PySem.W.codeIn K cd1 "_law_begin" = true) (k1 : PySem.W.keepIn K (.ref f1) = true)
    (a2 : PySem.W.nsIn K mainGlobals "_law_pick" = some (some (.ref f2))) (l2 : K.lookup f2 = some ⟨oc2, od2, .func (PySem.W.fnOf "_law_pick" "_law_pick" (defArgs s_law_pick) (defBody s_law_pick) (defScope s_law_pick) .none kV2 dc2 pm2 an2 cd2 ct2), sl2⟩) (c2 : PySem.W.codeIn K cd2 "_law_pick" = true) (k2 : PySem.W.keepIn K (.ref f2) = true)
    (a3 : PySem.W.nsIn K mainGlobals "_law_of" = some (some (.ref f3))) (l3 : K.lookup f3 = some ⟨oc3, od3, .func (PySem.W.fnOf "_law_of" "_law_of" (defArgs s_law_of) (defBody s_law_of) (defScope s_law_of) .none kV3 dc3 pm3 an3 cd3 ct3), sl3⟩) (c3 : PySem.W.codeIn K cd3 "_law_of" = true) (k3 : PySem.W.keepIn K (.ref f3) = true)
    (a4 : PySem.W.nsIn K mainGlobals "_law_letter" = some (some (.ref f4))) (l4 : K.lookup f4 = some ⟨oc4, od4, .func (PySem.W.fnOf "_law_letter" "_law_letter" (defArgs s_law_letter) (defBody s_law_letter) (defScope s_law_letter) .none kV4 dc4 pm4 an4 cd4 ct4), sl4⟩) (c4 : PySem.W.codeIn K cd4 "_law_letter" = true) (k4 : PySem.W.keepIn K (.ref f4) = true)
    (a5 : PySem.W.nsIn K mainGlobals "_law_thing" = some (some (.ref f5))) (l5 : K.lookup f5 = some ⟨oc5, od5, .func (PySem.W.fnOf "_law_thing" "_law_thing" (defArgs s_law_thing) (defBody s_law_thing) (defScope s_law_thing) .none kV5 dc5 pm5 an5 cd5 ct5), sl5⟩) (c5 : PySem.W.codeIn K cd5 "_law_thing" = true) (k5 : PySem.W.keepIn K (.ref f5) = true)
    (a6 : PySem.W.nsIn K mainGlobals "_law_refusal" = some (some (.ref f6))) (l6 : K.lookup f6 = some ⟨oc6, od6, .func (PySem.W.fnOf "_law_refusal" "_law_refusal" (defArgs s_law_refusal) (defBody s_law_refusal) (defScope s_law_refusal) .none kV6 dc6 pm6 an6 cd6 ct6), sl6⟩) (c6 : PySem.W.codeIn K cd6 "_law_refusal" = true) (k6 : PySem.W.keepIn K (.ref f6) = true)
    (a7 : PySem.W.nsIn K mainGlobals "_law_told" = some (some (.ref f7))) (l7 : K.lookup f7 = some ⟨oc7, od7, .func (PySem.W.fnOf "_law_told" "_law_told" (defArgs s_law_told) (defBody s_law_told) (defScope s_law_told) .none kV7 dc7 pm7 an7 cd7 ct7), sl7⟩) (c7 : PySem.W.codeIn K cd7 "_law_told" = true) (k7 : PySem.W.keepIn K (.ref f7) = true)
    (a8 : PySem.W.nsIn K mainGlobals "_law_due" = some (some (.ref f8))) (l8 : K.lookup f8 = some ⟨oc8, od8, .func (PySem.W.fnOf "_law_due" "_law_due" (defArgs s_law_due) (defBody s_law_due) (defScope s_law_due) .none kV8 dc8 pm8 an8 cd8 ct8), sl8⟩) (c8 : PySem.W.codeIn K cd8 "_law_due" = true) (k8 : PySem.W.keepIn K (.ref f8) = true)
    (a9 : PySem.W.nsIn K mainGlobals "_law_right" = some (some (.ref f9))) (l9 : K.lookup f9 = some ⟨oc9, od9, .func (PySem.W.fnOf "_law_right" "_law_right" (defArgs s_law_right) (defBody s_law_right) (defScope s_law_right) .none kV9 dc9 pm9 an9 cd9 ct9), sl9⟩) (c9 : PySem.W.codeIn K cd9 "_law_right" = true) (k9 : PySem.W.keepIn K (.ref f9) = true)
    (a10 : PySem.W.nsIn K mainGlobals "law" = some (some (.ref f10))) (l10 : K.lookup f10 = some ⟨oc10, od10, .func (PySem.W.fnOf "law" "law" (defArgs s_law) (defBody s_law) (defScope s_law) .none kV10 dc10 pm10 an10 cd10 ct10), sl10⟩) (c10 : PySem.W.codeIn K cd10 "law" = true) (k10 : PySem.W.keepIn K (.ref f10) = true)
    (a11 : PySem.W.findIn K (.ref C_Road) "__init__" = some (some (.ref f11))) (i11 : PySem.W.isFn K (.ref f11) = true) (l11 : K.lookup f11 = some ⟨oc11, od11, .func (PySem.W.fnOf "__init__" "Road.__init__" (defArgs s_Road___init__) (defBody s_Road___init__) (defScope s_Road___init__) .none kV11 dc11 pm11 an11 cd11 ct11), sl11⟩) (c11 : PySem.W.codeIn K cd11 "Road.__init__" = true) (k11 : PySem.W.keepIn K (.ref f11) = true)
    (xw11 : kwdI (marked K ([] : List Str)) kV11 "room" 4 = true)
    (a12 : PySem.W.findIn K (.ref C_Road) "put" = some (some (.ref f12))) (i12 : PySem.W.isFn K (.ref f12) = true) (l12 : K.lookup f12 = some ⟨oc12, od12, .func (PySem.W.fnOf "put" "Road.put" (defArgs s_Road_put) (defBody s_Road_put) (defScope s_Road_put) .none kV12 dc12 pm12 an12 cd12 ct12), sl12⟩) (c12 : PySem.W.codeIn K cd12 "Road.put" = true) (k12 : PySem.W.keepIn K (.ref f12) = true)
    (a13 : PySem.W.findIn K (.ref C_Road) "letters" = some (some (.ref f13))) (i13 : PySem.W.isFn K (.ref f13) = true) (l13 : K.lookup f13 = some ⟨oc13, od13, .func (PySem.W.fnOf "letters" "Road.letters" (defArgs s_Road_letters) (defBody s_Road_letters) (defScope s_Road_letters) .none kV13 dc13 pm13 an13 cd13 ct13), sl13⟩) (c13 : PySem.W.codeIn K cd13 "Road.letters" = true) (k13 : PySem.W.keepIn K (.ref f13) = true)
    (a14 : PySem.W.findIn K (.ref C_Road) "bring" = some (some (.ref f14))) (i14 : PySem.W.isFn K (.ref f14) = true) (l14 : K.lookup f14 = some ⟨oc14, od14, .func (PySem.W.fnOf "bring" "Road.bring" (defArgs s_Road_bring) (defBody s_Road_bring) (defScope s_Road_bring) .none kV14 dc14 pm14 an14 cd14 ct14), sl14⟩) (c14 : PySem.W.codeIn K cd14 "Road.bring" = true) (k14 : PySem.W.keepIn K (.ref f14) = true)
    (a15 : PySem.W.findIn K (.ref C_Road) "lose" = some (some (.ref f15))) (i15 : PySem.W.isFn K (.ref f15) = true) (l15 : K.lookup f15 = some ⟨oc15, od15, .func (PySem.W.fnOf "lose" "Road.lose" (defArgs s_Road_lose) (defBody s_Road_lose) (defScope s_Road_lose) .none kV15 dc15 pm15 an15 cd15 ct15), sl15⟩) (c15 : PySem.W.codeIn K cd15 "Road.lose" = true) (k15 : PySem.W.keepIn K (.ref f15) = true)
    (a16 : PySem.W.findIn K (.ref C_Road) "double" = some (some (.ref f16))) (i16 : PySem.W.isFn K (.ref f16) = true) (l16 : K.lookup f16 = some ⟨oc16, od16, .func (PySem.W.fnOf "double" "Road.double" (defArgs s_Road_double) (defBody s_Road_double) (defScope s_Road_double) .none kV16 dc16 pm16 an16 cd16 ct16), sl16⟩) (c16 : PySem.W.codeIn K cd16 "Road.double" = true) (k16 : PySem.W.keepIn K (.ref f16) = true)
    (a17 : PySem.W.findIn K (.ref C_Road) "_check" = some (some (.ref f17))) (i17 : PySem.W.isFn K (.ref f17) = true) (l17 : K.lookup f17 = some ⟨oc17, od17, .func (PySem.W.fnOf "_check" "Road._check" (defArgs s_Road__check) (defBody s_Road__check) (defScope s_Road__check) .none kV17 dc17 pm17 an17 cd17 ct17), sl17⟩) (c17 : PySem.W.codeIn K cd17 "Road._check" = true) (k17 : PySem.W.keepIn K (.ref f17) = true)
    (z_super : PySem.W.nsIn K mainGlobals "super" = some none)
    (tp_ : (l.prog.main.scope.names.lookup ("super" : Str)).isSome = false)
    {X_NoDeal fI_NoDeal cc_NoDeal cda_NoDeal : Addr} {kV_NoDeal doc_NoDeal pm_NoDeal ct_NoDeal : Value} {an_NoDeal : Option Addr} {oc_NoDeal : Value} {od_NoDeal : Option Addr} {osl_NoDeal : Array (Option Value)} {ccl_NoDeal : Value} {cdd_NoDeal : Option Addr} {us_NoDeal : Array Value} {ccs_NoDeal : Array (Option Value)} {file_NoDeal : Str} {tf_NoDeal : Tok} {cl_NoDeal : Value} {cld_NoDeal : Option Addr} {csl_NoDeal : Array (Option Value)}
    (ax_NoDeal : PySem.W.nsIn K mainGlobals "NoDeal" = some (some (.ref X_NoDeal))) (ix_NoDeal : PySem.W.findIn K (.ref X_NoDeal) "__init__" = some (some (.ref fI_NoDeal)))
    (lx_NoDeal : K.lookup fI_NoDeal = some ⟨oc_NoDeal, od_NoDeal, .func (ia_NoDeal cc_NoDeal cda_NoDeal .none kV_NoDeal doc_NoDeal pm_NoDeal ct_NoDeal an_NoDeal).fd, osl_NoDeal⟩)
    (lda_NoDeal : K.lookup cda_NoDeal = some ⟨ccl_NoDeal, cdd_NoDeal, .fields us_NoDeal, ccs_NoDeal⟩) (lcc_NoDeal : K.lookup cc_NoDeal = some ⟨cl_NoDeal, cld_NoDeal, .cell (some (.ref X_NoDeal)), csl_NoDeal⟩)
    (us2_NoDeal : (us_NoDeal[2]? : Option Value) = some (.str file_NoDeal tf_NoDeal)) (fil_NoDeal : ((l.prog.main.file : Str) == file_NoDeal) = true)
    {X_NoPerson fI_NoPerson cc_NoPerson cda_NoPerson : Addr} {kV_NoPerson doc_NoPerson pm_NoPerson ct_NoPerson : Value} {an_NoPerson : Option Addr} {oc_NoPerson : Value} {od_NoPerson : Option Addr} {osl_NoPerson : Array (Option Value)} {ccl_NoPerson : Value} {cdd_NoPerson : Option Addr} {us_NoPerson : Array Value} {ccs_NoPerson : Array (Option Value)} {file_NoPerson : Str} {tf_NoPerson : Tok} {cl_NoPerson : Value} {cld_NoPerson : Option Addr} {csl_NoPerson : Array (Option Value)}
    (ax_NoPerson : PySem.W.nsIn K mainGlobals "NoPerson" = some (some (.ref X_NoPerson))) (ix_NoPerson : PySem.W.findIn K (.ref X_NoPerson) "__init__" = some (some (.ref fI_NoPerson)))
    (lx_NoPerson : K.lookup fI_NoPerson = some ⟨oc_NoPerson, od_NoPerson, .func (ia_NoPerson cc_NoPerson cda_NoPerson .none kV_NoPerson doc_NoPerson pm_NoPerson ct_NoPerson an_NoPerson).fd, osl_NoPerson⟩)
    (lda_NoPerson : K.lookup cda_NoPerson = some ⟨ccl_NoPerson, cdd_NoPerson, .fields us_NoPerson, ccs_NoPerson⟩) (lcc_NoPerson : K.lookup cc_NoPerson = some ⟨cl_NoPerson, cld_NoPerson, .cell (some (.ref X_NoPerson)), csl_NoPerson⟩)
    (us2_NoPerson : (us_NoPerson[2]? : Option Value) = some (.str file_NoPerson tf_NoPerson)) (fil_NoPerson : ((l.prog.main.file : Str) == file_NoPerson) = true)
    {X_NoWatcher fI_NoWatcher cc_NoWatcher cda_NoWatcher : Addr} {kV_NoWatcher doc_NoWatcher pm_NoWatcher ct_NoWatcher : Value} {an_NoWatcher : Option Addr} {oc_NoWatcher : Value} {od_NoWatcher : Option Addr} {osl_NoWatcher : Array (Option Value)} {ccl_NoWatcher : Value} {cdd_NoWatcher : Option Addr} {us_NoWatcher : Array Value} {ccs_NoWatcher : Array (Option Value)} {file_NoWatcher : Str} {tf_NoWatcher : Tok} {cl_NoWatcher : Value} {cld_NoWatcher : Option Addr} {csl_NoWatcher : Array (Option Value)}
    (ax_NoWatcher : PySem.W.nsIn K mainGlobals "NoWatcher" = some (some (.ref X_NoWatcher))) (ix_NoWatcher : PySem.W.findIn K (.ref X_NoWatcher) "__init__" = some (some (.ref fI_NoWatcher)))
    (lx_NoWatcher : K.lookup fI_NoWatcher = some ⟨oc_NoWatcher, od_NoWatcher, .func (ia_NoWatcher cc_NoWatcher cda_NoWatcher .none kV_NoWatcher doc_NoWatcher pm_NoWatcher ct_NoWatcher an_NoWatcher).fd, osl_NoWatcher⟩)
    (lda_NoWatcher : K.lookup cda_NoWatcher = some ⟨ccl_NoWatcher, cdd_NoWatcher, .fields us_NoWatcher, ccs_NoWatcher⟩) (lcc_NoWatcher : K.lookup cc_NoWatcher = some ⟨cl_NoWatcher, cld_NoWatcher, .cell (some (.ref X_NoWatcher)), csl_NoWatcher⟩)
    (us2_NoWatcher : (us_NoWatcher[2]? : Option Value) = some (.str file_NoWatcher tf_NoWatcher)) (fil_NoWatcher : ((l.prog.main.file : Str) == file_NoWatcher) = true)
    {X_NoText fI_NoText cc_NoText cda_NoText : Addr} {kV_NoText doc_NoText pm_NoText ct_NoText : Value} {an_NoText : Option Addr} {oc_NoText : Value} {od_NoText : Option Addr} {osl_NoText : Array (Option Value)} {ccl_NoText : Value} {cdd_NoText : Option Addr} {us_NoText : Array Value} {ccs_NoText : Array (Option Value)} {file_NoText : Str} {tf_NoText : Tok} {cl_NoText : Value} {cld_NoText : Option Addr} {csl_NoText : Array (Option Value)}
    (ax_NoText : PySem.W.nsIn K mainGlobals "NoText" = some (some (.ref X_NoText))) (ix_NoText : PySem.W.findIn K (.ref X_NoText) "__init__" = some (some (.ref fI_NoText)))
    (lx_NoText : K.lookup fI_NoText = some ⟨oc_NoText, od_NoText, .func (ia_NoText cc_NoText cda_NoText .none kV_NoText doc_NoText pm_NoText ct_NoText an_NoText).fd, osl_NoText⟩)
    (lda_NoText : K.lookup cda_NoText = some ⟨ccl_NoText, cdd_NoText, .fields us_NoText, ccs_NoText⟩) (lcc_NoText : K.lookup cc_NoText = some ⟨cl_NoText, cld_NoText, .cell (some (.ref X_NoText)), csl_NoText⟩)
    (us2_NoText : (us_NoText[2]? : Option Value) = some (.str file_NoText tf_NoText)) (fil_NoText : ((l.prog.main.file : Str) == file_NoText) = true)
    {X_NoLetter fI_NoLetter cc_NoLetter cda_NoLetter : Addr} {kV_NoLetter doc_NoLetter pm_NoLetter ct_NoLetter : Value} {an_NoLetter : Option Addr} {oc_NoLetter : Value} {od_NoLetter : Option Addr} {osl_NoLetter : Array (Option Value)} {ccl_NoLetter : Value} {cdd_NoLetter : Option Addr} {us_NoLetter : Array Value} {ccs_NoLetter : Array (Option Value)} {file_NoLetter : Str} {tf_NoLetter : Tok} {cl_NoLetter : Value} {cld_NoLetter : Option Addr} {csl_NoLetter : Array (Option Value)}
    (ax_NoLetter : PySem.W.nsIn K mainGlobals "NoLetter" = some (some (.ref X_NoLetter))) (ix_NoLetter : PySem.W.findIn K (.ref X_NoLetter) "__init__" = some (some (.ref fI_NoLetter)))
    (lx_NoLetter : K.lookup fI_NoLetter = some ⟨oc_NoLetter, od_NoLetter, .func (ia_NoLetter cc_NoLetter cda_NoLetter .none kV_NoLetter doc_NoLetter pm_NoLetter ct_NoLetter an_NoLetter).fd, osl_NoLetter⟩)
    (lda_NoLetter : K.lookup cda_NoLetter = some ⟨ccl_NoLetter, cdd_NoLetter, .fields us_NoLetter, ccs_NoLetter⟩) (lcc_NoLetter : K.lookup cc_NoLetter = some ⟨cl_NoLetter, cld_NoLetter, .cell (some (.ref X_NoLetter)), csl_NoLetter⟩)
    (us2_NoLetter : (us_NoLetter[2]? : Option Value) = some (.str file_NoLetter tf_NoLetter)) (fil_NoLetter : ((l.prog.main.file : Str) == file_NoLetter) = true)
    {X_ViewError : Addr} (ax_ViewError : PySem.W.nsIn K mainGlobals "ViewError" = some (some (.ref X_ViewError)))
    {X_NoPlan : Addr} (ax_NoPlan : PySem.W.nsIn K mainGlobals "NoPlan" = some (some (.ref X_NoPlan)))
    {X_NoPiece : Addr} (ax_NoPiece : PySem.W.nsIn K mainGlobals "NoPiece" = some (some (.ref X_NoPiece)))
    {X_NoRight : Addr} (ax_NoRight : PySem.W.nsIn K mainGlobals "NoRight" = some (some (.ref X_NoRight)))
    {X_NoQuestion : Addr} (ax_NoQuestion : PySem.W.nsIn K mainGlobals "NoQuestion" = some (some (.ref X_NoQuestion)))
    {X_Full : Addr} (ax_Full : PySem.W.nsIn K mainGlobals "Full" = some (some (.ref X_Full)))
    {X_NoMoment : Addr} (ax_NoMoment : PySem.W.nsIn K mainGlobals "NoMoment" = some (some (.ref X_NoMoment)))
    {X_NoPaper : Addr} (ax_NoPaper : PySem.W.nsIn K mainGlobals "NoPaper" = some (some (.ref X_NoPaper)))
    {X_NoEntry : Addr} (ax_NoEntry : PySem.W.nsIn K mainGlobals "NoEntry" = some (some (.ref X_NoEntry)))
    {X_NoScript : Addr} (ax_NoScript : PySem.W.nsIn K mainGlobals "NoScript" = some (some (.ref X_NoScript)))
    {X_NoLine : Addr} (ax_NoLine : PySem.W.nsIn K mainGlobals "NoLine" = some (some (.ref X_NoLine)))
    (xb_NoDeal : DX.exB (marked K ([] : List Str)) X_NoDeal fI_NoDeal cda_NoDeal "at" "NoDeal.__init__" = true)
    (xk_NoDeal : DX.kitL (marked K ([] : List Str)) X_NoDeal ([(.ref X_NoDeal, true), (.ref X_NoPerson, false), (.ref X_NoWatcher, false), (.ref X_NoText, false), (.ref X_NoLetter, false), (.ref X_NoPlan, false), (.ref X_NoPiece, false), (.ref X_NoRight, false), (.ref X_NoQuestion, false), (.ref X_Full, false), (.ref X_NoMoment, false), (.ref X_NoPaper, false), (.ref X_NoEntry, false), (.ref X_NoScript, false), (.ref X_NoLine, false), (.ref X_ViewError, true), (.type "ValueError", true)]) = true)
    (xm_NoDeal_ViewError : PySem.W.exmOne (marked K ([] : List Str)) (.ref X_NoDeal) (.ref X_ViewError) = some true)
    (xb_NoPerson : DX.exB (marked K ([] : List Str)) X_NoPerson fI_NoPerson cda_NoPerson "person" "NoPerson.__init__" = true)
    (xk_NoPerson : DX.kitL (marked K ([] : List Str)) X_NoPerson ([(.ref X_NoDeal, false), (.ref X_NoPerson, true), (.ref X_NoWatcher, false), (.ref X_NoText, false), (.ref X_NoLetter, false), (.ref X_NoPlan, false), (.ref X_NoPiece, false), (.ref X_NoRight, false), (.ref X_NoQuestion, false), (.ref X_Full, false), (.ref X_NoMoment, false), (.ref X_NoPaper, false), (.ref X_NoEntry, false), (.ref X_NoScript, false), (.ref X_NoLine, false), (.ref X_ViewError, true), (.type "ValueError", true)]) = true)
    (xm_NoPerson_ViewError : PySem.W.exmOne (marked K ([] : List Str)) (.ref X_NoPerson) (.ref X_ViewError) = some true)
    (xb_NoWatcher : DX.exB (marked K ([] : List Str)) X_NoWatcher fI_NoWatcher cda_NoWatcher "w" "NoWatcher.__init__" = true)
    (xk_NoWatcher : DX.kitL (marked K ([] : List Str)) X_NoWatcher ([(.ref X_NoDeal, false), (.ref X_NoPerson, false), (.ref X_NoWatcher, true), (.ref X_NoText, false), (.ref X_NoLetter, false), (.ref X_NoPlan, false), (.ref X_NoPiece, false), (.ref X_NoRight, false), (.ref X_NoQuestion, false), (.ref X_Full, false), (.ref X_NoMoment, false), (.ref X_NoPaper, false), (.ref X_NoEntry, false), (.ref X_NoScript, false), (.ref X_NoLine, false), (.ref X_ViewError, true), (.type "ValueError", true)]) = true)
    (xm_NoWatcher_ViewError : PySem.W.exmOne (marked K ([] : List Str)) (.ref X_NoWatcher) (.ref X_ViewError) = some true)
    (xb_NoText : DX.exB (marked K ([] : List Str)) X_NoText fI_NoText cda_NoText "row" "NoText.__init__" = true)
    (xk_NoText : DX.kitL (marked K ([] : List Str)) X_NoText ([(.ref X_NoDeal, false), (.ref X_NoPerson, false), (.ref X_NoWatcher, false), (.ref X_NoText, true), (.ref X_NoLetter, false), (.ref X_NoPlan, false), (.ref X_NoPiece, false), (.ref X_NoRight, false), (.ref X_NoQuestion, false), (.ref X_Full, false), (.ref X_NoMoment, false), (.ref X_NoPaper, false), (.ref X_NoEntry, false), (.ref X_NoScript, false), (.ref X_NoLine, false), (.ref X_ViewError, true), (.type "ValueError", true)]) = true)
    (xm_NoText_ViewError : PySem.W.exmOne (marked K ([] : List Str)) (.ref X_NoText) (.ref X_ViewError) = some true)
    (xb_NoLetter : DX.exB (marked K ([] : List Str)) X_NoLetter fI_NoLetter cda_NoLetter "i" "NoLetter.__init__" = true)
    (xk_NoLetter : DX.kitL (marked K ([] : List Str)) X_NoLetter ([(.ref X_NoDeal, false), (.ref X_NoPerson, false), (.ref X_NoWatcher, false), (.ref X_NoText, false), (.ref X_NoLetter, true), (.ref X_NoPlan, false), (.ref X_NoPiece, false), (.ref X_NoRight, false), (.ref X_NoQuestion, false), (.ref X_Full, false), (.ref X_NoMoment, false), (.ref X_NoPaper, false), (.ref X_NoEntry, false), (.ref X_NoScript, false), (.ref X_NoLine, false), (.ref X_ViewError, true), (.type "ValueError", true)]) = true)
    (xm_NoLetter_ViewError : PySem.W.exmOne (marked K ([] : List Str)) (.ref X_NoLetter) (.ref X_ViewError) = some true)
    (xn_NoPlan : DX.exN (marked K ([] : List Str)) X_NoPlan = true)
    (xk_NoPlan : DX.kitL (marked K ([] : List Str)) X_NoPlan ([(.ref X_NoDeal, false), (.ref X_NoPerson, false), (.ref X_NoWatcher, false), (.ref X_NoText, false), (.ref X_NoLetter, false), (.ref X_NoPlan, true), (.ref X_NoPiece, false), (.ref X_NoRight, false), (.ref X_NoQuestion, false), (.ref X_Full, false), (.ref X_NoMoment, false), (.ref X_NoPaper, false), (.ref X_NoEntry, false), (.ref X_NoScript, false), (.ref X_NoLine, false), (.ref X_ViewError, true), (.type "ValueError", true)]) = true)
    (xn_NoPiece : DX.exN (marked K ([] : List Str)) X_NoPiece = true)
    (xk_NoPiece : DX.kitL (marked K ([] : List Str)) X_NoPiece ([(.ref X_NoDeal, false), (.ref X_NoPerson, false), (.ref X_NoWatcher, false), (.ref X_NoText, false), (.ref X_NoLetter, false), (.ref X_NoPlan, false), (.ref X_NoPiece, true), (.ref X_NoRight, false), (.ref X_NoQuestion, false), (.ref X_Full, false), (.ref X_NoMoment, false), (.ref X_NoPaper, false), (.ref X_NoEntry, false), (.ref X_NoScript, false), (.ref X_NoLine, false), (.ref X_ViewError, true), (.type "ValueError", true)]) = true)
    (xn_NoRight : DX.exN (marked K ([] : List Str)) X_NoRight = true)
    (xk_NoRight : DX.kitL (marked K ([] : List Str)) X_NoRight ([(.ref X_NoDeal, false), (.ref X_NoPerson, false), (.ref X_NoWatcher, false), (.ref X_NoText, false), (.ref X_NoLetter, false), (.ref X_NoPlan, false), (.ref X_NoPiece, false), (.ref X_NoRight, true), (.ref X_NoQuestion, false), (.ref X_Full, false), (.ref X_NoMoment, false), (.ref X_NoPaper, false), (.ref X_NoEntry, false), (.ref X_NoScript, false), (.ref X_NoLine, false), (.ref X_ViewError, true), (.type "ValueError", true)]) = true)
    (xn_NoQuestion : DX.exN (marked K ([] : List Str)) X_NoQuestion = true)
    (xk_NoQuestion : DX.kitL (marked K ([] : List Str)) X_NoQuestion ([(.ref X_NoDeal, false), (.ref X_NoPerson, false), (.ref X_NoWatcher, false), (.ref X_NoText, false), (.ref X_NoLetter, false), (.ref X_NoPlan, false), (.ref X_NoPiece, false), (.ref X_NoRight, false), (.ref X_NoQuestion, true), (.ref X_Full, false), (.ref X_NoMoment, false), (.ref X_NoPaper, false), (.ref X_NoEntry, false), (.ref X_NoScript, false), (.ref X_NoLine, false), (.ref X_ViewError, true), (.type "ValueError", true)]) = true)
    (xn_Full : DX.exN (marked K ([] : List Str)) X_Full = true)
    (xk_Full : DX.kitL (marked K ([] : List Str)) X_Full ([(.ref X_NoDeal, false), (.ref X_NoPerson, false), (.ref X_NoWatcher, false), (.ref X_NoText, false), (.ref X_NoLetter, false), (.ref X_NoPlan, false), (.ref X_NoPiece, false), (.ref X_NoRight, false), (.ref X_NoQuestion, false), (.ref X_Full, true), (.ref X_NoMoment, false), (.ref X_NoPaper, false), (.ref X_NoEntry, false), (.ref X_NoScript, false), (.ref X_NoLine, false), (.ref X_ViewError, true), (.type "ValueError", true)]) = true)
    (xm_Full_ViewError : PySem.W.exmOne (marked K ([] : List Str)) (.ref X_Full) (.ref X_ViewError) = some true)
    (xn_NoMoment : DX.exN (marked K ([] : List Str)) X_NoMoment = true)
    (xk_NoMoment : DX.kitL (marked K ([] : List Str)) X_NoMoment ([(.ref X_NoDeal, false), (.ref X_NoPerson, false), (.ref X_NoWatcher, false), (.ref X_NoText, false), (.ref X_NoLetter, false), (.ref X_NoPlan, false), (.ref X_NoPiece, false), (.ref X_NoRight, false), (.ref X_NoQuestion, false), (.ref X_Full, false), (.ref X_NoMoment, true), (.ref X_NoPaper, false), (.ref X_NoEntry, false), (.ref X_NoScript, false), (.ref X_NoLine, false), (.ref X_ViewError, true), (.type "ValueError", true)]) = true)
    (xn_NoPaper : DX.exN (marked K ([] : List Str)) X_NoPaper = true)
    (xk_NoPaper : DX.kitL (marked K ([] : List Str)) X_NoPaper ([(.ref X_NoDeal, false), (.ref X_NoPerson, false), (.ref X_NoWatcher, false), (.ref X_NoText, false), (.ref X_NoLetter, false), (.ref X_NoPlan, false), (.ref X_NoPiece, false), (.ref X_NoRight, false), (.ref X_NoQuestion, false), (.ref X_Full, false), (.ref X_NoMoment, false), (.ref X_NoPaper, true), (.ref X_NoEntry, false), (.ref X_NoScript, false), (.ref X_NoLine, false), (.ref X_ViewError, true), (.type "ValueError", true)]) = true)
    (xn_NoEntry : DX.exN (marked K ([] : List Str)) X_NoEntry = true)
    (xk_NoEntry : DX.kitL (marked K ([] : List Str)) X_NoEntry ([(.ref X_NoDeal, false), (.ref X_NoPerson, false), (.ref X_NoWatcher, false), (.ref X_NoText, false), (.ref X_NoLetter, false), (.ref X_NoPlan, false), (.ref X_NoPiece, false), (.ref X_NoRight, false), (.ref X_NoQuestion, false), (.ref X_Full, false), (.ref X_NoMoment, false), (.ref X_NoPaper, false), (.ref X_NoEntry, true), (.ref X_NoScript, false), (.ref X_NoLine, false), (.ref X_ViewError, true), (.type "ValueError", true)]) = true)
    (xn_NoScript : DX.exN (marked K ([] : List Str)) X_NoScript = true)
    (xk_NoScript : DX.kitL (marked K ([] : List Str)) X_NoScript ([(.ref X_NoDeal, false), (.ref X_NoPerson, false), (.ref X_NoWatcher, false), (.ref X_NoText, false), (.ref X_NoLetter, false), (.ref X_NoPlan, false), (.ref X_NoPiece, false), (.ref X_NoRight, false), (.ref X_NoQuestion, false), (.ref X_Full, false), (.ref X_NoMoment, false), (.ref X_NoPaper, false), (.ref X_NoEntry, false), (.ref X_NoScript, true), (.ref X_NoLine, false), (.ref X_ViewError, true), (.type "ValueError", true)]) = true)
    (xn_NoLine : DX.exN (marked K ([] : List Str)) X_NoLine = true)
    (xk_NoLine : DX.kitL (marked K ([] : List Str)) X_NoLine ([(.ref X_NoDeal, false), (.ref X_NoPerson, false), (.ref X_NoWatcher, false), (.ref X_NoText, false), (.ref X_NoLetter, false), (.ref X_NoPlan, false), (.ref X_NoPiece, false), (.ref X_NoRight, false), (.ref X_NoQuestion, false), (.ref X_Full, false), (.ref X_NoMoment, false), (.ref X_NoPaper, false), (.ref X_NoEntry, false), (.ref X_NoScript, false), (.ref X_NoLine, true), (.ref X_ViewError, true), (.type "ValueError", true)]) = true)
    (z_ValueError : PySem.W.nsIn K mainGlobals "ValueError" = some none)
    (z_all : PySem.W.nsIn K mainGlobals "all" = some none)
    (z_bool : PySem.W.nsIn K mainGlobals "bool" = some none)
    (z_enumerate : PySem.W.nsIn K mainGlobals "enumerate" = some none)
    (z_int : PySem.W.nsIn K mainGlobals "int" = some none)
    (z_isinstance : PySem.W.nsIn K mainGlobals "isinstance" = some none)
    (z_len : PySem.W.nsIn K mainGlobals "len" = some none)
    (z_min : PySem.W.nsIn K mainGlobals "min" = some none)
    (z_range : PySem.W.nsIn K mainGlobals "range" = some none)
    (z_repr : PySem.W.nsIn K mainGlobals "repr" = some none)
    (z_tuple : PySem.W.nsIn K mainGlobals "tuple" = some none)
    (z_type : PySem.W.nsIn K mainGlobals "type" = some none)
    {t_ROOM : Tok} (y_ROOM : PySem.W.nsIn K mainGlobals "ROOM" = some (some (.int 4 t_ROOM)))
    : ∃ K' : PySem.W.Frag, K'.In h ∧ TabsH K' h ∧ ∃ fd : FuncData, (∀ (s : Shared) (v : Value), BindsTo s fd ⟨[v], []⟩ [("script", v)]) ∧ ∀ base : Heap, K'.In base → base.Ns mainGlobals mg → (∀ x c P, x ∈ lamNames K' → PySem.W.tabIn K' x = some (c, P) → LamX.TabB base mg c P) → DG.FnG l.prog w K' mg base CX0 7 fa fd ["script"] (spLaw K') := by
  have G := T0.g
  have e := hfa.symm.trans (PySem.W.mg_of X G a10)
  cases e
  have hm := has_main a10
  have es : lamNames (marked K ([] : List Str)) = ([] : List Str) := lamNames_marked K _
  generalize hK : marked K ([] : List Str) = K' at es
  replace k0 : PySem.W.keepIn K' (.ref f0) = true := by rw [← hK]; exact app_kp hm l0
  replace a0 := (app_ns (xs := ([] : List Str)) hm).trans a0
  replace l0 := (app_lk (xs := ([] : List Str)) hm _).trans l0
  replace c0 := (app_cd (xs := ([] : List Str)) hm).trans c0
  replace k1 : PySem.W.keepIn K' (.ref f1) = true := by rw [← hK]; exact app_kp hm l1
  replace a1 := (app_ns (xs := ([] : List Str)) hm).trans a1
  replace l1 := (app_lk (xs := ([] : List Str)) hm _).trans l1
  replace c1 := (app_cd (xs := ([] : List Str)) hm).trans c1
  replace k2 : PySem.W.keepIn K' (.ref f2) = true := by rw [← hK]; exact app_kp hm l2
  replace a2 := (app_ns (xs := ([] : List Str)) hm).trans a2
  replace l2 := (app_lk (xs := ([] : List Str)) hm _).trans l2
  replace c2 := (app_cd (xs := ([] : List Str)) hm).trans c2
  replace k3 : PySem.W.keepIn K' (.ref f3) = true := by rw [← hK]; exact app_kp hm l3
  replace a3 := (app_ns (xs := ([] : List Str)) hm).trans a3
  replace l3 := (app_lk (xs := ([] : List Str)) hm _).trans l3
  replace c3 := (app_cd (xs := ([] : List Str)) hm).trans c3
  replace k4 : PySem.W.keepIn K' (.ref f4) = true := by rw [← hK]; exact app_kp hm l4
  replace a4 := (app_ns (xs := ([] : List Str)) hm).trans a4
  replace l4 := (app_lk (xs := ([] : List Str)) hm _).trans l4
  replace c4 := (app_cd (xs := ([] : List Str)) hm).trans c4
  replace k5 : PySem.W.keepIn K' (.ref f5) = true := by rw [← hK]; exact app_kp hm l5
  replace a5 := (app_ns (xs := ([] : List Str)) hm).trans a5
  replace l5 := (app_lk (xs := ([] : List Str)) hm _).trans l5
  replace c5 := (app_cd (xs := ([] : List Str)) hm).trans c5
  replace k6 : PySem.W.keepIn K' (.ref f6) = true := by rw [← hK]; exact app_kp hm l6
  replace a6 := (app_ns (xs := ([] : List Str)) hm).trans a6
  replace l6 := (app_lk (xs := ([] : List Str)) hm _).trans l6
  replace c6 := (app_cd (xs := ([] : List Str)) hm).trans c6
  replace k7 : PySem.W.keepIn K' (.ref f7) = true := by rw [← hK]; exact app_kp hm l7
  replace a7 := (app_ns (xs := ([] : List Str)) hm).trans a7
  replace l7 := (app_lk (xs := ([] : List Str)) hm _).trans l7
  replace c7 := (app_cd (xs := ([] : List Str)) hm).trans c7
  replace k8 : PySem.W.keepIn K' (.ref f8) = true := by rw [← hK]; exact app_kp hm l8
  replace a8 := (app_ns (xs := ([] : List Str)) hm).trans a8
  replace l8 := (app_lk (xs := ([] : List Str)) hm _).trans l8
  replace c8 := (app_cd (xs := ([] : List Str)) hm).trans c8
  replace k9 : PySem.W.keepIn K' (.ref f9) = true := by rw [← hK]; exact app_kp hm l9
  replace a9 := (app_ns (xs := ([] : List Str)) hm).trans a9
  replace l9 := (app_lk (xs := ([] : List Str)) hm _).trans l9
  replace c9 := (app_cd (xs := ([] : List Str)) hm).trans c9
  replace k10 : PySem.W.keepIn K' (.ref fa) = true := by rw [← hK]; exact app_kp hm l10
  replace a10 := (app_ns (xs := ([] : List Str)) hm).trans a10
  replace l10 := (app_lk (xs := ([] : List Str)) hm _).trans l10
  replace c10 := (app_cd (xs := ([] : List Str)) hm).trans c10
  replace k11 : PySem.W.keepIn K' (.ref f11) = true := by rw [← hK]; exact app_kp hm l11
  replace a11 := (app_find (xs := ([] : List Str)) hm).trans a11
  replace i11 := (app_fn (xs := ([] : List Str)) hm).trans i11
  replace l11 := (app_lk (xs := ([] : List Str)) hm _).trans l11
  replace c11 := (app_cd (xs := ([] : List Str)) hm).trans c11
  replace k12 : PySem.W.keepIn K' (.ref f12) = true := by rw [← hK]; exact app_kp hm l12
  replace a12 := (app_find (xs := ([] : List Str)) hm).trans a12
  replace i12 := (app_fn (xs := ([] : List Str)) hm).trans i12
  replace l12 := (app_lk (xs := ([] : List Str)) hm _).trans l12
  replace c12 := (app_cd (xs := ([] : List Str)) hm).trans c12
  replace k13 : PySem.W.keepIn K' (.ref f13) = true := by rw [← hK]; exact app_kp hm l13
  replace a13 := (app_find (xs := ([] : List Str)) hm).trans a13
  replace i13 := (app_fn (xs := ([] : List Str)) hm).trans i13
  replace l13 := (app_lk (xs := ([] : List Str)) hm _).trans l13
  replace c13 := (app_cd (xs := ([] : List Str)) hm).trans c13
  replace k14 : PySem.W.keepIn K' (.ref f14) = true := by rw [← hK]; exact app_kp hm l14
  replace a14 := (app_find (xs := ([] : List Str)) hm).trans a14
  replace i14 := (app_fn (xs := ([] : List Str)) hm).trans i14
  replace l14 := (app_lk (xs := ([] : List Str)) hm _).trans l14
  replace c14 := (app_cd (xs := ([] : List Str)) hm).trans c14
  replace k15 : PySem.W.keepIn K' (.ref f15) = true := by rw [← hK]; exact app_kp hm l15
  replace a15 := (app_find (xs := ([] : List Str)) hm).trans a15
  replace i15 := (app_fn (xs := ([] : List Str)) hm).trans i15
  replace l15 := (app_lk (xs := ([] : List Str)) hm _).trans l15
  replace c15 := (app_cd (xs := ([] : List Str)) hm).trans c15
  replace k16 : PySem.W.keepIn K' (.ref f16) = true := by rw [← hK]; exact app_kp hm l16
  replace a16 := (app_find (xs := ([] : List Str)) hm).trans a16
  replace i16 := (app_fn (xs := ([] : List Str)) hm).trans i16
  replace l16 := (app_lk (xs := ([] : List Str)) hm _).trans l16
  replace c16 := (app_cd (xs := ([] : List Str)) hm).trans c16
  replace k17 : PySem.W.keepIn K' (.ref f17) = true := by rw [← hK]; exact app_kp hm l17
  replace a17 := (app_find (xs := ([] : List Str)) hm).trans a17
  replace i17 := (app_fn (xs := ([] : List Str)) hm).trans i17
  replace l17 := (app_lk (xs := ([] : List Str)) hm _).trans l17
  replace c17 := (app_cd (xs := ([] : List Str)) hm).trans c17
  replace ac_Road := (app_ns (xs := ([] : List Str)) hm).trans ac_Road
  replace pg_Road := (app_pg (xs := ([] : List Str)) hm).trans pg_Road
  replace hd_Road := (app_hd (xs := ([] : List Str)) hm).trans hd_Road
  replace po_Road := (app_po (xs := ([] : List Str)) hm).trans po_Road
  replace sa_Road := (app_find (xs := ([] : List Str)) hm).trans sa_Road
  replace mk_Road := (app_makes (xs := ([] : List Str)) hm).trans mk_Road
  replace kc_Road := (app_keep (xs := ([] : List Str)) hm).trans kc_Road
  replace nf_Road__letters := (app_find (xs := ([] : List Str)) hm).trans nf_Road__letters
  replace nf_Road__room := (app_find (xs := ([] : List Str)) hm).trans nf_Road__room
  replace z_super := (app_ns (xs := ([] : List Str)) hm).trans z_super
  replace ax_NoDeal := (app_ns (xs := ([] : List Str)) hm).trans ax_NoDeal
  replace ax_NoPerson := (app_ns (xs := ([] : List Str)) hm).trans ax_NoPerson
  replace ax_NoWatcher := (app_ns (xs := ([] : List Str)) hm).trans ax_NoWatcher
  replace ax_NoText := (app_ns (xs := ([] : List Str)) hm).trans ax_NoText
  replace ax_NoLetter := (app_ns (xs := ([] : List Str)) hm).trans ax_NoLetter
  replace ax_ViewError := (app_ns (xs := ([] : List Str)) hm).trans ax_ViewError
  replace ax_NoPlan := (app_ns (xs := ([] : List Str)) hm).trans ax_NoPlan
  replace ax_NoPiece := (app_ns (xs := ([] : List Str)) hm).trans ax_NoPiece
  replace ax_NoRight := (app_ns (xs := ([] : List Str)) hm).trans ax_NoRight
  replace ax_NoQuestion := (app_ns (xs := ([] : List Str)) hm).trans ax_NoQuestion
  replace ax_Full := (app_ns (xs := ([] : List Str)) hm).trans ax_Full
  replace ax_NoMoment := (app_ns (xs := ([] : List Str)) hm).trans ax_NoMoment
  replace ax_NoPaper := (app_ns (xs := ([] : List Str)) hm).trans ax_NoPaper
  replace ax_NoEntry := (app_ns (xs := ([] : List Str)) hm).trans ax_NoEntry
  replace ax_NoScript := (app_ns (xs := ([] : List Str)) hm).trans ax_NoScript
  replace ax_NoLine := (app_ns (xs := ([] : List Str)) hm).trans ax_NoLine
  replace lx_NoDeal := (app_lk (xs := ([] : List Str)) hm _).trans lx_NoDeal
  replace lda_NoDeal := (app_lk (xs := ([] : List Str)) hm _).trans lda_NoDeal
  replace lcc_NoDeal := (app_lk (xs := ([] : List Str)) hm _).trans lcc_NoDeal
  replace lx_NoPerson := (app_lk (xs := ([] : List Str)) hm _).trans lx_NoPerson
  replace lda_NoPerson := (app_lk (xs := ([] : List Str)) hm _).trans lda_NoPerson
  replace lcc_NoPerson := (app_lk (xs := ([] : List Str)) hm _).trans lcc_NoPerson
  replace lx_NoWatcher := (app_lk (xs := ([] : List Str)) hm _).trans lx_NoWatcher
  replace lda_NoWatcher := (app_lk (xs := ([] : List Str)) hm _).trans lda_NoWatcher
  replace lcc_NoWatcher := (app_lk (xs := ([] : List Str)) hm _).trans lcc_NoWatcher
  replace lx_NoText := (app_lk (xs := ([] : List Str)) hm _).trans lx_NoText
  replace lda_NoText := (app_lk (xs := ([] : List Str)) hm _).trans lda_NoText
  replace lcc_NoText := (app_lk (xs := ([] : List Str)) hm _).trans lcc_NoText
  replace lx_NoLetter := (app_lk (xs := ([] : List Str)) hm _).trans lx_NoLetter
  replace lda_NoLetter := (app_lk (xs := ([] : List Str)) hm _).trans lda_NoLetter
  replace lcc_NoLetter := (app_lk (xs := ([] : List Str)) hm _).trans lcc_NoLetter
  replace z_ValueError := (app_ns (xs := ([] : List Str)) hm).trans z_ValueError
  replace z_all := (app_ns (xs := ([] : List Str)) hm).trans z_all
  replace z_bool := (app_ns (xs := ([] : List Str)) hm).trans z_bool
  replace z_enumerate := (app_ns (xs := ([] : List Str)) hm).trans z_enumerate
  replace z_int := (app_ns (xs := ([] : List Str)) hm).trans z_int
  replace z_isinstance := (app_ns (xs := ([] : List Str)) hm).trans z_isinstance
  replace z_len := (app_ns (xs := ([] : List Str)) hm).trans z_len
  replace z_min := (app_ns (xs := ([] : List Str)) hm).trans z_min
  replace z_range := (app_ns (xs := ([] : List Str)) hm).trans z_range
  replace z_repr := (app_ns (xs := ([] : List Str)) hm).trans z_repr
  replace z_tuple := (app_ns (xs := ([] : List Str)) hm).trans z_tuple
  replace z_type := (app_ns (xs := ([] : List Str)) hm).trans z_type
  replace y_ROOM := (app_ns (xs := ([] : List Str)) hm).trans y_ROOM
  replace X := app_in (xs := ([] : List Str)) hm X
  rw [hK] at a0 l0 c0 a1 l1 c1 a2 l2 c2 a3 l3 c3 a4 l4 c4 a5 l5 c5 a6 l6 c6 a7 l7 c7 a8 l8 c8 a9 l9 c9 a10 l10 c10 a11 l11 c11 a12 l12 c12 a13 l13 c13 a14 l14 c14 a15 l15 c15 a16 l16 c16 a17 l17 c17 ac_Road pg_Road hd_Road po_Road sa_Road mk_Road kc_Road nf_Road__letters nf_Road__room i11 i12 i13 i14 i15 i16 i17 xw11 z_super xn_NoPlan xk_NoPlan xn_NoPiece xk_NoPiece xn_NoRight xk_NoRight xn_NoQuestion xk_NoQuestion xn_Full xk_Full xm_Full_ViewError xn_NoMoment xk_NoMoment xn_NoPaper xk_NoPaper xn_NoEntry xk_NoEntry xn_NoScript xk_NoScript xn_NoLine xk_NoLine ax_NoDeal ax_NoPerson ax_NoWatcher ax_NoText ax_NoLetter ax_ViewError ax_NoPlan ax_NoPiece ax_NoRight ax_NoQuestion ax_Full ax_NoMoment ax_NoPaper ax_NoEntry ax_NoScript ax_NoLine lx_NoDeal lda_NoDeal lcc_NoDeal xb_NoDeal xk_NoDeal xm_NoDeal_ViewError lx_NoPerson lda_NoPerson lcc_NoPerson xb_NoPerson xk_NoPerson xm_NoPerson_ViewError lx_NoWatcher lda_NoWatcher lcc_NoWatcher xb_NoWatcher xk_NoWatcher xm_NoWatcher_ViewError lx_NoText lda_NoText lcc_NoText xb_NoText xk_NoText xm_NoText_ViewError lx_NoLetter lda_NoLetter lcc_NoLetter xb_NoLetter xk_NoLetter xm_NoLetter_ViewError z_ValueError z_all z_bool z_enumerate z_int z_isinstance z_len z_min z_range z_repr z_tuple z_type y_ROOM X
  clear hK hm
  have TH : TabsH K' h := by
    refine ⟨fun P x hx => ?_, fun P x y hx hy => ?_, fun x c P hx ht => ?_⟩
    · obtain ⟨hx, c, ht⟩ := hx
      rw [es] at hx
      cases hx
    · obtain ⟨hx, c, ht⟩ := hx
      obtain ⟨hy, c', ht'⟩ := hy
      rw [es] at hx hy
      cases hx
    · rw [es] at hx
      cases hx
  have T : Txt K' mg := { b_ValueError := PySem.W.mg_none_of X G z_ValueError, b_all := PySem.W.mg_none_of X G z_all, b_bool := PySem.W.mg_none_of X G z_bool, b_enumerate := PySem.W.mg_none_of X G z_enumerate, b_int := PySem.W.mg_none_of X G z_int, b_isinstance := PySem.W.mg_none_of X G z_isinstance, b_len := PySem.W.mg_none_of X G z_len, b_min := PySem.W.mg_none_of X G z_min, b_range := PySem.W.mg_none_of X G z_range, b_repr := PySem.W.mg_none_of X G z_repr, b_tuple := PySem.W.mg_none_of X G z_tuple, b_type := PySem.W.mg_none_of X G z_type, c_ROOM := ⟨_, PySem.W.mg_of X G y_ROOM⟩ }
  have F0 := fun_mk (st := s_is_whole) l0 c0 k0
  have D0 : Def K' mg "is_whole" s_is_whole p_is_whole f0 _ := ⟨F0, PySem.W.mg_of X G a0, F0.binds (ps := p_is_whole) fun _ _ _ _ _ _ us hl => match us, hl with | [_], _ => rfl⟩
  have F1 := fun_mk (st := s_law_begin) l1 c1 k1
  have D1 : Def K' mg "_law_begin" s_law_begin p_law_begin f1 _ := ⟨F1, PySem.W.mg_of X G a1, F1.binds (ps := p_law_begin) fun _ _ _ _ _ _ us hl => match us, hl with | [_], _ => rfl⟩
  have F2 := fun_mk (st := s_law_pick) l2 c2 k2
  have D2 : Def K' mg "_law_pick" s_law_pick p_law_pick f2 _ := ⟨F2, PySem.W.mg_of X G a2, F2.binds (ps := p_law_pick) fun _ _ _ _ _ _ us hl => match us, hl with | [_, _], _ => rfl⟩
  have F3 := fun_mk (st := s_law_of) l3 c3 k3
  have D3 : Def K' mg "_law_of" s_law_of p_law_of f3 _ := ⟨F3, PySem.W.mg_of X G a3, F3.binds (ps := p_law_of) fun _ _ _ _ _ _ us hl => match us, hl with | [_, _], _ => rfl⟩
  have F4 := fun_mk (st := s_law_letter) l4 c4 k4
  have D4 : Def K' mg "_law_letter" s_law_letter p_law_letter f4 _ := ⟨F4, PySem.W.mg_of X G a4, F4.binds (ps := p_law_letter) fun _ _ _ _ _ _ us hl => match us, hl with | [_], _ => rfl⟩
  have F5 := fun_mk (st := s_law_thing) l5 c5 k5
  have D5 : Def K' mg "_law_thing" s_law_thing p_law_thing f5 _ := ⟨F5, PySem.W.mg_of X G a5, F5.binds (ps := p_law_thing) fun _ _ _ _ _ _ us hl => match us, hl with | [_, _], _ => rfl⟩
  have F6 := fun_mk (st := s_law_refusal) l6 c6 k6
  have D6 : Def K' mg "_law_refusal" s_law_refusal p_law_refusal f6 _ := ⟨F6, PySem.W.mg_of X G a6, F6.binds (ps := p_law_refusal) fun _ _ _ _ _ _ us hl => match us, hl with | [_], _ => rfl⟩
  have F7 := fun_mk (st := s_law_told) l7 c7 k7
  have D7 : Def K' mg "_law_told" s_law_told p_law_told f7 _ := ⟨F7, PySem.W.mg_of X G a7, F7.binds (ps := p_law_told) fun _ _ _ _ _ _ us hl => match us, hl with | [_, _, _], _ => rfl⟩
  have F8 := fun_mk (st := s_law_due) l8 c8 k8
  have D8 : Def K' mg "_law_due" s_law_due p_law_due f8 _ := ⟨F8, PySem.W.mg_of X G a8, F8.binds (ps := p_law_due) fun _ _ _ _ _ _ us hl => match us, hl with | [_, _, _, _], _ => rfl⟩
  have F9 := fun_mk (st := s_law_right) l9 c9 k9
  have D9 : Def K' mg "_law_right" s_law_right p_law_right f9 _ := ⟨F9, PySem.W.mg_of X G a9, F9.binds (ps := p_law_right) fun _ _ _ _ _ _ us hl => match us, hl with | [_], _ => rfl⟩
  have F10 := fun_mk (st := s_law) l10 c10 k10
  have D10 : Def K' mg "law" s_law p_law fa _ := ⟨F10, PySem.W.mg_of X G a10, F10.binds (ps := p_law) fun _ _ _ _ _ _ us hl => match us, hl with | [_], _ => rfl⟩
  have F11 := fun_mk (st := s_Road___init__) l11 c11 k11
  have D11 : MDefK K' C_Road "Road.__init__" s_Road___init__ p_Road___init__ f11 _ 1 "room" 4 := MDefK.of l11 c11 k11 ⟨a11, i11, k11⟩ xw11 rfl (fun _ _ _ _ _ _ us ks l1 l2 => match us, ks, l1, l2 with | [_], [_], _, _ => ⟨_, _, _, _, _, _, rfl, rfl, rfl⟩) (fun _ _ _ _ _ _ us ws l1 l2 => match us, ws, l1, l2 with | [_], [_], _, _ => rfl)
  have F12 := fun_mk (st := s_Road_put) l12 c12 k12
  have D12 : MDef K' C_Road "put" "Road.put" s_Road_put p_Road_put f12 _ := ⟨F12, ⟨a12, i12, k12⟩, F12.binds (ps := p_Road_put) fun _ _ _ _ _ _ us hl => match us, hl with | [_, _], _ => rfl⟩
  have F13 := fun_mk (st := s_Road_letters) l13 c13 k13
  have D13 : MDef K' C_Road "letters" "Road.letters" s_Road_letters p_Road_letters f13 _ := ⟨F13, ⟨a13, i13, k13⟩, F13.binds (ps := p_Road_letters) fun _ _ _ _ _ _ us hl => match us, hl with | [_], _ => rfl⟩
  have F14 := fun_mk (st := s_Road_bring) l14 c14 k14
  have D14 : MDef K' C_Road "bring" "Road.bring" s_Road_bring p_Road_bring f14 _ := ⟨F14, ⟨a14, i14, k14⟩, F14.binds (ps := p_Road_bring) fun _ _ _ _ _ _ us hl => match us, hl with | [_, _], _ => rfl⟩
  have F15 := fun_mk (st := s_Road_lose) l15 c15 k15
  have D15 : MDef K' C_Road "lose" "Road.lose" s_Road_lose p_Road_lose f15 _ := ⟨F15, ⟨a15, i15, k15⟩, F15.binds (ps := p_Road_lose) fun _ _ _ _ _ _ us hl => match us, hl with | [_, _], _ => rfl⟩
  have F16 := fun_mk (st := s_Road_double) l16 c16 k16
  have D16 : MDef K' C_Road "double" "Road.double" s_Road_double p_Road_double f16 _ := ⟨F16, ⟨a16, i16, k16⟩, F16.binds (ps := p_Road_double) fun _ _ _ _ _ _ us hl => match us, hl with | [_, _], _ => rfl⟩
  have F17 := fun_mk (st := s_Road__check) l17 c17 k17
  have D17 : MDef K' C_Road "_check" "Road._check" s_Road__check p_Road__check f17 _ := ⟨F17, ⟨a17, i17, k17⟩, F17.binds (ps := p_Road__check) fun _ _ _ _ _ _ us hl => match us, hl with | [_, _], _ => rfl⟩
  let B : DD K' mg := { C_Road := C_Road, c_Road := ⟨⟨pg_Road, hd_Road, po_Road, sa_Road⟩, ⟨mk_Road, a11, i11, kc_Road⟩, PySem.W.mg_of X G ac_Road⟩, n_Road__letters := nf_Road__letters, n_Road__room := nf_Road__room, f_is_whole := f0, fd_is_whole := _, d_is_whole := D0, f_law_begin := f1, fd_law_begin := _, d_law_begin := D1, f_law_pick := f2, fd_law_pick := _, d_law_pick := D2, f_law_of := f3, fd_law_of := _, d_law_of := D3, f_law_letter := f4, fd_law_letter := _, d_law_letter := D4, f_law_thing := f5, fd_law_thing := _, d_law_thing := D5, f_law_refusal := f6, fd_law_refusal := _, d_law_refusal := D6, f_law_told := f7, fd_law_told := _, d_law_told := D7, f_law_due := f8, fd_law_due := _, d_law_due := D8, f_law_right := f9, fd_law_right := _, d_law_right := D9, f_law := fa, fd_law := _, d_law := D10, f_Road___init__ := f11, fd_Road___init__ := _, d_Road___init__ := D11, f_Road_put := f12, fd_Road_put := _, d_Road_put := D12, f_Road_letters := f13, fd_Road_letters := _, d_Road_letters := D13, f_Road_bring := f14, fd_Road_bring := _, d_Road_bring := D14, f_Road_lose := f15, fd_Road_lose := _, d_Road_lose := D15, f_Road_double := f16, fd_Road_double := _, d_Road_double := D16, f_Road__check := f17, fd_Road__check := _, d_Road__check := D17 }
  let E_NoDeal : DX.EDef l.prog K' mg "NoDeal" "at" := DX.EDef.of (a := ia_NoDeal cc_NoDeal cda_NoDeal .none kV_NoDeal doc_NoDeal pm_NoDeal ct_NoDeal an_NoDeal) rfl (PySem.W.mg_of X G ax_NoDeal) xb_NoDeal sS_NoDeal ⟨_, _, _, lx_NoDeal⟩ ⟨_, rfl, rfl⟩ ⟨_, _, _, _, _, _, lda_NoDeal, us2_NoDeal, fil_NoDeal⟩ ⟨_, _, _, lcc_NoDeal⟩ (PySem.W.mg_none_of X G z_super) tp_ bS_NoDeal ⟨_, fun _ => rfl⟩
  let E_NoPerson : DX.EDef l.prog K' mg "NoPerson" "person" := DX.EDef.of (a := ia_NoPerson cc_NoPerson cda_NoPerson .none kV_NoPerson doc_NoPerson pm_NoPerson ct_NoPerson an_NoPerson) rfl (PySem.W.mg_of X G ax_NoPerson) xb_NoPerson sS_NoPerson ⟨_, _, _, lx_NoPerson⟩ ⟨_, rfl, rfl⟩ ⟨_, _, _, _, _, _, lda_NoPerson, us2_NoPerson, fil_NoPerson⟩ ⟨_, _, _, lcc_NoPerson⟩ (PySem.W.mg_none_of X G z_super) tp_ bS_NoPerson ⟨_, fun _ => rfl⟩
  let E_NoWatcher : DX.EDef l.prog K' mg "NoWatcher" "w" := DX.EDef.of (a := ia_NoWatcher cc_NoWatcher cda_NoWatcher .none kV_NoWatcher doc_NoWatcher pm_NoWatcher ct_NoWatcher an_NoWatcher) rfl (PySem.W.mg_of X G ax_NoWatcher) xb_NoWatcher sS_NoWatcher ⟨_, _, _, lx_NoWatcher⟩ ⟨_, rfl, rfl⟩ ⟨_, _, _, _, _, _, lda_NoWatcher, us2_NoWatcher, fil_NoWatcher⟩ ⟨_, _, _, lcc_NoWatcher⟩ (PySem.W.mg_none_of X G z_super) tp_ bS_NoWatcher ⟨_, fun _ => rfl⟩
  let E_NoText : DX.EDef l.prog K' mg "NoText" "row" := DX.EDef.of (a := ia_NoText cc_NoText cda_NoText .none kV_NoText doc_NoText pm_NoText ct_NoText an_NoText) rfl (PySem.W.mg_of X G ax_NoText) xb_NoText sS_NoText ⟨_, _, _, lx_NoText⟩ ⟨_, rfl, rfl⟩ ⟨_, _, _, _, _, _, lda_NoText, us2_NoText, fil_NoText⟩ ⟨_, _, _, lcc_NoText⟩ (PySem.W.mg_none_of X G z_super) tp_ bS_NoText ⟨_, fun _ => rfl⟩
  let E_NoLetter : DX.EDef l.prog K' mg "NoLetter" "i" := DX.EDef.of (a := ia_NoLetter cc_NoLetter cda_NoLetter .none kV_NoLetter doc_NoLetter pm_NoLetter ct_NoLetter an_NoLetter) rfl (PySem.W.mg_of X G ax_NoLetter) xb_NoLetter sS_NoLetter ⟨_, _, _, lx_NoLetter⟩ ⟨_, rfl, rfl⟩ ⟨_, _, _, _, _, _, lda_NoLetter, us2_NoLetter, fil_NoLetter⟩ ⟨_, _, _, lcc_NoLetter⟩ (PySem.W.mg_none_of X G z_super) tp_ bS_NoLetter ⟨_, fun _ => rfl⟩
  let Z : EE l.prog K' mg := { e_NoDeal := E_NoDeal, e_NoPerson := E_NoPerson, e_NoWatcher := E_NoWatcher, e_NoText := E_NoText, e_NoLetter := E_NoLetter, C_ViewError := X_ViewError, a_ViewError := PySem.W.mg_of X G ax_ViewError, k_NoDeal := xk_NoDeal, x_NoDeal_ViewError := xm_NoDeal_ViewError, k_NoPerson := xk_NoPerson, x_NoPerson_ViewError := xm_NoPerson_ViewError, k_NoWatcher := xk_NoWatcher, x_NoWatcher_ViewError := xm_NoWatcher_ViewError, k_NoText := xk_NoText, x_NoText_ViewError := xm_NoText_ViewError, k_NoLetter := xk_NoLetter, x_NoLetter_ViewError := xm_NoLetter_ViewError, n_NoPlan := ⟨X_NoPlan, PySem.W.mg_of X G ax_NoPlan, xn_NoPlan⟩, k_NoPlan := xk_NoPlan, n_NoPiece := ⟨X_NoPiece, PySem.W.mg_of X G ax_NoPiece, xn_NoPiece⟩, k_NoPiece := xk_NoPiece, n_NoRight := ⟨X_NoRight, PySem.W.mg_of X G ax_NoRight, xn_NoRight⟩, k_NoRight := xk_NoRight, n_NoQuestion := ⟨X_NoQuestion, PySem.W.mg_of X G ax_NoQuestion, xn_NoQuestion⟩, k_NoQuestion := xk_NoQuestion, n_Full := ⟨X_Full, PySem.W.mg_of X G ax_Full, xn_Full⟩, k_Full := xk_Full, x_Full_ViewError := xm_Full_ViewError, n_NoMoment := ⟨X_NoMoment, PySem.W.mg_of X G ax_NoMoment, xn_NoMoment⟩, k_NoMoment := xk_NoMoment, n_NoPaper := ⟨X_NoPaper, PySem.W.mg_of X G ax_NoPaper, xn_NoPaper⟩, k_NoPaper := xk_NoPaper, n_NoEntry := ⟨X_NoEntry, PySem.W.mg_of X G ax_NoEntry, xn_NoEntry⟩, k_NoEntry := xk_NoEntry, n_NoScript := ⟨X_NoScript, PySem.W.mg_of X G ax_NoScript, xn_NoScript⟩, k_NoScript := xk_NoScript, n_NoLine := ⟨X_NoLine, PySem.W.mg_of X G ax_NoLine, xn_NoLine⟩, k_NoLine := xk_NoLine }
  refine ⟨K', X, TH, PySem.W.fnOf "law" "law" (defArgs s_law) (defBody s_law) (defScope s_law) .none kV10 dc10 pm10 an10 cd10 ct10, fun s v => .of_eq rfl, fun base _ _ TB => ?_⟩
  exact law_sp (ok_law T B Z) law_flaw
end K04

open PySem PySem.W PyProof.Rows in
set_option maxRecDepth 100000 in
set_option maxHeartbeats 0 in
theorem PySem.Challenge.cw_standviews_k35_roads_with_room_holds : PySem.Challenge.rw_standviews_k35_roads_with_room.Holds := by
  w_on; o_law; k_head; (case hw => w_witness2)
  k_fill
  refine DL.walkT (l := PySem.Challenge.rw_standviews_k35_roads_with_room) (k := 7) rfl rfl ⟨rfl, by decide, by decide⟩ (fun w h Y => by first | exact PySem.W.kIn_of Y | exact PySem.W.km_in_of Y) ?F
  case F =>
    intro w mg mb mean fa h KX T0 hmg
    refine' K04.all_mk KX T0 hmg ?ac_Road ?pg_Road ?hd_Road ?po_Road ?sa_Road ?mk_Road ?kc_Road ?nf_Road__letters ?nf_Road__room ?a0 ?l0 ?c0 ?k0 ?a1 ?l1 ?c1 ?k1 ?a2 ?l2 ?c2 ?k2 ?a3 ?l3 ?c3 ?k3 ?a4 ?l4 ?c4 ?k4 ?a5 ?l5 ?c5 ?k5 ?a6 ?l6 ?c6 ?k6 ?a7 ?l7 ?c7 ?k7 ?a8 ?l8 ?c8 ?k8 ?a9 ?l9 ?c9 ?k9 ?a10 ?l10 ?c10 ?k10 ?a11 ?i11 ?l11 ?c11 ?k11 ?xw11 ?a12 ?i12 ?l12 ?c12 ?k12 ?a13 ?i13 ?l13 ?c13 ?k13 ?a14 ?i14 ?l14 ?c14 ?k14 ?a15 ?i15 ?l15 ?c15 ?k15 ?a16 ?i16 ?l16 ?c16 ?k16 ?a17 ?i17 ?l17 ?c17 ?k17 ?z_super ?tp_ ?ax_NoDeal ?ix_NoDeal ?lx_NoDeal ?lda_NoDeal ?lcc_NoDeal ?us2_NoDeal ?fil_NoDeal ?ax_NoPerson ?ix_NoPerson ?lx_NoPerson ?lda_NoPerson ?lcc_NoPerson ?us2_NoPerson ?fil_NoPerson ?ax_NoWatcher ?ix_NoWatcher ?lx_NoWatcher ?lda_NoWatcher ?lcc_NoWatcher ?us2_NoWatcher ?fil_NoWatcher ?ax_NoText ?ix_NoText ?lx_NoText ?lda_NoText ?lcc_NoText ?us2_NoText ?fil_NoText ?ax_NoLetter ?ix_NoLetter ?lx_NoLetter ?lda_NoLetter ?lcc_NoLetter ?us2_NoLetter ?fil_NoLetter ?ax_ViewError ?ax_NoPlan ?ax_NoPiece ?ax_NoRight ?ax_NoQuestion ?ax_Full ?ax_NoMoment ?ax_NoPaper ?ax_NoEntry ?ax_NoScript ?ax_NoLine ?xb_NoDeal ?xk_NoDeal ?xm_NoDeal_ViewError ?xb_NoPerson ?xk_NoPerson ?xm_NoPerson_ViewError ?xb_NoWatcher ?xk_NoWatcher ?xm_NoWatcher_ViewError ?xb_NoText ?xk_NoText ?xm_NoText_ViewError ?xb_NoLetter ?xk_NoLetter ?xm_NoLetter_ViewError ?xn_NoPlan ?xk_NoPlan ?xn_NoPiece ?xk_NoPiece ?xn_NoRight ?xk_NoRight ?xn_NoQuestion ?xk_NoQuestion ?xn_Full ?xk_Full ?xm_Full_ViewError ?xn_NoMoment ?xk_NoMoment ?xn_NoPaper ?xk_NoPaper ?xn_NoEntry ?xk_NoEntry ?xn_NoScript ?xk_NoScript ?xn_NoLine ?xk_NoLine ?z_ValueError ?z_all ?z_bool ?z_enumerate ?z_int ?z_isinstance ?z_len ?z_min ?z_range ?z_repr ?z_tuple ?z_type ?y_ROOM
    (case ac_Road => k_is)
    (case pg_Road => k_is)
    (case hd_Road => k_is)
    (case po_Road => k_is)
    (case sa_Road => k_is)
    (case mk_Road => k_is)
    (case kc_Road => k_is)
    (case nf_Road__letters => k_is)
    (case nf_Road__room => k_is)
    (case a0 => k_is)
    (case l0 => k_is)
    (case c0 => k_is)
    (case k0 => k_is)
    (case a1 => k_is)
    (case l1 => k_is)
    (case c1 => k_is)
    (case k1 => k_is)
    (case a2 => k_is)
    (case l2 => k_is)
    (case c2 => k_is)
    (case k2 => k_is)
    (case a3 => k_is)
    (case l3 => k_is)
    (case c3 => k_is)
    (case k3 => k_is)
    (case a4 => k_is)
    (case l4 => k_is)
    (case c4 => k_is)
    (case k4 => k_is)
    (case a5 => k_is)
    (case l5 => k_is)
    (case c5 => k_is)
    (case k5 => k_is)
    (case a6 => k_is)
    (case l6 => k_is)
    (case c6 => k_is)
    (case k6 => k_is)
    (case a7 => k_is)
    (case l7 => k_is)
    (case c7 => k_is)
    (case k7 => k_is)
    (case a8 => k_is)
    (case l8 => k_is)
    (case c8 => k_is)
    (case k8 => k_is)
    (case a9 => k_is)
    (case l9 => k_is)
    (case c9 => k_is)
    (case k9 => k_is)
    (case a10 => k_is)
    (case l10 => k_is)
    (case c10 => k_is)
    (case k10 => k_is)
    (case a11 => k_is)
    (case i11 => k_is)
    (case l11 => k_is)
    (case c11 => k_is)
    (case k11 => k_is)
    (case xw11 => kernel_rfl)
    (case a12 => k_is)
    (case i12 => k_is)
    (case l12 => k_is)
    (case c12 => k_is)
    (case k12 => k_is)
    (case a13 => k_is)
    (case i13 => k_is)
    (case l13 => k_is)
    (case c13 => k_is)
    (case k13 => k_is)
    (case a14 => k_is)
    (case i14 => k_is)
    (case l14 => k_is)
    (case c14 => k_is)
    (case k14 => k_is)
    (case a15 => k_is)
    (case i15 => k_is)
    (case l15 => k_is)
    (case c15 => k_is)
    (case k15 => k_is)
    (case a16 => k_is)
    (case i16 => k_is)
    (case l16 => k_is)
    (case c16 => k_is)
    (case k16 => k_is)
    (case a17 => k_is)
    (case i17 => k_is)
    (case l17 => k_is)
    (case c17 => k_is)
    (case k17 => k_is)
    (case z_super => k_is)
    (case tp_ => kernel_rfl)
    (case ax_NoDeal => k_is)
    (case ix_NoDeal => k_is)
    (case lx_NoDeal => k_is)
    (case lda_NoDeal => k_is)
    (case lcc_NoDeal => k_is)
    (case us2_NoDeal => rfl)
    (case fil_NoDeal => kernel_rfl)
    (case ax_NoPerson => k_is)
    (case ix_NoPerson => k_is)
    (case lx_NoPerson => k_is)
    (case lda_NoPerson => k_is)
    (case lcc_NoPerson => k_is)
    (case us2_NoPerson => rfl)
    (case fil_NoPerson => kernel_rfl)
    (case ax_NoWatcher => k_is)
    (case ix_NoWatcher => k_is)
    (case lx_NoWatcher => k_is)
    (case lda_NoWatcher => k_is)
    (case lcc_NoWatcher => k_is)
    (case us2_NoWatcher => rfl)
    (case fil_NoWatcher => kernel_rfl)
    (case ax_NoText => k_is)
    (case ix_NoText => k_is)
    (case lx_NoText => k_is)
    (case lda_NoText => k_is)
    (case lcc_NoText => k_is)
    (case us2_NoText => rfl)
    (case fil_NoText => kernel_rfl)
    (case ax_NoLetter => k_is)
    (case ix_NoLetter => k_is)
    (case lx_NoLetter => k_is)
    (case lda_NoLetter => k_is)
    (case lcc_NoLetter => k_is)
    (case us2_NoLetter => rfl)
    (case fil_NoLetter => kernel_rfl)
    (case ax_ViewError => k_is)
    (case ax_NoPlan => k_is)
    (case ax_NoPiece => k_is)
    (case ax_NoRight => k_is)
    (case ax_NoQuestion => k_is)
    (case ax_Full => k_is)
    (case ax_NoMoment => k_is)
    (case ax_NoPaper => k_is)
    (case ax_NoEntry => k_is)
    (case ax_NoScript => k_is)
    (case ax_NoLine => k_is)
    (case xb_NoDeal => kernel_rfl)
    (case xk_NoDeal => kernel_rfl)
    (case xm_NoDeal_ViewError => kernel_rfl)
    (case xb_NoPerson => kernel_rfl)
    (case xk_NoPerson => kernel_rfl)
    (case xm_NoPerson_ViewError => kernel_rfl)
    (case xb_NoWatcher => kernel_rfl)
    (case xk_NoWatcher => kernel_rfl)
    (case xm_NoWatcher_ViewError => kernel_rfl)
    (case xb_NoText => kernel_rfl)
    (case xk_NoText => kernel_rfl)
    (case xm_NoText_ViewError => kernel_rfl)
    (case xb_NoLetter => kernel_rfl)
    (case xk_NoLetter => kernel_rfl)
    (case xm_NoLetter_ViewError => kernel_rfl)
    (case xn_NoPlan => kernel_rfl)
    (case xk_NoPlan => kernel_rfl)
    (case xn_NoPiece => kernel_rfl)
    (case xk_NoPiece => kernel_rfl)
    (case xn_NoRight => kernel_rfl)
    (case xk_NoRight => kernel_rfl)
    (case xn_NoQuestion => kernel_rfl)
    (case xk_NoQuestion => kernel_rfl)
    (case xn_Full => kernel_rfl)
    (case xk_Full => kernel_rfl)
    (case xm_Full_ViewError => kernel_rfl)
    (case xn_NoMoment => kernel_rfl)
    (case xk_NoMoment => kernel_rfl)
    (case xn_NoPaper => kernel_rfl)
    (case xk_NoPaper => kernel_rfl)
    (case xn_NoEntry => kernel_rfl)
    (case xk_NoEntry => kernel_rfl)
    (case xn_NoScript => kernel_rfl)
    (case xk_NoScript => kernel_rfl)
    (case xn_NoLine => kernel_rfl)
    (case xk_NoLine => kernel_rfl)
    (case z_ValueError => k_is)
    (case z_all => k_is)
    (case z_bool => k_is)
    (case z_enumerate => k_is)
    (case z_int => k_is)
    (case z_isinstance => k_is)
    (case z_len => k_is)
    (case z_min => k_is)
    (case z_range => k_is)
    (case z_repr => k_is)
    (case z_tuple => k_is)
    (case z_type => k_is)
    (case y_ROOM => k_is)
