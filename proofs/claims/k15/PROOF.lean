import PyProof.Rows.All
import Wide.All
import OpenK.AllK
import Wide.FinOn
import HandS.Words
import HandS.Ends
import HandS.ForMost
import HandS.More
import HandS.Walk
import HandS.TupAny
import HandS.Style
import HandS.IsInst
import HandS.Zip
import HandS.Conv
import HandS.Deep
import KE.KeyNested
import KE.KNest
import HandS.Nested
import KE.GoesEnum
import HandS.Iter
import HandS.Set
import HandS.SetFor
import HandS.SetTxt0
import HandS.Strs
import PyProof.Rows.SortShellAny
import HandS.List
import PyProof.ReprRoads
import PyProof.ReprDict
import PyProof.CallFns
import PyProof.CallStr
import PyProof.EqAt
import PyProof.EqKinds
import PyProof.NeKinds
import PyProof.Rows.IntBool
import PyProof.TwoTypesSub
import PyProof.ReprLen
import PyProof.ReprRoom
import PyProof.Rows.ReprOcc
import PyProof.Rows.StrCase
import HandS.CallLocal
import PyProof.WalksMore
import KE.GoesZip
import KE.SortKeyHeap
import PyProof.P3Eq
import HandS.SortKw
import HandS.FStr
import HandS.Star
import PyProof.P3In
import KE.KDictKeyed
import KE.DataFind
import HandS.Wide
import HandS.TryOnly
import HandS.DictComp
import KE.KDictList
import HandS.RaiseMore
import KE.GoesMore
import HandS.SetKeys
import HandS.NoneIn
import KE.KDictWalk
import KE.DataMinMax
import PyProof.Rows.ListStrD
import HandS.Text
import HandS.StrSplit
import PyProof.DictUpdate
import PyProof.AutoSeq1
import HandS.WordsDict
import KE.KExcSuper
import KE.KExcIs
import HandS.ExcIs
import HandS.ExcOwn
import HandS.ExcInit
import HandS.ExcField
import HandS.TupMul
import HandS.StrMore
import HandS.ExcValue
import KE.KDictPairs
import PySem.Challenge.RW_standviews_k15_what_is_a_right
set_option Elab.async false
set_option linter.all false
set_option autoImplicit false
set_option maxRecDepth 100000
set_option maxHeartbeats 4000000
/-! promises of defs where nothing is being shown (no guard stands): repr may be asked -/
namespace DG
open PySem PySem.Spec PyProof.Rows L2
structure RoomG (k : Nat) (A : Around) : Prop where
  r : Room k A
  g : A.guards = some []
theorem RoomG.mono {j k : Nat} {A : Around} (r : RoomG k A) (h : j ≤ k) : RoomG j A := ⟨r.r.mono h, r.g⟩
structure FnG (P : Program) (w : World) (K : PySem.W.Frag) (mg : Str → Option Value) (base : Heap) (CX : CXT) (k : Nat) (f : Addr) (fd : FuncData) (ps : List Str) (sp : Sp) : Prop where
  len : ∀ vs H Q E, sp vs H Q E → vs.length = ps.length
  run : ∀ (A : Around) (outer : List Env) (s : Shared) (H : Hp) (args : Args) (us : List Value) (vs : List V) (Q : VK) (E : XK), RoomG k A → Env0 P w K mg base A outer s H → BindsTo s fd args (ps.zip us) →
    Vals vs us → sp vs H Q E → codeAny (model P w) A (.call (.ref f) args) (CR CX outer P w H s Q E) s
section
variable {P : Program} {w : World} {K : PySem.W.Frag} {mg : Str → Option Value} {base : Heap} {CX : CXT} {j k : Nat} {f : Addr} {fd : FuncData} {ps : List Str} {sp sp' : Sp}
theorem FnG.mono (F : FnG P w K mg base CX j f fd ps sp) (h : j ≤ k) : FnG P w K mg base CX k f fd ps sp := ⟨F.len, fun A o s H a us vs Q E r => F.run A o s H a us vs Q E (r.mono h)⟩
theorem FnG.imp (F : FnG P w K mg base CX k f fd ps sp) (h : ∀ vs H Q E, sp' vs H Q E → sp vs H Q E) : FnG P w K mg base CX k f fd ps sp' :=
  ⟨fun vs H Q E q => F.len vs H Q E (h _ _ _ _ q), fun A o s H a us vs Q E r e b v q => F.run A o s H a us vs Q E r e b v (h _ _ _ _ q)⟩
/-- a def by its body -/
theorem fnG {x qual : Str} {st : Stmt} {N : List Str} (D : Fun K x qual st f fd) (S : FnScope N ps (defScope st)) (len : ∀ vs H Q E, sp vs H Q E → vs.length = ps.length)
    (body : ∀ (cdv : Value) (A : Around) (outer : List Env) (s : Shared) (H : Hp) (vs : List V) (Q : VK) (E : XK), RoomG k (A.deeper (envOfC qual (defScope st) s.heap.objs.size f cdv)) → sp vs H Q E →
      ∃ t, PSs (cxOf CX P w K mg base N qual (defScope st) f cdv A outer s H E) (defBody st) t ∧ t { nx := fun _ H' => Q .non H', rt := Q } (start N vs) H) : FnG P w K mg base CX (k + 1) f fd ps sp := by
  obtain ⟨oc, od, kV, doc, pm, an, cdv, ct, osl, rfl, lk, hcd⟩ := D.ex
  refine ⟨len, fun A outer s H args us vs Q E hr e0 hb r hsp => ?_⟩
  have hl := len vs H Q E hsp
  have KX : K.In s.heap := e0.mod.kin.keeps fun b o e => (e0.bs b o e).1
  have lim := e0.mod.nolimit.keeps fun b o e => (e0.bs b o e).1
  have kinds : ∀ y ∈ ps.zip us, (defScope st).names.lookup y.1 = some .local ∨ ((defScope st).names.lookup y.1 = some .cell ∧ ((cellsFrom (s.heap.objs.size + 1) (defScope st).names []).lookup y.1).isSome = true) := by
    intro y hy
    have hm := (List.of_mem_zip (a := y.1) (b := y.2) hy).1
    exact (S.par y.1 hm).imp id fun q => ⟨q, PySem.W.cellsFrom_some _ _ _ (.inl q)⟩
  apply codeAny_call_function hr.r.depth (KX _ _ lk) rfl S.co S.gen rfl (PySem.W.codeRec_of KX hcd)
  refine hb _ _ _ _ (wpAny_newFunctionEnv_cells S.kind kinds fun env he s1 x => ?_)
  subst he
  refine ⟨lim.keeps x.toInCall.keep, ?_⟩
  apply codeAny_func
  obtain ⟨t, ht, q⟩ := body cdv A outer s H vs Q E ⟨hr.r.deeper _, hr.g⟩ hsp
  have I := inv_start (CX := CX) (E := E) S hr.r.hd e0 hl r x
  refine wpAny_mono (ht.run [] s1 (start N vs) H _ I q) (fun fl s' z => ?_) fun e s' z => z
  match fl, z with
  | .ret u, ⟨v, σ', H', J, rv, q⟩ => exact ⟨v, H', J.os, J.bare, J.base, J.hok, rv, q⟩
  | .next, ⟨σ', H', J, q⟩ => exact ⟨V.non, H', J.os, J.bare, J.base, J.hok, rfl, q⟩
  | .brk, ⟨_, _, _, q⟩ => exact q.elim
  | .cont, ⟨_, _, _, q⟩ => exact q.elim
end
/-- a call of one -/
theorem pe_callG {X : Cx} {CX : CXT} {k : Nat} {f : Addr} {fd : FuncData} {ps : List Str} {sp : Sp} {E : XK} {x : Str} {p pos : Pos} {e : Expr} {es : List Expr} {t : TA} (F : FnG X.prog X.w X.K X.mg X.base CX k f fd ps sp) (hr : RoomG k X.A) (hg : Gl X x) (hm : X.mg x = some (.ref f))
    (hk : PySem.W.keepIn X.K (.ref f) = true) (hb : Binds X.K fd ps []) (hx : Passes CX X E) (ha : PA X (e :: es) t) (hdb : (x == ("__debug__" : Str)) = false := by decide)
    (he : starEach (e :: es) X.env = (false, eval e X.env) :: starEach es X.env := by rfl) (hpl : (backTo pos (starEach es X.env)).any (·.1) = false := by rfl) : PE X (.Call (.Name x p) (e :: es) [] pos) (tCall sp [] E t) := by
  refine ⟨fun pins s σ H Q I h => wpAny_Call_Name_kw (ld_glob I hg hm ?_ hdb)⟩
  refine PySem.W.callWith_K (h₀ := X.base) I.ok.mod.kin hk (thn (ha.run pos pins s σ H _ I h) fun us s1 ⟨vs, H1, I1, r, q⟩ => ⟨I1.kIn, wpAny_call ?_⟩) he hpl
  have q : sp (vs ++ []) H1 Q E := q
  rw [List.append_nil] at q
  have hl : (us ++ []).length = ps.length := by rw [List.append_nil, ← r.length]; exact F.len _ _ _ _ q
  have b := hb s1 us I1.kIn hl
  rw [List.append_nil] at b
  refine codeAny_mono (F.run X.A X.stack s1 H1 ⟨us, []⟩ us vs Q E hr I1.env0 b r q) fun r s' z => ?_
  match r, z with
  | .error e, z => exact hx pins σ H1 s1 e s' I1 z
  | .ok (.ret u), z => exact I1.after z
  | .ok .next, z => exact z.elim
  | .ok .brk, z => exact z.elim
  | .ok .cont, z => exact z.elim
end DG

set_option autoImplicit false
set_option maxRecDepth 100000
set_option maxHeartbeats 4000000
namespace DG
open PySem PySem.Spec PyProof.Rows L2
section
variable {P : Program} {w : World} {K : PySem.W.Frag} {mg mb : Str → Option Value} {CX : CXT} {k : Nat} {fa a : Addr} {fd : FuncData} {x : Str} {sp : Sp} {s : Shared} {vs : List Value} {ns : List Int}
/-- what the head wants of the law's call -/
abbrev Told (s : Shared) : Result → Shared → Prop := fun r s' => r = .ok (.ret (.bool true)) ∧ OldK s.heap s'.heap ∧ s'.os = s.os ∧ AllBare s'.gens
end
end DG

set_option autoImplicit false
set_option maxRecDepth 100000
set_option maxHeartbeats 2000000
namespace DL
open PySem L2

/-- what is written of the program, and what is kept in mind on the way -/
structure KZ where
  fr : PySem.W.Frag
  z : Hp → Hp → Prop
  zm : ∀ {Fr Fr1 H0 H1 : Hp}, (∀ a o, Fr a = some o → Fr1 a = some o) → Same H0 H1 → z Fr H0 → z Fr1 H1
instance : Coe KZ PySem.W.Frag := ⟨KZ.fr⟩
/-- a place in the program, and what is kept in mind there -/
structure CxZ where
  X : Cx
  z : Hp → Hp → Prop
  zm : ∀ {Fr Fr1 H0 H1 : Hp}, (∀ a o, Fr a = some o → Fr1 a = some o) → Same H0 H1 → z Fr H0 → z Fr1 H1
instance : Coe CxZ Cx := ⟨CxZ.X⟩
abbrev CxZ.K (X : CxZ) : KZ := ⟨X.X.K, X.z, X.zm⟩
abbrev CxZ.prog (X : CxZ) := X.X.prog
abbrev CxZ.w (X : CxZ) := X.X.w
abbrev CxZ.mg (X : CxZ) := X.X.mg
abbrev CxZ.base (X : CxZ) := X.X.base
abbrev CxZ.A (X : CxZ) := X.X.A
abbrev CxZ.N (X : CxZ) := X.X.N
abbrev CxZ.env (X : CxZ) := X.X.env
abbrev CxZ.stack (X : CxZ) := X.X.stack
abbrev CxZ.fn (X : CxZ) := X.X.fn
abbrev CxZ.calm (X : CxZ) := X.X.calm
abbrev CxZ.xe (X : CxZ) := X.X.xe
abbrev CxZ.blk (X : CxZ) (s : Shared) (H : Hp) (scope : Scope) (cenv : PySem.Env) (fp : List Addr) : CxZ := ⟨X.X.blk s H scope cenv fp, X.z, X.zm⟩
/-- nothing kept in mind -/
abbrev topK (K : PySem.W.Frag) : KZ := ⟨K, fun _ _ => True, fun _ _ _ => trivial⟩
abbrev topX (X : Cx) : CxZ := ⟨X, fun _ _ => True, fun _ _ _ => trivial⟩
/-! ### data -/
inductive D where
  | non | bl (b : Bool) | int (i : Int) | str (s : Str)
  | tup (xs : List D) | lst (xs : List D) | scr (xs : List D) | cel (a : Addr) | ty (n : String) | ftp (xs : List D)

mutual
inductive Dat (K : KZ) (H : Hp) : V → D → Prop
  | non : Dat K H .non .non
  | bl (b : Bool) : Dat K H (.bl b) (.bl b)
  | int (i : Int) : Dat K H (.int i) (.int i)
  | str (s : Str) : Dat K H (.str s) (.str s)
  | tup {a : Addr} {vs : List V} {ds : List D} : SqT K H a vs → Dats K H vs ds → Dat K H (.ref a) (.tup ds)
  | lst {a : Addr} {vs : List V} {ds : List D} : H a = some (.lst vs) → Dats K H vs ds → Dat K H (.ref a) (.lst ds)
  | scr {a : Addr} {vs : List V} {ds : List D} : SqL K H a vs → Dats K H vs ds → Dat K H (.ref a) (.scr ds)
  | cel (a : Addr) : Dat K H (.ref a) (.cel a)
  | ty (n : String) : Dat K H (.ty n) (.ty n)
  | ftp {a : Addr} {o : Obj} {vs : List V} {ds : List D} : H a = some (.frz o (.tup vs)) → o.dict = none → Dats K H vs ds → Dat K H (.ref a) (.ftp ds)
inductive Dats (K : KZ) (H : Hp) : List V → List D → Prop
  | nil : Dats K H [] []
  | cons {v : V} {vs : List V} {d : D} {ds : List D} : Dat K H v d → Dats K H vs ds → Dats K H (v :: vs) (d :: ds)
end

theorem same_l {K : KZ} {H H' : Hp} {a : Addr} {xs : List V} (e : Same H H') (h : SqL K H a xs) : SqL K H' a xs := e.seq h
theorem same_t {K : KZ} {H H' : Hp} {a : Addr} {xs : List V} (e : Same H H') (h : SqT K H a xs) : SqT K H' a xs := by
  rcases h with (h | ⟨o, h⟩) | h
  · exact .inl (.inl (e _ _ h))
  · exact .inl (.inr ⟨o, e _ _ h⟩)
  · exact .inr h

mutual
theorem Dat.chg {K K' : KZ} (e : K.fr = K'.fr) {H : Hp} : ∀ (d : D) (v : V), Dat K H v d → Dat K' H v d
  | .non, _, .non => .non
  | .bl _, _, .bl b => .bl b
  | .int _, _, .int i => .int i
  | .str _, _, .str s => .str s
  | .tup ds, _, .tup h hs => .tup (by rw [← e]; exact h) (Dats.chg e ds _ hs)
  | .lst ds, _, .lst h hs => .lst h (Dats.chg e ds _ hs)
  | .scr ds, _, .scr h hs => .scr (by rw [← e]; exact h) (Dats.chg e ds _ hs)
  | .cel _, _, .cel a => .cel a
  | .ty _, _, .ty n => .ty n
  | .ftp ds, _, .ftp h h2 hs => .ftp h h2 (Dats.chg e ds _ hs)
theorem Dats.chg {K K' : KZ} (e : K.fr = K'.fr) {H : Hp} : ∀ (ds : List D) (vs : List V), Dats K H vs ds → Dats K' H vs ds
  | [], _, .nil => .nil
  | d :: ds, _, .cons h hs => .cons (Dat.chg e d _ h) (Dats.chg e ds _ hs)
end
mutual
theorem Dat.mono {K : KZ} {H H' : Hp} (e : Same H H') : ∀ (d : D) (v : V), Dat K H v d → Dat K H' v d
  | .non, _, .non => .non
  | .bl _, _, .bl b => .bl b
  | .int _, _, .int i => .int i
  | .str _, _, .str s => .str s
  | .tup ds, _, .tup h hs => .tup (same_t e h) (Dats.mono e ds _ hs)
  | .lst ds, _, .lst h hs => .lst (e _ _ h) (Dats.mono e ds _ hs)
  | .scr ds, _, .scr h hs => .scr (same_l e h) (Dats.mono e ds _ hs)
  | .cel _, _, .cel a => .cel a
  | .ty _, _, .ty n => .ty n
  | .ftp ds, _, .ftp h h2 hs => .ftp (e _ _ h) h2 (Dats.mono e ds _ hs)
theorem Dats.mono {K : KZ} {H H' : Hp} (e : Same H H') : ∀ (ds : List D) (vs : List V), Dats K H vs ds → Dats K H' vs ds
  | [], _, .nil => .nil
  | d :: ds, _, .cons h hs => .cons (Dat.mono e d _ h) (Dats.mono e ds _ hs)
end
theorem Dats.length {K : KZ} {H : Hp} : ∀ {vs : List V} {ds : List D}, Dats K H vs ds → vs.length = ds.length
  | _, _, .nil => rfl
  | _, _, .cons _ t => congrArg (· + 1) (Dats.length t)
theorem Dats.get {K : KZ} {H : Hp} : ∀ {vs : List V} {ds : List D} {i : Nat} {d : D}, Dats K H vs ds → ds[i]? = some d → ∃ v, vs[i]? = some v ∧ Dat K H v d
  | _, _, _, _, .nil, e => by simp at e
  | _, _, 0, _, .cons h _, e => by simp at e; subst e; exact ⟨_, rfl, h⟩
  | _, _, i + 1, _, .cons _ t, e => by
    obtain ⟨v, h1, h2⟩ := Dats.get (i := i) t (by simpa using e)
    exact ⟨v, by simpa using h1, h2⟩
theorem Dats.append {K : KZ} {H : Hp} : ∀ {vs ws : List V} {ds es : List D}, Dats K H vs ds → Dats K H ws es → Dats K H (vs ++ ws) (ds ++ es)
  | _, _, _, _, .nil, s => s
  | _, _, _, _, .cons h t, s => .cons h (Dats.append t s)
theorem Dats.one {K : KZ} {H : Hp} {v : V} {d : D} (h : Dat K H v d) : Dats K H [v] [d] := .cons h .nil
theorem Dats.take {K : KZ} {H : Hp} : ∀ {vs : List V} {ds : List D} (n : Nat), Dats K H vs ds → Dats K H (vs.take n) (ds.take n)
  | _, _, 0, _ => .nil
  | _, _, _ + 1, .nil => .nil
  | _, _, n + 1, .cons h t => .cons h (Dats.take n t)
theorem Dats.drop {K : KZ} {H : Hp} : ∀ {vs : List V} {ds : List D} (n : Nat), Dats K H vs ds → Dats K H (vs.drop n) (ds.drop n)
  | _, _, 0, h => h
  | _, _, _ + 1, .nil => .nil
  | _, _, n + 1, .cons _ t => Dats.drop n t
theorem Dats.set {K : KZ} {H : Hp} {v : V} {d : D} (h : Dat K H v d) : ∀ {vs : List V} {ds : List D} (i : Nat), Dats K H vs ds → Dats K H (vs.set i v) (ds.set i d)
  | _, _, _, .nil => .nil
  | _, _, 0, .cons _ t => .cons h t
  | _, _, i + 1, .cons q t => .cons q (Dats.set h i t)
theorem Dats.eraseIdx {K : KZ} {H : Hp} : ∀ {vs : List V} {ds : List D} (i : Nat), Dats K H vs ds → Dats K H (vs.eraseIdx i) (ds.eraseIdx i)
  | _, _, _, .nil => .nil
  | _, _, 0, .cons _ t => t
  | _, _, i + 1, .cons q t => .cons q (Dats.eraseIdx i t)
theorem Dats.dropLast {K : KZ} {H : Hp} {vs : List V} {ds : List D} (h : Dats K H vs ds) : Dats K H vs.dropLast ds.dropLast := by
  rw [List.dropLast_eq_take, List.dropLast_eq_take, h.length]; exact h.take _

/-! ### mutable cells -/
mutual
/-- a key of a dict, as data -/
def kD : NestedKey → D
  | .none => .non
  | .num i => .int i
  | .text x => .str x
  | .tup ks => .tup (kDs ks)
def kDs : List NestedKey → List D
  | [] => []
  | k :: ks => kD k :: kDs ks
end
/-- the object of a dict whose keys are tuples: its entries; o: it is just this one (while it is walked) -/
def DObj (w : World) (a : Addr) (lk : Option Obj) (xs : List (NestedKey × Addr × Value)) : Heap → Prop := fun h =>
  ∃ o es ep, h.get? a = some o ∧ (∀ o', lk = some o' → o = o') ∧ o.ExactDict ∧ o.data = .dict es ep ∧ es.toList = xs.map fun x => ⟨x.1.hash w, .ref x.2.1, x.2.2⟩
/-- an entry as data -/
def NEnt (K : KZ) (H : Hp) (x : NestedKey × Addr × Value) (p : NestedKey × D) : Prop := p.1 = x.1 ∧ Dat K H (.ref x.2.1) (kD x.1) ∧ x.1.depth ≤ 8 ∧ ∃ v, RelV v x.2.2 ∧ Dat K H v p.2
theorem NEnt.mono {K : KZ} {H H' : Hp} (e : Same H H') {x : NestedKey × Addr × Value} {p : NestedKey × D} (h : NEnt K H x p) : NEnt K H' x p :=
  let ⟨a, b, c, v, d, f⟩ := h; ⟨a, b.mono e, c, v, d, f.mono e⟩
inductive Cell where
  | lst (ds : List D)
  | dct (kvs : List (Key × D))
  /-- keys are tuples of numbers, texts, None -/
  | dnt (w : World) (a : Addr) (lk : Option Obj) (kvs : List (NestedKey × D))
  /-- a range object -/
  | rng (lo hi : Int)
  /-- the table of the code objects that the def x makes -/
  | ctab (x : Str)
  /-- a dict while a loop walks it: the object o, its entries -/
  | dcf (o : Obj) (kvs : List (Key × V)) (kds : List (Key × D))
  /-- an instance of the class at C, by its attributes -/
  | ins (C : Addr) (fs : List (Str × D))
  /-- an exception at a, of the class at C, by what it keeps -/
  | exc (a C : Addr) (fs : List (Str × D))
/-- what a lambda of the def x is called -/
def lamQ (x : Str) : Str := x ++ ".<locals>." ++ "<lambda>"
/-- the names that the last entry of the known part lists: the defs that make lambdas -/
def lamNames (K : PySem.W.Frag) : List Str := match K.getLast? with
  | some (_, ⟨.none, _, .fields vs, _⟩) => vs.toList.filterMap fun v => match v with | .str x _ => some x | _ => none
  | _ => []
/-- P is the table of such a def x -/
def TabOf (K : KZ) (P : Addr) (x : Str) : Prop := x ∈ lamNames K ∧ ∃ c, PySem.W.tabIn K x = some (c, P)
/-- it tells only code objects of this def's lambdas -/
def TabGood (H : Hp) (ps : Array Value) (x : Str) : Prop := TriplesOk ps.toList ∧ ∀ (po : Pos) (u : Value), codeAmong po ps.toList = some u → ∃ b, u = .ref b ∧ H b = some (LamX.CodeO b (lamQ x))
theorem TabGood.mono {H H' : Hp} {ps : Array Value} {x : Str} (e : Same H H') (h : TabGood H ps x) : TabGood H' ps x := ⟨h.1, fun po u q => let ⟨b, h1, h2⟩ := h.2 po u q; ⟨b, h1, e _ _ h2⟩⟩
abbrev Mem := Addr → Option Cell
def setM (M : Mem) (a : Addr) (c : Cell) : Mem := fun b => if b = a then some c else M b
theorem setM_same {M : Mem} {a : Addr} {c : Cell} : setM M a c a = some c := by unfold setM; rw [if_pos rfl]
theorem setM_ne {M : Mem} {a b : Addr} {c : Cell} (h : b ≠ a) : setM M a c b = M b := by unfold setM; rw [if_neg h]
theorem setM_setM {M : Mem} {a : Addr} {c c' : Cell} : setM (setM M a c) a c' = setM M a c' := by
  funext b; unfold setM; split <;> rfl
theorem neM {M : Mem} {a b : Addr} {c : Cell} (h : M a = some c) (h' : M b = none) : a ≠ b := by
  intro e; subst e; rw [h] at h'; cases h'

abbrev DKs (K : KZ) (H : Hp) : List (Key × V) → List (Key × D) → Prop := Paired fun p q => p.1 = q.1 ∧ Dat K H p.2 q.2
/-- an exception stands at a: its class, its dict -/
def ExcAt (a C : Addr) (d : Option Addr) : Heap → Prop := fun h => ∃ (o : Obj) (vs : Array Value), h.get? a = some o ∧ o.cls = .ref C ∧ o.dict = d ∧ o.data = .fields vs
/-- what an exception keeps, by its dict -/
def XFlds (K : KZ) (H : Hp) (d : Option Addr) (fds : List (Str × D)) : Prop :=
  (d = none ∧ fds = []) ∨ ∃ (dx : Addr) (fs : List (Str × V)), d = some dx ∧ H dx = some (.xd fs) ∧ Paired (fun (p : Str × V) (q : Str × D) => p.1 = q.1 ∧ Dat K H p.2 q.2) fs fds
theorem XFlds.mono {K : KZ} {H H' : Hp} (e : Same H H') {d : Option Addr} {fds : List (Str × D)} (h : XFlds K H d fds) : XFlds K H' d fds := by
  rcases h with h | ⟨dx, fs, h1, h2, h3⟩
  · exact .inl h
  · exact .inr ⟨dx, fs, h1, e _ _ h2, Paired.mapP h3 fun _ _ q => ⟨q.1, q.2.mono e⟩⟩
theorem XFlds.chg {K K' : KZ} (e : K.fr = K'.fr) {H : Hp} {d : Option Addr} {fds : List (Str × D)} (h : XFlds K H d fds) : XFlds K' H d fds := by
  rcases h with h | ⟨dx, fs, h1, h2, h3⟩
  · exact .inl h
  · exact .inr ⟨dx, fs, h1, h2, Paired.mapP h3 fun _ _ q => ⟨q.1, Dat.chg (K := K) (K' := K') e _ _ q.2⟩⟩
inductive CellOk (K : KZ) (H : Hp) : HO → Cell → Prop
  | lst {vs : List V} {ds : List D} : Dats K H vs ds → CellOk K H (.lst vs) (.lst ds)
  | dct {kvs : List (Key × V)} {kds : List (Key × D)} : DKs K H kvs kds → CellOk K H (.dK kvs) (.dct kds)
  | dnt {w : World} {a : Addr} {lk : Option Obj} {xs : List (NestedKey × Addr × Value)} {kvs : List (NestedKey × D)} : Paired (NEnt K H) xs kvs → (xs.map (·.1)).Nodup → xs.length ≤ sizeLine → (a == sysModules) = false →
      CellOk K H (.ext (DObj w a lk xs)) (.dnt w a lk kvs)
  | rng (lo hi : Int) : CellOk K H (.rng lo hi) (.rng lo hi)
  | dcf {o : Obj} {kvs : List (Key × V)} {kds : List (Key × D)} : DKs K H kvs kds → CellOk K H (.frz o (.dK kvs)) (.dcf o kvs kds)
  | tab {ps : Array Value} {x : Str} : TabGood H ps x → CellOk K H (.tbl ps) (.ctab x)
  | ins {C dx : Addr} {fs : List (Str × V)} {fds : List (Str × D)} : Paired (fun (p : Str × V) (q : Str × D) => p.1 = q.1 ∧ Dat K H p.2 q.2) fs fds → CellOk K H (.ins C dx fs) (.ins C fds)
  | exc {a C : Addr} {d : Option Addr} {fds : List (Str × D)} : XFlds K H d fds → CellOk K H (.ext (ExcAt a C d)) (.exc a C fds)
theorem CellOk.mono {K : KZ} {H H' : Hp} (e : Same H H') {o : HO} {c : Cell} (h : CellOk K H o c) : CellOk K H' o c := by
  cases h with
  | lst h => exact .lst (h.mono e)
  | dct h => exact .dct (Paired.mapP h fun _ _ q => ⟨q.1, q.2.mono e⟩)
  | dnt h h1 h2 h3 => exact .dnt (Paired.mapP h fun _ _ q => q.mono e) h1 h2 h3
  | rng lo hi => exact .rng lo hi
  | tab h => exact .tab (h.mono e)
  | ins h => exact .ins (Paired.mapP h fun _ _ q => ⟨q.1, q.2.mono e⟩)
  | dcf h => exact .dcf (Paired.mapP h fun _ _ q => ⟨q.1, q.2.mono e⟩)
  | exc h => exact .exc (h.mono e)

/-- the persistent part H0 within H, the mutable cells M beside it -/
structure Wd (K : KZ) (Fr : Hp) (H0 : Hp) (M : Mem) (H : Hp) : Prop where
  ex : Same H0 H
  mem : ∀ a c, M a = some c → H0 a = none ∧ ∃ o, H a = some o ∧ CellOk K H0 o c
  fr : ∀ a o, Fr a = some o → H0 a = none ∧ M a = none ∧ H a = some o
  tb : ∀ P x, TabOf K P x → M P = some (.ctab x)
  zz : K.z Fr H0
theorem NEnt.chg {K K' : KZ} (e : K.fr = K'.fr) {H : Hp} {p : NestedKey × Addr × Value} {q : NestedKey × D} (h : NEnt K H p q) : NEnt K' H p q := by
  obtain ⟨h1, h2, h3, v, h4, h5⟩ := h
  exact ⟨h1, Dat.chg (K' := K') e _ _ h2, h3, v, h4, Dat.chg (K' := K') e _ _ h5⟩
theorem CellOk.chg {K K' : KZ} (e : K.fr = K'.fr) {H : Hp} {o : HO} {c : Cell} (h : CellOk K H o c) : CellOk K' H o c := by
  cases h with
  | lst h => exact .lst (Dats.chg (K' := K') e _ _ h)
  | dct h => exact .dct (Paired.mapP h fun _ _ q => ⟨q.1, Dat.chg (K' := K') e _ _ q.2⟩)
  | dnt h h1 h2 h3 => exact .dnt (Paired.mapP h fun _ _ q => q.chg e) h1 h2 h3
  | rng lo hi => exact .rng lo hi
  | tab h => exact .tab h
  | ins h => exact .ins (Paired.mapP h fun _ _ q => ⟨q.1, Dat.chg (K' := K') e _ _ q.2⟩)
  | dcf h => exact .dcf (Paired.mapP h fun _ _ q => ⟨q.1, Dat.chg (K' := K') e _ _ q.2⟩)
  | exc h => exact .exc (h.chg e)
/-- the same, with other things kept in mind -/
theorem Wd.chg {K K' : KZ} (e : K.fr = K'.fr) {Fr H0 : Hp} {M : Mem} {H : Hp} (w : Wd K Fr H0 M H) (z : K'.z Fr H0) : Wd K' Fr H0 M H :=
  ⟨w.ex, fun a c q => by obtain ⟨h1, o, h2, h3⟩ := w.mem a c q; exact ⟨h1, o, h2, h3.chg e⟩, w.fr, fun P x h => w.tb P x (by unfold TabOf at *; rw [e]; exact h), z⟩
theorem Wd.top {K : KZ} {Fr H0 : Hp} {M : Mem} {H : Hp} (w : Wd K Fr H0 M H) : Wd (topK K.fr) Fr H0 M H := Wd.chg (K := K) (K' := topK K.fr) rfl w trivial
/-- any cell but a table -/
def noTab : Cell → Prop
  | .ctab _ => False
  | _ => True
theorem same_new {H : Hp} {p : Addr} {o : HO} (h : H p = none) : Same H (upd H p o) := fun a u e => by
  rw [upd_ne (ne_of_none e h)]; exact e
section
variable {K : KZ} {Fr H0 H : Hp} {M : Mem} {p a : Addr} {o : HO} {c : Cell}
theorem Wd.fresh (w : Wd K Fr H0 M H) (h : H p = none) : H0 p = none := w.ex.free h
theorem Wd.freshM (w : Wd K Fr H0 M H) (h : H p = none) : M p = none := by
  cases q : M p with
  | none => rfl
  | some c => obtain ⟨_, o, e, _⟩ := w.mem p c q; rw [h] at e; cases e
theorem Wd.freshF (w : Wd K Fr H0 M H) (h : H p = none) : Fr p = none := by
  cases q : Fr p with
  | none => rfl
  | some c => have e := (w.fr p c q).2.2; rw [h] at e; cases e
theorem neF {Fr : Hp} {a b : Addr} {u : HO} (h : Fr a = some u) (h' : Fr b = none) : a ≠ b := by
  intro e; subst e; rw [h] at h'; cases h'
/-- such an object becomes persistent -/
theorem Wd.adopt (w : Wd K Fr H0 M H) (h0 : H0 p = none) (hM : M p = none) (hF : Fr p = none) (h : H p = some o) : Wd K Fr (upd H0 p o) M H :=
  ⟨fun b u e => by
    by_cases hb : b = p
    · subst hb; rw [upd_same] at e; rw [h]; exact e
    · rw [upd_ne hb] at e; exact w.ex b u e, fun b c e => by
    obtain ⟨h1, o', h2, h3⟩ := w.mem b c e
    exact ⟨by rw [upd_ne (neM e hM)]; exact h1, o', h2, h3.mono (same_new h0)⟩, fun b u e => by
    obtain ⟨h1, h2, h3⟩ := w.fr b u e
    exact ⟨by rw [upd_ne (neF e hF)]; exact h1, h2, h3⟩, w.tb, K.zm (fun _ _ e => e) (same_new h0) w.zz⟩
/-- an object that nobody tells of is changed, or is new -/
theorem Wd.tmpSet (w : Wd K Fr H0 M H) (h0 : H0 p = none) (hM : M p = none) (hF : Fr p = none) : Wd K Fr H0 M (upd H p o) :=
  ⟨fun b u e => by rw [upd_ne (ne_of_none e h0)]; exact w.ex b u e, fun b c e => by
    obtain ⟨h1, o', h2, h3⟩ := w.mem b c e
    exact ⟨h1, o', by rw [upd_ne (neM e hM)]; exact h2, h3⟩, fun b u e => by
    obtain ⟨h1, h2, h3⟩ := w.fr b u e
    exact ⟨h1, h2, by rw [upd_ne (neF e hF)]; exact h3⟩, w.tb, w.zz⟩
theorem Wd.tmp (w : Wd K Fr H0 M H) (h : H p = none) : Wd K Fr H0 M (upd H p o) := w.tmpSet (w.fresh h) (w.freshM h) (w.freshF h)
/-- a new persistent object -/
theorem Wd.new (w : Wd K Fr H0 M H) (h : H p = none) : Wd K Fr (upd H0 p o) M (upd H p o) := (w.tmp h).adopt (w.fresh h) (w.freshM h) (w.freshF h) upd_same
/-- such an object becomes a cell -/
theorem Wd.adoptM (w : Wd K Fr H0 M H) (h0 : H0 p = none) (hF : Fr p = none) (h : H p = some o) (k : CellOk K H0 o c) (hc : noTab c := by trivial) : Wd K Fr H0 (setM M p c) H :=
  ⟨w.ex, fun b c' e => by
    by_cases hb : b = p
    · subst hb; rw [setM_same] at e; cases e; exact ⟨h0, o, h, k⟩
    · rw [setM_ne hb] at e; exact w.mem b c' e, fun b u e => by
    obtain ⟨h1, h2, h3⟩ := w.fr b u e
    exact ⟨h1, by rw [setM_ne (neF e hF)]; exact h2, h3⟩, fun P x e => by
    by_cases hb : P = p
    · subst hb
      obtain ⟨_, o', h2, h3⟩ := w.mem P _ (w.tb P x e)
      rw [h] at h2
      cases h2
      cases h3
      cases k
      exact hc.elim
    · rw [setM_ne hb]; exact w.tb P x e, w.zz⟩
/-- a new cell -/
theorem Wd.newM (w : Wd K Fr H0 M H) (h : H p = none) (k : CellOk K H0 o c) (hc : noTab c := by trivial) : Wd K Fr H0 (setM M p c) (upd H p o) :=
  (w.tmp h).adoptM (w.fresh h) (w.freshF h) upd_same k hc
/-- a cell is changed -/
theorem Wd.set {c' : Cell} (w : Wd K Fr H0 M H) (h : M a = some c') (k : CellOk K H0 o c) (hc : noTab c' := by trivial) : Wd K Fr H0 (setM M a c) (upd H a o) := by
  refine ⟨fun b u e => ?_, fun b c2 e => ?_, fun b u e => ?_, fun P x e => ?_, w.zz⟩
  · rw [upd_ne (ne_of_none e (w.mem a c' h).1)]; exact w.ex b u e
  · by_cases hb : b = a
    · subst hb; rw [setM_same] at e; cases e; exact ⟨(w.mem b c' h).1, o, upd_same, k⟩
    · rw [setM_ne hb] at e
      obtain ⟨h1, o', h2, h3⟩ := w.mem b c2 e
      exact ⟨h1, o', by rw [upd_ne hb]; exact h2, h3⟩
  · obtain ⟨h1, h2, h3⟩ := w.fr b u e
    have hb : b ≠ a := fun z => by rw [z, h] at h2; cases h2
    exact ⟨h1, by rw [setM_ne hb]; exact h2, by rw [upd_ne hb]; exact h3⟩
  · have hb : P ≠ a := fun z => by
      rw [← z, w.tb P x e] at h
      cases h
      exact hc
    rw [setM_ne hb]; exact w.tb P x e
/-- what is told of no more goes into the frame: it comes back as it is -/
theorem Wd.frame (w : Wd K Fr H0 M H) (h0 : H0 p = none) (hM : M p = none) (h : H p = some o) : Wd K (upd Fr p o) H0 M H :=
  ⟨w.ex, w.mem, fun b u e => by
    by_cases hb : b = p
    · subst hb; rw [upd_same] at e; cases e; exact ⟨h0, hM, h⟩
    · rw [upd_ne hb] at e; exact w.fr b u e, w.tb, K.zm (fun a u e => by
    by_cases hb : a = p
    · subst hb; rw [upd_same]; rw [← h, (w.fr a u e).2.2]
    · rw [upd_ne hb]; exact e) (Same.refl _) w.zz⟩
theorem Wd.unframe (w : Wd K (upd Fr p o) H0 M H) (hF : Fr p = none) (hz : K.z Fr H0) : Wd K Fr H0 M H ∧ H0 p = none ∧ M p = none ∧ H p = some o :=
  ⟨⟨w.ex, w.mem, fun b u e => w.fr b u (by rw [upd_ne (neF e hF)]; exact e), w.tb, hz⟩, w.fr p o upd_same⟩
end

/-! ### slots -/
abbrev Env := List (Option D)
structure Slots (K : KZ) (H : Hp) (σ : St) (Γ : Env) : Prop where
  len : σ.length = Γ.length
  get : ∀ (i : Nat) (d : D), Γ[i]? = some (some d) → ∃ v, σ[i]? = some (some v) ∧ Dat K H v d
theorem Slots.mono {K : KZ} {H H' : Hp} {σ : St} {Γ : Env} (e : Same H H') (h : Slots K H σ Γ) : Slots K H' σ Γ :=
  ⟨h.len, fun i d q => let ⟨v, h1, h2⟩ := h.get i d q; ⟨v, h1, h2.mono e⟩⟩
theorem Slots.set {K : KZ} {H : Hp} {σ : St} {Γ : Env} (h : Slots K H σ Γ) (i : Nat) {v : V} {d : D} (r : Dat K H v d) : Slots K H (σ.set i (some v)) (Γ.set i (some d)) := by
  refine ⟨by simp [h.len], fun j e q => ?_⟩
  by_cases hj : i = j
  · subst hj
    by_cases hl : i < Γ.length
    · rw [List.getElem?_set_self hl] at q; cases q
      exact ⟨v, List.getElem?_set_self (by rw [h.len]; exact hl), r⟩
    · rw [List.getElem?_eq_none (by simpa using hl)] at q; cases q
  · rw [List.getElem?_set_ne hj] at q ⊢; exact h.get j e q
def wipeD (Γ : Env) : List Nat → Env
  | [] => Γ
  | v :: vs => (wipeD Γ vs).set v none
theorem Slots.none {K : KZ} {H : Hp} {σ : St} {Γ : Env} (h : Slots K H σ Γ) (i : Nat) : Slots K H (σ.set i none) (Γ.set i none) := by
  refine ⟨by simp [h.len], fun j e q => ?_⟩
  by_cases hj : i = j
  · subst hj
    by_cases hl : i < Γ.length
    · rw [List.getElem?_set_self hl] at q; cases q
    · rw [List.getElem?_eq_none (by simpa using hl)] at q; cases q
  · rw [List.getElem?_set_ne hj] at q ⊢; exact h.get j e q
theorem Slots.wipe {K : KZ} {H : Hp} {σ : St} {Γ : Env} (h : Slots K H σ Γ) : ∀ vs : List Nat, Slots K H (wipe σ vs) (wipeD Γ vs)
  | [] => h
  | v :: vs => (Slots.wipe h vs).none v
theorem wipe_get (σ : St) : ∀ (vs : List Nat) (i : Nat), (wipe σ vs)[i]? = if i ∈ vs then (σ[i]?).map (fun _ => none) else σ[i]?
  | [], i => by simp [wipe]
  | v :: vs, i => by
    unfold wipe
    by_cases hi : v = i
    · subst hi
      by_cases hl : v < σ.length
      · rw [List.getElem?_set_self (by rw [wipe_length]; exact hl)]; simp [hl]
      · rw [List.getElem?_eq_none (by rw [List.length_set, wipe_length]; omega)]; simp [hl]
    · rw [List.getElem?_set_ne hi, wipe_get σ vs i]
      have : (i ∈ v :: vs) ↔ i ∈ vs := by simp [Ne.symm hi]
      by_cases h2 : i ∈ vs <;> simp [h2, Ne.symm hi]
theorem wipe_eq {σ σ' : St} {vs : List Nat} (hl : σ'.length = σ.length) (h : ∀ i, i ∉ vs → σ'[i]? = σ[i]?) : wipe σ' vs = wipe σ vs := by
  refine List.ext_getElem? fun i => ?_
  rw [wipe_get, wipe_get]
  by_cases hi : i ∈ vs
  · simp only [hi, if_true]
    by_cases hlt : i < σ.length
    · rw [List.getElem?_eq_getElem hlt, List.getElem?_eq_getElem (by omega : i < σ'.length)]; rfl
    · rw [List.getElem?_eq_none (by omega : σ.length ≤ i), List.getElem?_eq_none (by omega : σ'.length ≤ i)]
  · simp only [hi, if_false]; exact h i hi
theorem wipe_wipe (σ : St) (vs : List Nat) : wipe (wipe σ vs) vs = wipe σ vs :=
  wipe_eq (wipe_length σ vs) fun i hi => by rw [wipe_get]; simp [hi]

/-! ### the judgements -/
abbrev KD := D → Mem → Prop
abbrev WE := Env → Mem → KD → Prop
abbrev WT := Env → Mem → (Bool → Mem → Prop) → Prop
abbrev WA := Env → Mem → (List D → Mem → Prop) → Prop
structure KS where
  nx : Env → Mem → Prop
  rt : KD
  bk : Env → Mem → Prop
  ct : Env → Mem → Prop
abbrev WS := KS → Env → Mem → Prop

def Cont (K : KZ) (Fr H0 : Hp) (k : KD) (Q : VK) : Prop := ∀ v H0' H' d M', Same H0 H0' → Wd K Fr H0' M' H' → Dat K H0' v d → k d M' → Q v H'
def ContT (K : KZ) (Fr H0 : Hp) (k : Bool → Mem → Prop) (Q : Bool → Hp → Prop) : Prop := ∀ b H0' H' M', Same H0 H0' → Wd K Fr H0' M' H' → k b M' → Q b H'
def ContA (K : KZ) (Fr H0 : Hp) (k : List D → Mem → Prop) (Q : List V → Hp → Prop) : Prop := ∀ vs H0' H' ds M', Same H0 H0' → Wd K Fr H0' M' H' → Dats K H0' vs ds → k ds M' → Q vs H'
def ContS (K : KZ) (Fr H0 : Hp) (k : Env → Mem → Prop) (Q : St → Hp → Prop) : Prop := ∀ σ' H0' H' Γ' M', Same H0 H0' → Slots K H0' σ' Γ' → Wd K Fr H0' M' H' → k Γ' M' → Q σ' H'
structure Emb (K : KZ) (Fr H0 : Hp) (k : KS) (D : Ends) : Prop where
  nx : ContS K Fr H0 k.nx D.nx
  rt : Cont K Fr H0 k.rt D.rt
  bk : ContS K Fr H0 k.bk D.bk
  ct : ContS K Fr H0 k.ct D.ct
section
variable {K : KZ} {Fr H0 H1 : Hp}
theorem Cont.mono {k : KD} {Q : VK} (e : Same H0 H1) (c : Cont K Fr H0 k Q) : Cont K Fr H1 k Q := fun v H0' H' d M' s => c v H0' H' d M' (e.trans s)
theorem ContT.mono {k : Bool → Mem → Prop} {Q : Bool → Hp → Prop} (e : Same H0 H1) (c : ContT K Fr H0 k Q) : ContT K Fr H1 k Q := fun v H0' H' M' s => c v H0' H' M' (e.trans s)
theorem ContA.mono {k : List D → Mem → Prop} {Q : List V → Hp → Prop} (e : Same H0 H1) (c : ContA K Fr H0 k Q) : ContA K Fr H1 k Q := fun v H0' H' d M' s => c v H0' H' d M' (e.trans s)
theorem ContS.mono {k : Env → Mem → Prop} {Q : St → Hp → Prop} (e : Same H0 H1) (c : ContS K Fr H0 k Q) : ContS K Fr H1 k Q := fun v H0' H' d M' s => c v H0' H' d M' (e.trans s)
theorem Emb.mono {k : KS} {D : Ends} (e : Same H0 H1) (c : Emb K Fr H0 k D) : Emb K Fr H1 k D := ⟨c.nx.mono e, c.rt.mono e, c.bk.mono e, c.ct.mono e⟩
end
def liftE (K : KZ) (w : WE) : TE := fun σ H Q => ∃ Γ Fr H0 M k, Slots K H0 σ Γ ∧ Wd K Fr H0 M H ∧ w Γ M k ∧ Cont K Fr H0 k Q
def liftT (K : KZ) (w : WT) : TT := fun σ H Q => ∃ Γ Fr H0 M k, Slots K H0 σ Γ ∧ Wd K Fr H0 M H ∧ w Γ M k ∧ ContT K Fr H0 k Q
def liftA (K : KZ) (w : WA) : TA := fun σ H Q => ∃ Γ Fr H0 M k, Slots K H0 σ Γ ∧ Wd K Fr H0 M H ∧ w Γ M k ∧ ContA K Fr H0 k Q
def liftS (K : KZ) (w : WS) : TS := fun D σ H => ∃ Γ Fr H0 M k, Slots K H0 σ Γ ∧ Wd K Fr H0 M H ∧ w k Γ M ∧ Emb K Fr H0 k D
structure DE (X : CxZ) (e : Expr) (w : WE) : Prop where
  run : PE X e (liftE X.K w)
structure DT (X : CxZ) (e : Expr) (w : WT) : Prop where
  run : PT X e (liftT X.K w)
structure DW (X : CxZ) (e : Expr) (w : WT) : Prop where
  run : PW X e (liftT X.K w)
structure DA (X : CxZ) (es : List Expr) (w : WA) : Prop where
  run : PA X es (liftA X.K w)
structure DS (X : CxZ) (st : Stmt) (w : WS) : Prop where
  run : PS X st (liftS X.K w)
structure DSs (X : CxZ) (st : List Stmt) (w : WS) : Prop where
  run : PSs X st (liftS X.K w)
section
variable {X : CxZ} {e a b : Expr} {es : List Expr} {st : Stmt} {sts : List Stmt}
theorem de_of {t : TE} {w : WE} (h : PE X e t) (q : ∀ σ H Q Γ Fr H0 M k, Slots X.K H0 σ Γ → Wd X.K Fr H0 M H → w Γ M k → Cont X.K Fr H0 k Q → t σ H Q) : DE X e w :=
  ⟨⟨fun pins s σ H Q I ⟨Γ, Fr, H0, M, k, h1, h2, h3, h4⟩ => h.run pins s σ H Q I (q σ H Q Γ Fr H0 M k h1 h2 h3 h4)⟩⟩
theorem dt_of {t : TT} {w : WT} (h : PT X e t) (q : ∀ σ H Q Γ Fr H0 M k, Slots X.K H0 σ Γ → Wd X.K Fr H0 M H → w Γ M k → ContT X.K Fr H0 k Q → t σ H Q) : DT X e w :=
  ⟨⟨fun pins s σ H Q I ⟨Γ, Fr, H0, M, k, h1, h2, h3, h4⟩ => h.run pins s σ H Q I (q σ H Q Γ Fr H0 M k h1 h2 h3 h4)⟩⟩
theorem dw_of {t : TT} {w : WT} (h : PW X e t) (q : ∀ σ H Q Γ Fr H0 M k, Slots X.K H0 σ Γ → Wd X.K Fr H0 M H → w Γ M k → ContT X.K Fr H0 k Q → t σ H Q) : DW X e w :=
  ⟨⟨fun wh pins s σ H Q I ⟨Γ, Fr, H0, M, k, h1, h2, h3, h4⟩ => h.run wh pins s σ H Q I (q σ H Q Γ Fr H0 M k h1 h2 h3 h4)⟩⟩
theorem da_of {t : TA} {w : WA} (h : PA X es t) (q : ∀ σ H Q Γ Fr H0 M k, Slots X.K H0 σ Γ → Wd X.K Fr H0 M H → w Γ M k → ContA X.K Fr H0 k Q → t σ H Q) : DA X es w :=
  ⟨⟨fun po pins s σ H Q I ⟨Γ, Fr, H0, M, k, h1, h2, h3, h4⟩ => h.run po pins s σ H Q I (q σ H Q Γ Fr H0 M k h1 h2 h3 h4)⟩⟩
theorem ds_of {t : TS} {w : WS} (h : PS X st t) (q : ∀ D σ H Γ Fr H0 M k, Slots X.K H0 σ Γ → Wd X.K Fr H0 M H → w k Γ M → Emb X.K Fr H0 k D → t D σ H) : DS X st w :=
  ⟨⟨fun pins s σ H D I ⟨Γ, Fr, H0, M, k, h1, h2, h3, h4⟩ => h.run pins s σ H D I (q D σ H Γ Fr H0 M k h1 h2 h3 h4)⟩⟩
theorem dss_of {t : TS} {w : WS} (h : PSs X sts t) (q : ∀ D σ H Γ Fr H0 M k, Slots X.K H0 σ Γ → Wd X.K Fr H0 M H → w k Γ M → Emb X.K Fr H0 k D → t D σ H) : DSs X sts w :=
  ⟨⟨fun pins s σ H D I ⟨Γ, Fr, H0, M, k, h1, h2, h3, h4⟩ => h.run pins s σ H D I (q D σ H Γ Fr H0 M k h1 h2 h3 h4)⟩⟩

/-! ### names, constants -/
def wVar (i : Nat) : WE := fun Γ M k => match Γ[i]? with | some (some d) => k d M | _ => False
def wC (d : D) : WE := fun _ M k => k d M
theorem dv (i : Nat) {x : Str} {pos : Pos} (hN : X.N[i]? = some x := by rfl) (hv : Vis X.env.scope x := by first | exact Or.inl rfl | exact Or.inr (Or.inl rfl) | exact Or.inr (Or.inr rfl)) (hd : (x == ("__debug__" : Str)) = false := by decide)
    (hcd : (x == ("__classdict__" : Str)) = false := by decide) : DE X (.Name x pos) (wVar i) := by
  refine de_of (pe_var hN hv hd hcd) fun σ H Q Γ Fr H0 M k h1 h2 h3 h4 => ?_
  unfold wVar at h3
  split at h3
  · rename_i d e
    obtain ⟨v, e1, r⟩ := h1.get i d e
    exact ⟨v, e1, h4 v H0 H d M (Same.refl _) h2 r h3⟩
  · exact h3.elim
theorem de_c {v : V} {d : D} (h : PE X e (tC v)) (r : ∀ H, Dat X.K H v d) : DE X e (wC d) :=
  de_of h fun _ H Q Γ Fr H0 M k _ h2 h3 h4 => h4 v H0 H d M (Same.refl _) h2 (r H0) h3
theorem de_int {i j pos} : DE X (.Constant (.int i) j pos) (wC (.int i)) := de_c pe_int fun _ => .int i
theorem de_bl {b j pos} : DE X (.Constant (.bool b) j pos) (wC (.bl b)) := de_c pe_bl fun _ => .bl b
theorem de_non {j pos} : DE X (.Constant .none j pos) (wC .non) := de_c pe_non fun _ => .non
theorem de_str {x j pos} : DE X (.Constant (.str x) j pos) (wC (.str x)) := de_c pe_str fun _ => .str x
/-- a module's int -/
theorem de_gint {x : Str} {i : Int} {t : Tok} {pos : Pos} (hm : X.mg x = some (.int i t)) (hg : Gl X x := by rfl) (hd : (x == ("__debug__" : Str)) = false := by decide) : DE X (.Name x pos) (wC (.int i)) :=
  de_c (v := .int i) (pe_glob hg hm ⟨t, rfl⟩ hd) fun _ => .int i
theorem de_ty {x : Str} {n : String} {pos : Pos} (hm : X.mg x = none) (hv : bootBuiltins x = some (.type n)) (hg : Gl X x := by rfl) (hn : x ≠ "__name__" := by decide) (hd : (x == ("__debug__" : Str)) = false := by decide) : DE X (.Name x pos) (wC (.ty n)) :=
  de_c (v := .ty n) (pe_bltn hg hm hv rfl hn hd) fun _ => .ty n

/-! ### two operands -/
def OpD (K : KZ) (r : R2) (rd : D → D → Mem → KD → Prop) : Prop :=
  ∀ Fr H0 M H x y vx vy k Q, Wd K Fr H0 M H → Dat K H0 vx x → Dat K H0 vy y → rd x y M k → Cont K Fr H0 k Q → r vx vy H Q
def wOp (rd : D → D → Mem → KD → Prop) (wa wb : WE) : WE := fun Γ M k => wa Γ M fun x M1 => wb Γ M1 fun y M2 => rd x y M2 k
theorem lift_op {K : KZ} {r : R2} {rd : D → D → Mem → KD → Prop} {wa wb : WE} (h : OpD K r rd) {σ H Q Γ Fr H0 M k} (h1 : Slots K H0 σ Γ) (h2 : Wd K Fr H0 M H) (h3 : wOp rd wa wb Γ M k) (h4 : Cont K Fr H0 k Q) :
    tOp r (liftE K wa) (liftE K wb) σ H Q := by
  refine ⟨Γ, Fr, H0, M, _, h1, h2, h3, fun v H1 H' d M' e1 w1 r1 q1 => ?_⟩
  refine ⟨Γ, Fr, H1, M', _, h1.mono e1, w1, q1, fun u H2 H'' d' M'' e2 w2 r2 q2 => ?_⟩
  exact h Fr H2 M'' H'' d d' v u k Q w2 (r1.mono e2) r2 q2 (h4.mono (e1.trans e2))
theorem de_op {op : Operator} {r : R2} {rd : D → D → Mem → KD → Prop} {wa wb : WE} {pos : Pos} (ho : OpR X (binaryOp op) r) (hd : OpD X.K r rd) (ha : DE X a wa) (hb : DE X b wb) : DE X (.BinOp a op b pos) (wOp rd wa wb) :=
  de_of (pe_op ho ha.run hb.run) fun _ _ _ _ _ _ _ _ h1 h2 h3 h4 => lift_op hd h1 h2 h3 h4
theorem de_cmp {op : CmpOp} {r : R2} {rd : D → D → Mem → KD → Prop} {wa wb : WE} {pos : Pos} (ho : OpR X (compareOp op) r) (hd : OpD X.K r rd) (ha : DE X a wa) (hb : DE X b wb) (hm : behindInMarks op b = false) : DE X (.Compare a [op] [b] pos) (wOp rd wa wb) :=
  de_of (pe_cmpR ho ha.run hb.run hm) fun _ _ _ _ _ _ _ _ h1 h2 h3 h4 => lift_op hd h1 h2 h3 h4
/-- a value as a test: it is a truth -/
def wTst (w : WE) : WT := fun Γ M k => w Γ M fun d M1 => match d with | .bl b => k b M1 | _ => False
theorem contTst {K : KZ} {Fr H0 : Hp} {k : Bool → Mem → Prop} {Q : Bool → Hp → Prop} (h4 : ContT K Fr H0 k Q) : Cont K Fr H0 (fun d M1 => match d with | .bl b => k b M1 | _ => False) (fun x H' => ∃ b, x = .bl b ∧ Q b H') := by
  intro v H0' H' d M' e w r q
  cases d with
  | bl b => cases r; exact ⟨b, rfl, h4 b H0' H' M' e w q⟩
  | _ => exact q.elim
theorem dt_val {w : WE} (h : DE X e w) (he : ∀ whole, isTrue e X.env whole = (do let v ← whole; standAt e.pos; holding [v] (truthy v)) := by intro _; rfl) : DT X e (wTst w) :=
  dt_of (pt_val h.run he) fun σ H Q Γ Fr H0 M k h1 h2 h3 h4 => ⟨Γ, Fr, H0, M, _, h1, h2, h3, contTst h4⟩
theorem dt_cmp {op : CmpOp} {r : R2} {rd : D → D → Mem → KD → Prop} {wa wb : WE} {pos : Pos} (ho : OpR X (compareOp op) r) (hd : OpD X.K r rd) (ha : DE X a wa) (hb : DE X b wb) (hm : behindInMarks op b = false) : DT X (.Compare a [op] [b] pos) (wTst (wOp rd wa wb)) :=
  dt_of (pt_cmpR ho ha.run hb.run hm) fun _ _ _ _ _ _ _ _ h1 h2 h3 h4 => lift_op hd h1 h2 h3 (contTst h4)
def wChain (rd rd' : D → D → Mem → KD → Prop) (wa wb wc : WE) : WE := fun Γ M k => wa Γ M fun x M1 => wb Γ M1 fun y M2 => rd x y M2 fun z M3 => match z with
  | .bl true => wc Γ M3 fun w M4 => rd' y w M4 k
  | .bl false => k (.bl false) M3
  | _ => False
theorem lift_chain {K : KZ} {r r' : R2} {rd rd' : D → D → Mem → KD → Prop} {wa wb wc : WE} (h : OpD K r rd) (h' : OpD K r' rd') {σ H Q Γ Fr H0 M k} (h1 : Slots K H0 σ Γ) (h2 : Wd K Fr H0 M H) (h3 : wChain rd rd' wa wb wc Γ M k) (h4 : Cont K Fr H0 k Q) :
    tChain r r' (liftE K wa) (liftE K wb) (liftE K wc) σ H Q := by
  refine ⟨Γ, Fr, H0, M, _, h1, h2, h3, fun v H1 H' d M' e1 w1 r1 q1 => ?_⟩
  refine ⟨Γ, Fr, H1, M', _, h1.mono e1, w1, q1, fun u H2 H'' d' M'' e2 w2 r2 q2 => ?_⟩
  refine h Fr H2 M'' H'' d d' v u _ _ w2 (r1.mono e2) r2 q2 fun z H3 H3' dz M3 e3 w3 rz qz => ?_
  cases dz with
  | bl b =>
    cases rz
    refine ⟨b, rfl, ?_⟩
    cases b with
    | true =>
      rw [if_pos rfl]
      refine ⟨Γ, Fr, H3, M3, _, h1.mono ((e1.trans e2).trans e3), w3, qz, fun x H4 H4' dx M4 e4 w4 rx qx => ?_⟩
      exact h' Fr H4 M4 H4' d' dx u x k Q w4 (r2.mono (e3.trans e4)) rx qx (h4.mono (((e1.trans e2).trans e3).trans e4))
    | false =>
      rw [if_neg Bool.false_ne_true]
      exact h4 _ H3 H3' _ M3 ((e1.trans e2).trans e3) w3 (.bl false) qz
  | _ => exact qz.elim
theorem de_chain {c : Expr} {op op' : CmpOp} {r r' : R2} {rd rd' : D → D → Mem → KD → Prop} {wa wb wc : WE} {pos : Pos} (ho : OpR X (compareOp op) r) (hd : OpD X.K r rd) (ho' : OpR X (compareOp op') r') (hd' : OpD X.K r' rd') (ha : DE X a wa) (hb : DE X b wb) (hc : DE X c wc)
    (hm : lastMarks [op, op'] [b, c] = false := by with_unfolding_all rfl) : DE X (.Compare a [op, op'] [b, c] pos) (wChain rd rd' wa wb wc) :=
  de_of (pe_chain ho ho' ha.run hb.run hc.run hm) fun _ _ _ _ _ _ _ _ h1 h2 h3 h4 => lift_chain hd hd' h1 h2 h3 h4
theorem dt_chain {c : Expr} {op op' : CmpOp} {r r' : R2} {rd rd' : D → D → Mem → KD → Prop} {wa wb wc : WE} {pos : Pos} (ho : OpR X (compareOp op) r) (hd : OpD X.K r rd) (ho' : OpR X (compareOp op') r') (hd' : OpD X.K r' rd') (ha : DE X a wa) (hb : DE X b wb) (hc : DE X c wc)
    (hm : lastMarks [op, op'] [b, c] = false := by with_unfolding_all rfl) : DT X (.Compare a [op, op'] [b, c] pos) (wTst (wChain rd rd' wa wb wc)) :=
  dt_of (pt_chain ho ho' ha.run hb.run hc.run hm) fun _ _ _ _ _ _ _ _ h1 h2 h3 h4 => lift_chain hd hd' h1 h2 h3 (contTst h4)
def wNotT (w : WT) : WT := fun Γ M k => w Γ M fun b M1 => k (!b) M1
def wAndT (wa wb : WT) : WT := fun Γ M k => wa Γ M fun b M1 => if b = true then wb Γ M1 k else k false M1
def wOrT (wa wb : WT) : WT := fun Γ M k => wa Γ M fun b M1 => if b = true then k true M1 else wb Γ M1 k
theorem dt_not {w : WT} {pos : Pos} (h : DT X a w) : DT X (.UnaryOp .Not a pos) (wNotT w) :=
  dt_of (pt_not h.run) fun σ H Q Γ Fr H0 M k h1 h2 h3 h4 => ⟨Γ, Fr, H0, M, _, h1, h2, h3, fun b H0' H' M' e w q => h4 _ H0' H' M' e w q⟩
theorem dw_pt {w : WT} (h : DW X e w) : DT X e w := ⟨h.run.pt⟩
theorem dw_and1 {w : WT} {pos : Pos} (h : DT X a w) : DW X (.BoolOp .And [a] pos) w := ⟨pw_and1 h.run⟩
theorem dw_or1 {w : WT} {pos : Pos} (h : DT X a w) : DW X (.BoolOp .Or [a] pos) w := ⟨pw_or1 h.run⟩
theorem dw_and {wa wb : WT} {rest : List Expr} {pos : Pos} (ha : DT X a wa) (hb : DW X (.BoolOp .And (b :: rest) pos) wb) : DW X (.BoolOp .And (a :: b :: rest) pos) (wAndT wa wb) :=
  dw_of (pw_and ha.run hb.run) fun σ H Q Γ Fr H0 M k h1 h2 h3 h4 => ⟨Γ, Fr, H0, M, _, h1, h2, h3, fun c H0' H' M' e w q => by
    cases c with
    | true => rw [if_pos rfl] at q ⊢; exact ⟨Γ, Fr, H0', M', k, h1.mono e, w, q, h4.mono e⟩
    | false => rw [if_neg Bool.false_ne_true] at q ⊢; exact h4 _ H0' H' M' e w q⟩
theorem dw_or {wa wb : WT} {rest : List Expr} {pos : Pos} (ha : DT X a wa) (hb : DW X (.BoolOp .Or (b :: rest) pos) wb) : DW X (.BoolOp .Or (a :: b :: rest) pos) (wOrT wa wb) :=
  dw_of (pw_or ha.run hb.run) fun σ H Q Γ Fr H0 M k h1 h2 h3 h4 => ⟨Γ, Fr, H0, M, _, h1, h2, h3, fun c H0' H' M' e w q => by
    cases c with
    | true => rw [if_pos rfl] at q ⊢; exact h4 _ H0' H' M' e w q
    | false => rw [if_neg Bool.false_ne_true] at q ⊢; exact ⟨Γ, Fr, H0', M', k, h1.mono e, w, q, h4.mono e⟩⟩
/-- and, or, not of truths as values -/
def wAndV (wa wb : WE) : WE := fun Γ M k => wa Γ M fun x M1 => match x with | .bl true => wb Γ M1 k | .bl false => k (.bl false) M1 | _ => False
def wOrV (wa wb : WE) : WE := fun Γ M k => wa Γ M fun x M1 => match x with | .bl true => k (.bl true) M1 | .bl false => wb Γ M1 k | _ => False
def wNotV (wa : WE) : WE := fun Γ M k => wa Γ M fun x M1 => match x with | .bl b => k (.bl (!b)) M1 | _ => False
theorem de_one {op} {w : WE} {pos : Pos} (h : DE X a w) : DE X (.BoolOp op [a] pos) w := ⟨pe_one h.run⟩
theorem de_and {wa wb : WE} {rest : List Expr} {pos : Pos} (ha : DE X a wa) (hb : DE X (.BoolOp .And (b :: rest) pos) wb) : DE X (.BoolOp .And (a :: b :: rest) pos) (wAndV wa wb) :=
  de_of (pe_and ha.run hb.run) fun σ H Q Γ Fr H0 M k h1 h2 h3 h4 => ⟨Γ, Fr, H0, M, _, h1, h2, h3, fun v H0' H' d M' e w r q => by
    cases d with
    | bl c =>
      cases r
      refine ⟨c, rfl, ?_⟩
      cases c with
      | true => rw [if_pos rfl]; exact ⟨Γ, Fr, H0', M', k, h1.mono e, w, q, h4.mono e⟩
      | false => rw [if_neg Bool.false_ne_true]; exact h4 _ H0' H' _ M' e w (.bl false) q
    | _ => exact q.elim⟩
theorem de_or {wa wb : WE} {rest : List Expr} {pos : Pos} (ha : DE X a wa) (hb : DE X (.BoolOp .Or (b :: rest) pos) wb) : DE X (.BoolOp .Or (a :: b :: rest) pos) (wOrV wa wb) :=
  de_of (pe_or ha.run hb.run) fun σ H Q Γ Fr H0 M k h1 h2 h3 h4 => ⟨Γ, Fr, H0, M, _, h1, h2, h3, fun v H0' H' d M' e w r q => by
    cases d with
    | bl c =>
      cases r
      refine ⟨c, rfl, ?_⟩
      cases c with
      | true => rw [if_pos rfl]; exact h4 _ H0' H' _ M' e w (.bl true) q
      | false => rw [if_neg Bool.false_ne_true]; exact ⟨Γ, Fr, H0', M', k, h1.mono e, w, q, h4.mono e⟩
    | _ => exact q.elim⟩
theorem de_not {w : WE} {pos : Pos} (h : DE X a w) : DE X (.UnaryOp .Not a pos) (wNotV w) :=
  de_of (pe_not h.run) fun σ H Q Γ Fr H0 M k h1 h2 h3 h4 => ⟨Γ, Fr, H0, M, _, h1, h2, h3, fun v H0' H' d M' e w r q => by
    cases d with
    | bl c => cases r; exact ⟨c, rfl, h4 _ H0' H' _ M' e w (.bl _) q⟩
    | _ => exact q.elim⟩
def wIf (wc : WT) (wa wb : WE) : WE := fun Γ M k => wc Γ M fun c M1 => if c = true then wa Γ M1 k else wb Γ M1 k
theorem de_if {c : Expr} {wc : WT} {wa wb : WE} {pos : Pos} (hc : DT X c wc) (ha : DE X a wa) (hb : DE X b wb) : DE X (.IfExp c a b pos) (wIf wc wa wb) :=
  de_of (pe_ifExp hc.run ha.run hb.run) fun σ H Q Γ Fr H0 M k h1 h2 h3 h4 => ⟨Γ, Fr, H0, M, _, h1, h2, h3, fun c H0' H' M' e w q => by
    cases c with
    | true => rw [if_pos rfl] at q ⊢; exact ⟨Γ, Fr, H0', M', k, h1.mono e, w, q, h4.mono e⟩
    | false => rw [if_neg Bool.false_ne_true] at q ⊢; exact ⟨Γ, Fr, H0', M', k, h1.mono e, w, q, h4.mono e⟩⟩

/-! ### arguments, displays, calls -/
def wNil : WA := fun _ M k => k [] M
def wCons (we : WE) (wr : WA) : WA := fun Γ M k => we Γ M fun d M1 => wr Γ M1 fun ds M2 => k (d :: ds) M2
theorem da_nil : DA X [] wNil := da_of pa_nil fun _ H Q Γ Fr H0 M k h1 h2 h3 h4 => h4 [] H0 H [] M (Same.refl _) h2 .nil h3
theorem da_cons {we : WE} {wr : WA} (he : DE X e we) (hr : DA X es wr) (hs : starEach (e :: es) X.env = (false, eval e X.env) :: starEach es X.env := by rfl) : DA X (e :: es) (wCons we wr) :=
  da_of (pa_cons he.run hr.run hs) fun σ H Q Γ Fr H0 M k h1 h2 h3 h4 => ⟨Γ, Fr, H0, M, _, h1, h2, h3, fun v H1 H' d M' e1 w1 r1 q1 =>
    ⟨Γ, Fr, H1, M', _, h1.mono e1, w1, q1, fun vs H2 H'' ds M'' e2 w2 r2 q2 => h4 _ H2 H'' _ M'' (e1.trans e2) w2 (.cons (r1.mono e2) r2) q2⟩⟩
def wTup (wa : WA) : WE := fun Γ M k => wa Γ M fun ds M1 => ds.length ≤ sizeLine ∧ k (.tup ds) M1
theorem de_tup {wa : WA} {x1} {pos : Pos} (h : DA X es wa) : DE X (.Tuple es x1 pos) (wTup wa) :=
  de_of (pe_tup h.run) fun σ H Q Γ Fr H0 M k h1 h2 h3 h4 => ⟨Γ, Fr, H0, M, _, h1, h2, h3, fun vs H1 H' ds M' e1 w1 r1 q1 =>
    ⟨by rw [r1.length]; exact q1.1, fun p hp => h4 _ _ _ _ M' (e1.trans (same_new (w1.fresh hp))) (w1.new hp) (.tup (.of upd_same) (r1.mono (same_new (w1.fresh hp)))) q1.2⟩⟩
/-- a list: persistent -/
def wLst (wa : WA) : WE := fun Γ M k => wa Γ M fun ds M1 => ds.length ≤ sizeLine ∧ k (.lst ds) M1
theorem de_lst {wa : WA} {pos : Pos} (h : DA X es wa) : DE X (.List es pos) (wLst wa) :=
  de_of (pe_lst h.run) fun σ H Q Γ Fr H0 M k h1 h2 h3 h4 => ⟨Γ, Fr, H0, M, _, h1, h2, h3, fun vs H1 H' ds M' e1 w1 r1 q1 =>
    ⟨by rw [r1.length]; exact q1.1, fun p hp => h4 _ _ _ _ M' (e1.trans (same_new (w1.fresh hp))) (w1.new hp) (.lst upd_same (r1.mono (same_new (w1.fresh hp)))) q1.2⟩⟩
/-- a list: a cell -/
def wLstM (wa : WA) : WE := fun Γ M k => wa Γ M fun ds M1 => ds.length ≤ sizeLine ∧ ∀ p, M1 p = none → k (.cel p) (setM M1 p (.lst ds))
theorem de_lstM {wa : WA} {pos : Pos} (h : DA X es wa) : DE X (.List es pos) (wLstM wa) :=
  de_of (pe_lst h.run) fun σ H Q Γ Fr H0 M k h1 h2 h3 h4 => ⟨Γ, Fr, H0, M, _, h1, h2, h3, fun vs H1 H' ds M' e1 w1 r1 q1 =>
    ⟨by rw [r1.length]; exact q1.1, fun p hp => h4 _ H1 _ _ _ e1 (w1.newM hp (.lst r1)) (.cel p) (q1.2 p (w1.freshM hp))⟩⟩

abbrev FD := List D → Mem → KD → Prop
def liftF (K : KZ) (F : FD) : Sp := fun vs H Q _ => ∃ Fr H0 M ds k, Wd K Fr H0 M H ∧ Dats K H0 vs ds ∧ F ds M k ∧ Cont K Fr H0 k Q
def wCall (F : FD) (wa : WA) : WE := fun Γ M k => wa Γ M fun ds M1 => F ds M1 k
/-- a callee's end, seen from here -/
theorem Cont.top {K : KZ} {Fr H0 : Hp} {M : Mem} {H : Hp} {k : KD} {Q : VK} (w : Wd K Fr H0 M H) (c : Cont K Fr H0 k Q) : Cont (topK K.fr) Fr H0 k Q := fun v H0' H' d M' e w' r q =>
  c v H0' H' d M' e (Wd.chg (K := topK K.fr) (K' := K) rfl w' (K.zm (fun _ _ e => e) e w.zz)) (Dat.chg (K := topK K.fr) (K' := K) rfl _ _ r) q
abbrev DFn (P : Program) (w : World) (K : PySem.W.Frag) (mg : Str → Option Value) (base : Heap) (k : Nat) (f : Addr) (fd : FuncData) (ps : List Str) (F : FD) : Prop := DG.FnG P w K mg base CX0 k f fd ps (liftF (topK K) F)
theorem de_call {F : FD} {f : Addr} {fd : FuncData} {ps : List Str} {x : Str} {k : Nat} {p pos : Pos} {wa : WA} (G : DFn X.prog X.w X.K X.mg X.base k f fd ps F) (hr : DG.RoomG k X.A) (hm : X.mg x = some (.ref f)) (hk : PySem.W.keepIn X.K (.ref f) = true) (hb : Binds X.K fd ps [])
    (ha : DA X (e :: es) wa) (hg : Gl X x := by rfl) (hdb : (x == ("__debug__" : Str)) = false := by decide) (he : starEach (e :: es) X.env = (false, eval e X.env) :: starEach es X.env := by rfl) (hpl : (backTo pos (starEach es X.env)).any (·.1) = false := by rfl) : DE X (.Call (.Name x p) (e :: es) [] pos) (wCall F wa) :=
  de_of (DG.pe_callG G hr hg hm hk hb pass0 ha.run hdb he hpl) fun σ H Q Γ Fr H0 M k h1 h2 h3 h4 => ⟨Γ, Fr, H0, M, _, h1, h2, h3, fun vs H1 H' ds M' e1 w1 r1 q1 =>
    ⟨Fr, H1, M', ds, k, w1.top, by rw [List.append_nil]; exact Dats.chg (K := X.K) (K' := topK X.K.fr) rfl _ _ r1, q1, (h4.mono e1).top w1⟩⟩
/-- a built-in, by values -/
def CallD (K : KZ) (r : List V → Hp → VK → Prop) (rd : FD) : Prop := ∀ Fr H0 M H vs ds k Q, Wd K Fr H0 M H → Dats K H0 vs ds → rd ds M k → Cont K Fr H0 k Q → r vs H Q
theorem de_callB {r : List V → Hp → VK → Prop} {rd : FD} {id : String} {x : Str} {p pos : Pos} {wa : WA} (hc : CallR X (.builtin id) r) (hd : CallD X.K r rd) (hm : X.mg x = none) (hv : bootBuiltins x = some (.builtin id)) (ha : DA X (e :: es) wa) (hg : Gl X x := by rfl) (hn : x ≠ "__name__" := by decide) (hdb : (x == ("__debug__" : Str)) = false := by decide)
    (he : starEach (e :: es) X.env = (false, eval e X.env) :: starEach es X.env := by rfl) (hpl : (backTo pos (starEach es X.env)).any (·.1) = false := by rfl) : DE X (.Call (.Name x p) (e :: es) [] pos) (wCall rd wa) :=
  de_of (pe_callB hc hg hm hv ha.run hn hdb he hpl) fun σ H Q Γ Fr H0 M k h1 h2 h3 h4 => ⟨Γ, Fr, H0, M, _, h1, h2, h3, fun vs H1 H' ds M' e1 w1 r1 q1 => hd Fr H1 M' H' vs ds k Q w1 r1 q1 (h4.mono e1)⟩
theorem de_callTy {r : List V → Hp → VK → Prop} {rd : FD} {T : String} {x : Str} {p pos : Pos} {wa : WA} (hc : CallR X (.type T) r) (hd : CallD X.K r rd) (hm : X.mg x = none) (hv : bootBuiltins x = some (.type T)) (ha : DA X (e :: es) wa) (hg : Gl X x := by rfl) (hn : x ≠ "__name__" := by decide) (hdb : (x == ("__debug__" : Str)) = false := by decide)
    (he : starEach (e :: es) X.env = (false, eval e X.env) :: starEach es X.env := by rfl) (hpl : (backTo pos (starEach es X.env)).any (·.1) = false := by rfl) : DE X (.Call (.Name x p) (e :: es) [] pos) (wCall rd wa) :=
  de_of (pe_callTy hc hg hm hv ha.run hn hdb he hpl) fun σ H Q Γ Fr H0 M k h1 h2 h3 h4 => ⟨Γ, Fr, H0, M, _, h1, h2, h3, fun vs H1 H' ds M' e1 w1 r1 q1 => hd Fr H1 M' H' vs ds k Q w1 r1 q1 (h4.mono e1)⟩
end
end DL

set_option autoImplicit false
set_option maxRecDepth 100000
set_option maxHeartbeats 2000000
namespace DL
open PySem L2
section
variable {X : CxZ} {e a b : Expr} {es : List Expr} {st : Stmt} {sts : List Stmt}

theorem dats1 {K : KZ} {H : Hp} {vs : List V} {d : D} (h : Dats K H vs [d]) : ∃ v, vs = [v] ∧ Dat K H v d := by
  cases h with | cons a t => cases t; exact ⟨_, rfl, a⟩
theorem dats2 {K : KZ} {H : Hp} {vs : List V} {d e : D} (h : Dats K H vs [d, e]) : ∃ v u, vs = [v, u] ∧ Dat K H v d ∧ Dat K H u e := by
  cases h with | cons a t => obtain ⟨u, rfl, b⟩ := dats1 t; exact ⟨_, _, rfl, a, b⟩
theorem dats3 {K : KZ} {H : Hp} {vs : List V} {d e f : D} (h : Dats K H vs [d, e, f]) : ∃ v u t, vs = [v, u, t] ∧ Dat K H v d ∧ Dat K H u e ∧ Dat K H t f := by
  cases h with | cons a t => obtain ⟨u, t, rfl, b, c⟩ := dats2 t; exact ⟨_, _, _, rfl, a, b, c⟩
/-! ### statements -/
def wNext : WS := fun k Γ M => k.nx Γ M
def wSeq (u v : WS) : WS := fun k Γ M => u ⟨v k, k.rt, k.bk, k.ct⟩ Γ M
theorem dss_nil : DSs X [] wNext := dss_of pss_nil fun _ σ H Γ Fr H0 M k h1 h2 h3 h4 => h4.nx σ H0 H Γ M (Same.refl _) h1 h2 h3
theorem emb_seq {K : KZ} {Fr H0 : Hp} {k : KS} {D : Ends} {v : WS} (h4 : Emb K Fr H0 k D) : Emb K Fr H0 ⟨v k, k.rt, k.bk, k.ct⟩ { D with nx := liftS K v D } :=
  ⟨fun σ' H0' H' Γ' M' e s w q => ⟨Γ', Fr, H0', M', k, s, w, q, h4.mono e⟩, h4.rt, h4.bk, h4.ct⟩
theorem dss_cons {u v : WS} (h1 : DS X st u) (h2 : DSs X sts v) : DSs X (st :: sts) (wSeq u v) :=
  dss_of (pss_cons h1.run h2.run) fun D σ H Γ Fr H0 M k h1 h2 h3 h4 => ⟨Γ, Fr, H0, M, _, h1, h2, h3, emb_seq h4⟩
theorem dss_one {u : WS} (h1 : DS X st u) : DSs X [st] u := ⟨pss_one h1.run⟩
def wBreak : WS := fun k Γ M => k.bk Γ M
def wContinue : WS := fun k Γ M => k.ct Γ M
def wExpr (w : WE) : WS := fun k Γ M => w Γ M fun _ M1 => k.nx Γ M1
theorem ds_expr {w : WE} {pos : Pos} (he : DE X e w) (hs : swapsWith e none pos.line X.env = pure false := by rfl) : DS X (.Expr e pos) (wExpr w) :=
  ds_of (ps_expr he.run hs) fun D σ H Γ Fr H0 M k h1 h2 h3 h4 => ⟨Γ, Fr, H0, M, _, h1, h2, h3, fun v H1 H' d M' e1 w1 r1 q1 => h4.nx σ H1 H' Γ M' e1 (h1.mono e1) w1 q1⟩
def wRet (w : WE) : WS := fun k Γ M => w Γ M k.rt
theorem ds_ret {w : WE} {pos : Pos} (he : DE X e w) : DS X (.Return (some e) pos) (wRet w) :=
  ds_of (ps_ret he.run) fun D σ H Γ Fr H0 M k h1 h2 h3 h4 => ⟨Γ, Fr, H0, M, _, h1, h2, h3, h4.rt⟩
def wRetN : WS := fun k _ M => k.rt .non M
def wIfS (wc : WT) (u v : WS) : WS := fun k Γ M => wc Γ M fun c M1 => if c = true then u k Γ M1 else v k Γ M1
theorem ds_if {c : Expr} {p q : List Stmt} {wc : WT} {u v : WS} {pos : Pos} (hc : DT X c wc) (ha : DSs X p u) (hb : DSs X q v) : DS X (.If c p q pos) (wIfS wc u v) :=
  ds_of (ps_if hc.run ha.run hb.run) fun D σ H Γ Fr H0 M k h1 h2 h3 h4 => ⟨Γ, Fr, H0, M, _, h1, h2, h3, fun c H0' H' M' e w q => by
    cases c with
    | true => rw [if_pos rfl] at q ⊢; exact ⟨Γ, Fr, H0', M', k, h1.mono e, w, q, h4.mono e⟩
    | false => rw [if_neg Bool.false_ne_true] at q ⊢; exact ⟨Γ, Fr, H0', M', k, h1.mono e, w, q, h4.mono e⟩⟩

/-! ### targets -/
/-- what a target does to the slots: within own -/
def GD (K : KZ) (g : TG) (own : List Nat) (gd : D → Env → Option Env) : Prop :=
  ∀ Fr H0 M H σ Γ Γ' v d Q, Slots K H0 σ Γ → Wd K Fr H0 M H → Dat K H0 v d → gd d Γ = some Γ' → (∀ σ', Slots K H0 σ' Γ' → (∀ i, i ∉ own → σ'[i]? = σ[i]?) → σ'.length = σ.length → Q σ' H) → g v σ H Q
def GDs (K : KZ) (g : TGs) (own : List Nat) (gd : List D → Env → Option Env) : Prop :=
  ∀ Fr H0 M H σ Γ Γ' vs ds Q, Slots K H0 σ Γ → Wd K Fr H0 M H → Dats K H0 vs ds → gd ds Γ = some Γ' → (∀ σ', Slots K H0 σ' Γ' → (∀ i, i ∉ own → σ'[i]? = σ[i]?) → σ'.length = σ.length → Q σ' H) → g vs σ H Q
structure DG (X : CxZ) (tg : Expr) (g : TG) (own : List Nat) (gd : D → Env → Option Env) : Prop where
  pg : PG X tg g
  gd : GD X.K g own gd
structure DGs (X : CxZ) (tg : List Expr) (g : TGs) (own : List Nat) (gd : List D → Env → Option Env) : Prop where
  pg : PGs X tg g
  gd : GDs X.K g own gd
def gN (i : Nat) : D → Env → Option Env := fun d Γ => some (Γ.set i (some d))
theorem gd_name {K : KZ} {i : Nat} : GD K (gName i) [i] (gN i) := fun Fr H0 M H σ Γ Γ' v d Q h1 h2 h3 h4 h5 => by
    cases h4
    refine h5 _ (h1.set i h3) (fun j hj => ?_) (by simp)
    exact List.getElem?_set_ne (fun e => hj (by simp [e]))
theorem dg_name {i : Nat} {x : Str} {pos : Pos} (hN : X.N.Nodup) (hi : X.N[i]? = some x := by rfl) (hx : Loc X.env.scope x := by first | exact Or.inl rfl | exact Or.inr rfl) (hf : X.fn x = true ∨ X.env.scope.names.lookup x = some .local := by first | exact .inl rfl | exact .inr rfl | assumption) : DG X (.Name x pos) (gName i) [i] (gN i) :=
  ⟨pg_name hN hi hx hf, gd_name⟩
def gsNil : List D → Env → Option Env := fun ds Γ => match ds with | [] => some Γ | _ => none
def gsCons (g : D → Env → Option Env) (gs : List D → Env → Option Env) : List D → Env → Option Env := fun ds Γ => match ds with | d :: ds => (match g d Γ with | some Γ' => gs ds Γ' | none => none) | [] => none
theorem gds_nil {K : KZ} : GDs K gNil [] gsNil := fun Fr H0 M H σ Γ Γ' vs ds Q h1 h2 h3 h4 h5 => by
  cases h3 with
  | nil => cases h4; exact ⟨rfl, h5 σ h1 (fun _ _ => rfl) rfl⟩
  | cons _ _ => cases h4
theorem gds_cons {K : KZ} {g : TG} {gs : TGs} {o1 o2 : List Nat} {gd : D → Env → Option Env} {gds : List D → Env → Option Env} (h1 : GD K g o1 gd) (h2 : GDs K gs o2 gds) : GDs K (gCons g gs) (o1 ++ o2) (gsCons gd gds) := fun Fr H0 M H σ Γ Γ' vs ds Q s w r e q => by
    cases r with
    | nil => cases e
    | cons r rs =>
      rename_i v vs d ds
      unfold gsCons at e
      simp only at e
      split at e
      · rename_i Γ1 e1
        refine ⟨v, vs, rfl, h1 Fr H0 M H σ Γ Γ1 v d _ s w r e1 fun σ1 s1 k1 l1 => ?_⟩
        refine h2 Fr H0 M H σ1 Γ1 Γ' vs ds _ s1 w rs e fun σ2 s2 k2 l2 => ?_
        refine q σ2 s2 (fun i hi => ?_) (l2.trans l1)
        rw [k2 i (fun z => hi (List.mem_append_right _ z)), k1 i (fun z => hi (List.mem_append_left _ z))]
      · cases e
theorem dgs_nil : DGs X [] gNil [] gsNil := ⟨pgs_nil, gds_nil⟩
theorem dgs_cons {t : Expr} {ts : List Expr} {g : TG} {gs : TGs} {o1 o2 : List Nat} {gd : D → Env → Option Env} {gds : List D → Env → Option Env} (h1 : DG X t g o1 gd) (h2 : DGs X ts gs o2 gds) (hs : (assignEach (t :: ts) X.env).map (·.2) = assign t X.env :: (assignEach ts X.env).map (·.2) := by rfl) : DGs X (t :: ts) (gCons g gs) (o1 ++ o2) (gsCons gd gds) :=
  ⟨pgs_cons h1.pg h2.pg hs, gds_cons h1.gd h2.gd⟩
def gT (gs : List D → Env → Option Env) : D → Env → Option Env := fun d Γ => match d with | .tup ds => gs ds Γ | _ => none
theorem gd_tup {K : KZ} {n : Nat} {gs : TGs} {own : List Nat} {gds : List D → Env → Option Env} (h : GDs K gs own gds) (hn : ∀ ds Γ Γ', gds ds Γ = some Γ' → ds.length = n) : GD K (gTup K n gs) own (gT gds) := fun Fr H0 M H σ Γ Γ' v d Q s w r e q => by
    cases r with
    | tup hs hd =>
      rename_i a vs ds
      exact ⟨a, vs, rfl, same_t w.ex hs, by rw [hd.length]; exact hn ds Γ Γ' e, h Fr H0 M H σ Γ Γ' vs ds Q s w hd e q⟩
    | _ => cases e
theorem dg_tup {ts : List Expr} {k n : Nat} {gs : TGs} {own : List Nat} {gds : List D → Env → Option Env} {pos : Pos} (hc : X.calm = true) (h : DGs X ts gs own gds) (hn : ∀ ds Γ Γ', gds ds Γ = some Γ' → ds.length = n) (hl : (assignEach ts X.env).length = n := by rfl) (hst : (assignEach ts X.env).findIdx? (·.1) = none := by rfl) :
    DG X (.Tuple ts k pos) (gTup X.K n gs) own (gT gds) := ⟨pg_tup hc h.pg hl hst, gd_tup h.gd hn⟩
theorem gsNil_len : ∀ ds Γ Γ', gsNil ds Γ = some Γ' → ds.length = 0 := fun ds Γ Γ' h => by
  cases ds with
  | nil => rfl
  | cons _ _ => cases h
theorem gsCons_len {g : D → Env → Option Env} {gs : List D → Env → Option Env} {n : Nat} (hn : ∀ ds Γ Γ', gs ds Γ = some Γ' → ds.length = n) : ∀ ds Γ Γ', gsCons g gs ds Γ = some Γ' → ds.length = n + 1 := fun ds Γ Γ' h => by
  cases ds with
  | nil => cases h
  | cons d ds =>
    unfold gsCons at h
    simp only at h
    split at h
    · rw [List.length_cons, hn _ _ _ h]
    · cases h

/-! ### assignments -/
def wSet (i : Nat) (w : WE) : WS := fun k Γ M => w Γ M fun d M1 => k.nx (Γ.set i (some d)) M1
theorem ds_set {i : Nat} {x : Str} {w : WE} {p pos : Pos} (hN : X.N.Nodup) (he : DE X e w) (hi : X.N[i]? = some x := by rfl) (hx : Loc X.env.scope x := by first | exact Or.inl rfl | exact Or.inr rfl) (hs : swapsWith e (some (.Name x p)) pos.line X.env = pure false := by rfl)
    (hf : X.fn x = true ∨ X.env.scope.names.lookup x = some .local := by first | exact .inl rfl | exact .inr rfl | assumption) : DS X (.Assign [.Name x p] e pos) (wSet i w) :=
  ds_of (ps_set hN hi hx he.run hs hf) fun D σ H Γ Fr H0 M k h1 h2 h3 h4 => ⟨Γ, Fr, H0, M, _, h1, h2, h3, fun v H1 H' d M' e1 w1 r1 q1 => h4.nx _ H1 H' _ M' e1 ((h1.mono e1).set i r1) w1 q1⟩
/-- a target of any form that stores into names -/
def wAsg (gd : D → Env → Option Env) (w : WE) : WS := fun k Γ M => w Γ M fun d M1 => match gd d Γ with | some Γ' => k.nx Γ' M1 | none => False
theorem ds_asg {tg : Expr} {g : TG} {own : List Nat} {gd : D → Env → Option Env} {w : WE} {pos : Pos} (hg : DG X tg g own gd) (he : DE X e w) (hs : swapsWithSole [tg] e pos.line X.env = pure false := by rfl) (hw : swappedStores [tg] e X.env = pure none := by rfl) (h1 : (assignEach [tg] X.env).map (·.2) = [assign tg X.env] := by rfl) : DS X (.Assign [tg] e pos) (wAsg gd w) :=
  ds_of (ps_asg he.run hg.pg hs hw h1) fun D σ H Γ Fr H0 M k h1 h2 h3 h4 => ⟨Γ, Fr, H0, M, _, h1, h2, h3, fun v H1 H' d M' e1 w1 r1 q1 => by
    split at q1
    · rename_i Γ' e2
      exact hg.gd Fr H1 M' H' σ Γ Γ' v d _ (h1.mono e1) w1 r1 e2 fun σ' s' _ _ => h4.nx σ' H1 H' Γ' M' e1 s' w1 q1
    · exact q1.elim⟩
def wPar (i j : Nat) (wa : WA) : WS := fun k Γ M => wa Γ M fun ds M1 => match ds with | [x, y] => k.nx ((Γ.set i (some x)).set j (some y)) M1 | _ => False
def wPar3 (i j l : Nat) (wa : WA) : WS := fun k Γ M => wa Γ M fun ds M1 => match ds with | [x, y, z] => k.nx (((Γ.set i (some x)).set j (some y)).set l (some z)) M1 | _ => False
theorem ds_par {i j : Nat} {x y : Str} {wa : WA} {px py pt pos : Pos} {kt k2 pt2} (hc : X.calm = true) (hN : X.N.Nodup) (ha : DA X [a, b] wa) (hi : X.N[i]? = some x) (hj : X.N[j]? = some y) (hij : i ≠ j)
    (hx : X.env.scope.names.lookup x = some .local) (hy : X.env.scope.names.lookup y = some .local)
    (hw : swappedStores [.Tuple [.Name x px, .Name y py] kt pt] (.Tuple [a, b] k2 pt2) X.env = pure (some [x, y]))
    (hs : swapsWithSole [.Tuple [.Name x px, .Name y py] kt pt] (.Tuple [a, b] k2 pt2) pos.line X.env = pure false := by rfl) :
    DS X (.Assign [.Tuple [.Name x px, .Name y py] kt pt] (.Tuple [a, b] k2 pt2) pos) (wPar i j wa) :=
  ds_of (ps_par hc hN hi hj hij hx hy ha.run hw hs) fun D σ H Γ Fr H0 M k h1 h2 h3 h4 => ⟨Γ, Fr, H0, M, _, h1, h2, h3, fun vs H1 H' ds M' e1 w1 r1 q1 => by
    split at q1
    · obtain ⟨v, u, rfl, ra, rb⟩ := dats2 r1
      exact ⟨v, u, rfl, h4.nx _ H1 H' _ M' e1 (((h1.mono e1).set i ra).set j rb) w1 q1⟩
    · exact q1.elim⟩
theorem ds_par3 {i j l : Nat} {x y z : Str} {c : Expr} {wa : WA} {px py pz pt pos : Pos} {kt k2 pt2} (hc : X.calm = true) (hN : X.N.Nodup) (ha : DA X [a, b, c] wa) (hi : X.N[i]? = some x) (hj : X.N[j]? = some y) (hl : X.N[l]? = some z) (hij : i ≠ j) (hil : i ≠ l) (hjl : j ≠ l)
    (hx : X.env.scope.names.lookup x = some .local) (hy : X.env.scope.names.lookup y = some .local) (hz : X.env.scope.names.lookup z = some .local)
    (hw : swappedStores [.Tuple [.Name x px, .Name y py, .Name z pz] kt pt] (.Tuple [a, b, c] k2 pt2) X.env = pure (some [x, y, z]))
    (hs : swapsWithSole [.Tuple [.Name x px, .Name y py, .Name z pz] kt pt] (.Tuple [a, b, c] k2 pt2) pos.line X.env = pure false := by rfl) :
    DS X (.Assign [.Tuple [.Name x px, .Name y py, .Name z pz] kt pt] (.Tuple [a, b, c] k2 pt2) pos) (wPar3 i j l wa) :=
  ds_of (ps_par3 hc hN hi hj hl hij hil hjl hx hy hz ha.run hw hs) fun D σ H Γ Fr H0 M k h1 h2 h3 h4 => ⟨Γ, Fr, H0, M, _, h1, h2, h3, fun vs H1 H' ds M' e1 w1 r1 q1 => by
    split at q1
    · obtain ⟨v, u, t, rfl, ra, rb, rc⟩ := dats3 r1
      exact ⟨v, u, t, rfl, h4.nx _ H1 H' _ M' e1 ((((h1.mono e1).set i ra).set j rb).set l rc) w1 q1⟩
    · exact q1.elim⟩

/-! ### lists as they stand -/
/-- a list that is tracked -/
def asL (M : Mem) : D → Option (List D)
  | .lst ds => some ds
  | .cel a => match M a with | some (.lst ds) => some ds | _ => none
  | _ => none
/-- a list that may be read -/
def asR (M : Mem) : D → Option (List D)
  | .lst ds => some ds
  | .scr ds => some ds
  | .cel a => match M a with | some (.lst ds) => some ds | _ => none
  | _ => none
theorem asL_ok {K : KZ} {Fr H0 H : Hp} {M : Mem} {v : V} {d : D} {ds : List D} (w : Wd K Fr H0 M H) (r : Dat K H0 v d) (h : asL M d = some ds) : ∃ a vs, v = .ref a ∧ H a = some (.lst vs) ∧ Dats K H0 vs ds := by
  cases r with
  | lst hs hd => cases h; exact ⟨_, _, rfl, w.ex _ _ hs, hd⟩
  | cel a =>
    unfold asL at h
    simp only at h
    split at h
    · rename_i ds' e
      cases h
      obtain ⟨_, o, e2, c⟩ := w.mem a _ e
      cases c with
      | lst hd => exact ⟨a, _, rfl, e2, hd⟩
    · cases h
  | _ => cases h
theorem asR_ok {K : KZ} {Fr H0 H : Hp} {M : Mem} {v : V} {d : D} {ds : List D} (w : Wd K Fr H0 M H) (r : Dat K H0 v d) (h : asR M d = some ds) : ∃ a vs, v = .ref a ∧ SqL K H a vs ∧ Dats K H0 vs ds := by
  cases r with
  | lst hs hd => cases h; exact ⟨_, _, rfl, .of (w.ex _ _ hs), hd⟩
  | scr hs hd => cases h; exact ⟨_, _, rfl, same_l w.ex hs, hd⟩
  | cel a =>
    obtain ⟨a', vs, e1, e2, e3⟩ := asL_ok w (.cel a) (show asL M (.cel a) = some ds from h)
    exact ⟨a', vs, e1, .of e2, e3⟩
  | _ => cases h

/-! ### what is walked -/
abbrev WI := Env → Mem → (List D → (Mem → Prop) → Mem → Prop) → Prop
def WalkD (K : KZ) (Fr : Hp) (J : It) (H0 : Hp) (its : List D) (G : Mem → Prop) : Prop :=
  ∀ H0' M H, Same H0 H0' → Wd K Fr H0' M H → G M → (∀ i, i < its.length → J.go i H) ∧ J.stop its.length H ∧
    ∀ i x H' d, its[i]? = some d → J.yld i H x H' → ∃ H0'', Same H0' H0'' ∧ Wd K Fr H0'' M H' ∧ Dat K H0'' x d
theorem WalkD.mono {K : KZ} {Fr Fr' : Hp} {J : It} {H0 H1 : Hp} {its : List D} {G : Mem → Prop} (h : WalkD K Fr J H0 its G) (e : Same H0 H1) : WalkD K Fr J H1 its G := fun H0' M H s => h H0' M H (e.trans s)
/-- over lists: any frame -/
def Walks (K : KZ) (J : It) (H0 : Hp) (its : List D) (G : Mem → Prop) : Prop := ∀ Fr, WalkD K Fr J H0 its G
structure DI (X : CxZ) (tg iter : Expr) (wi : WI) : Prop where
  run : ∃ ti : TI, PI X tg iter ti ∧ ∀ σ H Γ Fr H0 M k R, Slots X.K H0 σ Γ → Wd X.K Fr H0 M H → wi Γ M k →
    (∀ J its G H1 H0' M', Same H0 H0' → Wd X.K Fr H0' M' H1 → k its G M' → Walks X.K J H0' its G → R J H1) → ti σ H R
def gAny : Mem → Prop := fun _ => True
def gAt (d : D) (ds : List D) : Mem → Prop := fun M => asR M d = some ds
/-- a list -/
def wiL (w : WE) : WI := fun Γ M k => w Γ M fun d M1 => match asR M1 d with | some ds => k ds (gAt d ds) M1 | none => False
theorem walks_list {K : KZ} {H0 : Hp} {a : Addr} {d : D} {ds : List D} (r : Dat K H0 (.ref a) d) : Walks K (Itl K a) H0 ds (gAt d ds) := fun Fr H0' M H e w g => by
  obtain ⟨a', vs, ea, hs, hd⟩ := asR_ok w (r.mono e) g
  cases ea
  refine ⟨fun i hi => ?_, ⟨vs, hs, by rw [hd.length]; exact Nat.le_refl _⟩, fun i x H' d' hd' y => ?_⟩
  · have hl : i < vs.length := by rw [hd.length]; exact hi
    exact ⟨vs, vs[i], hs, by simp [hl]⟩
  · obtain ⟨e1, y⟩ := y
    subst e1
    obtain ⟨v, e2, r2⟩ := hd.get hd'
    have e3 := y vs hs
    rw [e2] at e3; cases e3
    exact ⟨H0', Same.refl _, w, r2⟩
theorem di_list {tg l : Expr} {w : WE} (h : DE X l w) : DI X tg l (wiL w) := ⟨_, pi_list h.run, fun σ H Γ Fr H0 M k R h1 h2 h3 h4 => ⟨Γ, Fr, H0, M, _, h1, h2, h3, fun v H1 H' d M' e1 w1 r1 q1 => by
  split at q1
  · rename_i ds e2
    obtain ⟨a, vs, rfl, hs, hd⟩ := asR_ok w1 r1 e2
    exact ⟨a, rfl, ⟨vs, hs⟩, h4 _ ds _ H' H1 M' e1 w1 q1 (walks_list r1)⟩
  · exact q1.elim⟩⟩
/-- a tuple -/
def wiT (w : WE) : WI := fun Γ M k => w Γ M fun d M1 => match d with | .tup ds => k ds gAny M1 | _ => False
theorem walks_tup {K : KZ} {H0 : Hp} {a : Addr} {vs : List V} {ds : List D} (hs : SqT K H0 a vs) (hd : Dats K H0 vs ds) : Walks K (Itt K a) H0 ds gAny := fun Fr H0' M H e w g => by
  have hs' := same_t (e.trans w.ex) hs
  refine ⟨fun i hi => ?_, ⟨vs, hs', by rw [hd.length]; exact Nat.le_refl _⟩, fun i x H' d' hd' y => ?_⟩
  · have hl : i < vs.length := by rw [hd.length]; exact hi
    exact ⟨vs, vs[i], hs', by simp [hl]⟩
  · obtain ⟨e1, y⟩ := y
    subst e1
    obtain ⟨v, e2, r2⟩ := hd.get hd'
    have e3 := y vs hs'
    rw [e2] at e3; cases e3
    exact ⟨H0', Same.refl _, w, r2.mono e⟩
theorem di_tup {tg l : Expr} {w : WE} (h : DE X l w) : DI X tg l (wiT w) := ⟨_, pi_tup h.run, fun σ H Γ Fr H0 M k R h1 h2 h3 h4 => ⟨Γ, Fr, H0, M, _, h1, h2, h3, fun v H1 H' d M' e1 w1 r1 q1 => by
  cases r1 with
  | tup hs hd => exact ⟨_, rfl, ⟨_, same_t w1.ex hs⟩, h4 _ _ _ H' H1 M' e1 w1 q1 (walks_tup hs hd)⟩
  | _ => exact q1.elim⟩⟩
/-- a text -/
def signs (x : Str) : List D := x.cps.toList.map fun c => .str ⟨#[c]⟩
def wiS (w : WE) : WI := fun Γ M k => w Γ M fun d M1 => match d with | .str x => k (signs x) gAny M1 | _ => False
theorem walks_str {K : KZ} {H0 : Hp} {x : Str} : Walks K (Its x) H0 (signs x) gAny := fun Fr H0' M H e w g => by
  have hl : (signs x).length = x.cps.size := by unfold signs; simp
  refine ⟨fun i hi => ?_, ?_, fun i y H' d hd q => ?_⟩
  · show i < x.cps.size
    rw [← hl]; exact hi
  · show x.cps.size ≤ (signs x).length
    rw [hl]; exact Nat.le_refl _
  · obtain ⟨e1, c, e2, e3⟩ := q
    subst e1 e3
    unfold signs at hd
    rw [List.getElem?_map, Array.getElem?_toList, e2] at hd
    cases hd
    exact ⟨H0', Same.refl _, w, .str _⟩
theorem di_str {tg l : Expr} {w : WE} (h : DE X l w) : DI X tg l (wiS w) := ⟨_, pi_str h.run, fun σ H Γ Fr H0 M k R h1 h2 h3 h4 => ⟨Γ, Fr, H0, M, _, h1, h2, h3, fun v H1 H' d M' e1 w1 r1 q1 => by
  cases r1 with
  | str x => exact ⟨x, rfl, h4 _ _ _ H' H1 M' e1 w1 q1 walks_str⟩
  | _ => exact q1.elim⟩⟩
/-- range(n) -/
def rng (lo : Int) (n : Nat) : List D := (List.range n).map fun (i : Nat) => .int (lo + i)
def wiR (wa : WA) : WI := fun Γ M k => wa Γ M fun ds M1 => match ds with | [.int n] => (-(2 ^ 62) ≤ n ∧ n < 2 ^ 62) ∧ k (rng 0 n.toNat) gAny M1 | _ => False
theorem walks_rng {K : KZ} {H0 : Hp} {lo : Int} {n : Nat} : Walks K (Itr lo n) H0 (rng lo n) gAny := fun Fr H0' M H e w g => by
  have hl : (rng lo n).length = n := by unfold rng; simp
  refine ⟨fun i hi => ?_, ?_, fun i y H' d hd q => ?_⟩
  · show i < n
    rw [← hl]; exact hi
  · show n ≤ (rng lo n).length
    rw [hl]; exact Nat.le_refl _
  · obtain ⟨e1, e3⟩ := q
    subst e1 e3
    unfold rng at hd
    rw [List.getElem?_map] at hd
    have hi : i < n := by
      cases q : (List.range n)[i]? with
      | none => rw [q] at hd; cases hd
      | some z => exact by have := (List.getElem?_eq_some_iff.mp q).1; simpa using this
    rw [List.getElem?_range hi] at hd
    cases hd
    exact ⟨H0', Same.refl _, w, .int _⟩
theorem di_range {tg : Expr} {wa : WA} {p pos : Pos} (hm : X.mg "range" = none) (ha : DA X [a] wa) (hg : Gl X "range" := by rfl) (hs : starEach [a] X.env = [(false, eval a X.env)] := by rfl) : DI X tg (.Call (.Name "range" p) [a] [] pos) (wiR wa) :=
  ⟨_, pi_range1 hg hm ha.run hs, fun σ H Γ Fr H0 M k R h1 h2 h3 h4 => ⟨Γ, Fr, H0, M, _, h1, h2, h3, fun vs H1 H' ds M' e1 w1 r1 q1 => by
  split at q1
  · obtain ⟨v, rfl, r⟩ := dats1 r1
    cases r
    exact ⟨_, rfl, q1.1.1, q1.1.2, h4 _ _ _ H' H1 M' e1 w1 q1.2 walks_rng⟩
  · exact q1.elim⟩⟩

/-! ### for -/
def loopD (gd : D → Env → Option Env) (wb : WS) (G : Mem → Prop) : List D → KS → Env → Mem → Prop
  | [], k, Γ, M => G M ∧ k.nx Γ M
  | d :: ds, k, Γ, M => G M ∧ match gd d Γ with | some Γ' => wb ⟨loopD gd wb G ds k, k.rt, k.nx, loopD gd wb G ds k⟩ Γ' M | none => False
def wFor (wi : WI) (gd : D → Env → Option Env) (wb : WS) : WS := fun k Γ M => wi Γ M fun its G M1 => loopD gd wb G its k Γ M1
theorem drop_cons {α : Type} {l : List α} {i : Nat} (h : i < l.length) : l.drop i = l[i] :: l.drop (i + 1) := List.drop_eq_getElem_cons h
theorem ds_for {tg iter : Expr} {body : List Stmt} {wi : WI} {g : TG} {own : List Nat} {gd : D → Env → Option Env} {wb : WS} {pos : Pos} (hc : X.calm = true) (hi : DI X tg iter wi) (hg : DG X tg g own gd) (hb : DSs X body wb)
    (hp : PassesOwn (model X.prog X.w) X.A X.env X.xe := by exact PassesOwn.never) (hs : ∀ x, foldedSetIterable iter X.env x = pure x := by intro _; rfl) : DS X (.For tg iter body [] pos) (wFor wi gd wb) := by
  obtain ⟨ti, hpi, hti⟩ := hi.run
  refine ds_of (ps_for hp hc hpi hg.pg hb.run hs) fun D σ H Γ Fr H0 M k h1 h2 h3 h4 => ?_
  refine hti σ H Γ Fr H0 M _ _ h1 h2 h3 fun J its G H1 H0' M' e1 w1 q1 wk => ?_
  refine ⟨fun i m σ H => m = its.length - i ∧ i ≤ its.length ∧ ∃ Γ H2 M, Same H0' H2 ∧ Slots X.K H2 σ Γ ∧ Wd X.K Fr H2 M H ∧ loopD gd wb G (its.drop i) k Γ M, ⟨its.length, by simp, Nat.zero_le _, Γ, H0', M', Same.refl _, h1.mono e1, w1, q1⟩, ?_⟩
  rintro i m σ H ⟨rfl, hle, Γ, H2, M, e2, s2, w2, q2⟩
  by_cases hlt : i < its.length
  · right
    rw [drop_cons hlt] at q2
    obtain ⟨g2, q2⟩ := q2
    obtain ⟨k1, k2, k3⟩ := wk Fr H2 M H e2 w2 g2
    refine ⟨k1 i hlt, fun σ' H' => ∃ Γ H3 M, Same H0' H3 ∧ Slots X.K H3 σ' Γ ∧ Wd X.K Fr H3 M H' ∧ loopD gd wb G (its.drop (i + 1)) k Γ M, fun σ' H' z => ⟨its.length - (i + 1), by omega, rfl, hlt, z⟩, fun x H' y => ?_⟩
    obtain ⟨H3, e3, w3, r3⟩ := k3 i x H' its[i] (List.getElem?_eq_getElem hlt) y
    split at q2
    · rename_i Γ' eg
      refine hg.gd Fr H3 M H' σ Γ Γ' x its[i] _ (s2.mono e3) w3 r3 eg fun σ' s' _ _ => ?_
      refine ⟨Γ', Fr, H3, M, _, s', w3, q2, ⟨fun σ'' H4 H'' Γ'' M'' e4 s4 w4 q4 => ?_, ?_, ?_, fun σ'' H4 H'' Γ'' M'' e4 s4 w4 q4 => ?_⟩⟩
      · exact ⟨Γ'', H4, M'', (e2.trans e3).trans e4, s4, w4, q4⟩
      · exact (h4.mono ((e1.trans e2).trans e3)).rt
      · exact (h4.mono ((e1.trans e2).trans e3)).nx
      · exact ⟨Γ'', H4, M'', (e2.trans e3).trans e4, s4, w4, q4⟩
    · exact q2.elim
  · left
    have ei : i = its.length := by omega
    subst ei
    rw [List.drop_length] at q2
    obtain ⟨g2, q2⟩ := q2
    exact ⟨(wk Fr H2 M H e2 w2 g2).2.1, h4.nx σ H2 H Γ M (e1.trans e2) s2 w2 q2⟩
/-- by an invariant over what is left -/
theorem loop_inv {gd : D → Env → Option Env} {wb : WS} {G : Mem → Prop} {k : KS} (I : List D → Env → Mem → Prop) (hG : ∀ ds Γ M, I ds Γ M → G M) (h0 : ∀ Γ M, I [] Γ M → k.nx Γ M)
    (hs : ∀ d ds Γ M, I (d :: ds) Γ M → ∃ Γ', gd d Γ = some Γ' ∧ ∀ k' : KS, k'.rt = k.rt → k'.bk = k.nx → (∀ Γ M, I ds Γ M → k'.nx Γ M) → (∀ Γ M, I ds Γ M → k'.ct Γ M) → wb k' Γ' M) :
    ∀ its Γ M, I its Γ M → loopD gd wb G its k Γ M
  | [], Γ, M, h => ⟨hG _ _ _ h, h0 Γ M h⟩
  | d :: ds, Γ, M, h => by
    refine ⟨hG _ _ _ h, ?_⟩
    obtain ⟨Γ', e, q⟩ := hs d ds Γ M h
    rw [e]
    exact q _ rfl rfl (fun Γ M h => loop_inv I hG h0 hs ds Γ M h) (fun Γ M h => loop_inv I hG h0 hs ds Γ M h)

/-! ### while -/
/-! ### comprehensions -/
def lcD (gd : D → Env → Option Env) (wt : WT) (we : WE) (G : Mem → Prop) (Γ : Env) : List D → List D → Mem → (List D → Mem → Prop) → Prop
  | [], acc, M, k => G M ∧ k acc M
  | d :: ds, acc, M, k => G M ∧ match gd d Γ with
    | some Γ' => wt Γ' M fun b M1 => if b = true then we Γ' M1 fun y M2 => acc.length < sizeLine ∧ lcD gd wt we G Γ ds (acc ++ [y]) M2 k else lcD gd wt we G Γ ds acc M1 k
    | none => False
structure DTs (X : CxZ) (ifs : List Expr) (w : WT) : Prop where
  run : PTs X ifs (liftT X.K w)
def wYes : WT := fun _ M k => k true M
theorem dts_nil : DTs X [] wYes := ⟨⟨fun pins s σ H Q I ⟨Γ, Fr, H0, M, k, h1, h2, h3, h4⟩ => pts_nil.run pins s σ H Q I (h4 true H0 H M (Same.refl _) h2 h3)⟩⟩
theorem dts_one {c : Expr} {w : WT} (h : DT X c w) : DTs X [c] w := ⟨pts_one h.run⟩
def wLc (wi : WI) (gd : D → Env → Option Env) (wt : WT) (we : WE) (vs : List Nat) : WE := fun Γ M k => wi Γ M fun its G M1 => lcD gd wt we G (wipeD Γ vs) its [] M1 fun ds M2 => k (.lst ds) M2
def wLcM (wi : WI) (gd : D → Env → Option Env) (wt : WT) (we : WE) (vs : List Nat) : WE := fun Γ M k => wi Γ M fun its G M1 => lcD gd wt we G (wipeD Γ vs) its [] M1 fun ds M2 => ∀ p, M2 p = none → k (.cel p) (setM M2 p (.lst ds))
/-- the heart of both: the list at L lies in the frame while an element is worked out -/
theorem lc_heart {K : KZ} {wi : WI} {ti : TI} {g : TG} {own : List Nat} {gd : D → Env → Option Env} {wt : WT} {we : WE} {vs : List Nat} {Qd : Addr → Hp → Prop} {kd : List D → Mem → Prop}
    (hg : GD K g own gd) (ho : ∀ i ∈ own, i ∈ vs) {σ : St} {H H0 Fr : Hp} {Γ : Env} {M : Mem} {J : It} {its : List D} {G : Mem → Prop} (s : Slots K H0 σ Γ) (w : Wd K Fr H0 M H) (wk : Walks K J H0 its G)
    (h : lcD gd wt we G (wipeD Γ vs) its [] M kd) {L : Addr} (hL : H L = none)
    (hk : ∀ H1 H' M' ds vs', Same H0 H1 → Wd K Fr H1 M' H' → H1 L = none → M' L = none → Fr L = none → H' L = some (.lst vs') → Dats K H1 vs' ds → kd ds M' → Qd L H') :
    ∃ W : Nat → Nat → Hp → Prop, (∃ m, W 0 m (upd H L (.lst []))) ∧ ∀ i m H, W i m H →
      (J.stop i H ∧ Qd L H) ∨ (J.go i H ∧ ∃ Nx : Hp → Prop, (∀ H', Nx H' → ∃ m', m' < m ∧ W (i + 1) m' H') ∧ ∀ x H', J.yld i H x H' → g x (wipe σ vs) H' fun σ2 H2 => wipe σ2 vs = wipe σ vs ∧ liftT K wt σ2 H2 fun b H3 =>
        if b = true then liftE K we σ2 H3 fun y H4 => ∃ acc, H4 L = some (.lst acc) ∧ acc.length < sizeLine ∧ Nx (upd H4 L (.lst (acc ++ [y]))) else Nx H3) := by
  have hF : Fr L = none := w.freshF hL
  refine ⟨fun i m H => m = its.length - i ∧ i ≤ its.length ∧ ∃ H1 M av acc, Same H0 H1 ∧ Wd K (upd Fr L (.lst av)) H1 M H ∧ Dats K H1 av acc ∧ lcD gd wt we G (wipeD Γ vs) (its.drop i) acc M kd,
    ⟨its.length, by simp, Nat.zero_le _, H0, M, [], [], Same.refl _, (w.tmp hL).frame (w.fresh hL) (w.freshM hL) upd_same, .nil, h⟩, ?_⟩
  rintro i m H ⟨rfl, hle, H1, M, av, acc, e1, w1, ra, q1⟩
  by_cases hlt : i < its.length
  · right
    rw [drop_cons hlt] at q1
    obtain ⟨g1, q1⟩ := q1
    obtain ⟨k1, k2, k3⟩ := wk _ H1 M H e1 w1 g1
    refine ⟨k1 i hlt, fun H' => ∃ H2 M av acc, Same H0 H2 ∧ Wd K (upd Fr L (.lst av)) H2 M H' ∧ Dats K H2 av acc ∧ lcD gd wt we G (wipeD Γ vs) (its.drop (i + 1)) acc M kd, fun H' z => ⟨its.length - (i + 1), by omega, rfl, hlt, z⟩, fun x H' y => ?_⟩
    obtain ⟨H2, e2, w2, r2⟩ := k3 i x H' its[i] (List.getElem?_eq_getElem hlt) y
    split at q1
    · rename_i Γ' eg
      refine hg _ H2 M H' _ _ Γ' x its[i] _ ((s.wipe vs).mono (e1.trans e2)) w2 r2 eg fun σ' s' hout hlen => ⟨?_, ?_⟩
      · rw [← wipe_wipe σ vs]
        refine wipe_eq hlen fun i hi => hout i fun z => hi (ho i z)
      · refine ⟨Γ', _, H2, M, _, s', w2, q1, fun b H3 H'' M3 e3 w3 q3 => ?_⟩
        cases b with
        | true =>
          rw [if_pos rfl] at q3 ⊢
          refine ⟨Γ', _, H3, M3, _, s'.mono e3, w3, q3, fun v H4 H4' d M4 e4 w4 r4 q4 => ?_⟩
          obtain ⟨w5, n1, n2, n3⟩ := w4.unframe hF (K.zm (fun _ _ e => e) (e1.trans (e2.trans (e3.trans e4))) w.zz)
          have e04 := (e1.trans e2).trans (e3.trans e4)
          have ra4 := ra.mono (e2.trans (e3.trans e4))
          exact ⟨av, n3, by rw [ra4.length]; exact q4.1, H4, M4, av ++ [v], acc ++ [d], e04, (w5.tmpSet n1 n2 hF).frame n1 n2 upd_same, ra4.append (.one r4), q4.2⟩
        | false =>
          rw [if_neg Bool.false_ne_true] at q3 ⊢
          exact ⟨H3, M3, av, acc, (e1.trans e2).trans e3, w3, ra.mono (e2.trans e3), q3⟩
    · exact q1.elim
  · left
    have ei : i = its.length := by omega
    subst ei
    rw [List.drop_length] at q1
    obtain ⟨g1, q1⟩ := q1
    obtain ⟨w5, n1, n2, n3⟩ := w1.unframe hF (K.zm (fun _ _ e => e) e1 w.zz)
    exact ⟨(wk _ H1 M H e1 w1 g1).2.1, hk H1 H M acc av e1 w5 n1 n2 hF n3 ra q1⟩
theorem de_lcX {elt tg iter : Expr} {ifs : List Expr} {scope : Scope} {own : List (Str × Nat)} {pos : Pos} {wi : WI} {g : TG} {ow : List Nat} {gd : D → Env → Option Env} {wt : WT} {we : WE} {wx : WE} (hc : X.calm = true) (hN : X.N.Nodup) (hi : DI X tg iter wi) (ok : BlkOk X.N X.env.scope scope own)
    (hg : ∀ (s : Shared) (H : Hp) (C : Addr) (cl : List (Str × Addr)) (fp : List Addr), DG (X.blk s H scope (compEnvC scope cl C X.env) fp) tg g ow gd) (hgd : GD X.K g ow gd)
    (ht : ∀ (s : Shared) (H : Hp) (C : Addr) (cl : List (Str × Addr)) (fp : List Addr), DTs (X.blk s H scope (compEnvC scope cl C X.env) fp) ifs wt)
    (he : ∀ (s : Shared) (H : Hp) (C : Addr) (cl : List (Str × Addr)) (fp : List Addr), DE (X.blk s H scope (compEnvC scope cl C X.env) fp) elt we)
    (ho : ∀ i ∈ ow, i ∈ own.map (·.2)) (hs : ∀ x, foldedSetIterable iter X.env x = pure x)
    (hx : ∀ Γ M k, wx Γ M k → ∃ kd, wi Γ M (fun its G M1 => lcD gd wt we G (wipeD Γ (own.map (·.2))) its [] M1 kd) ∧ ∀ Fr H0 H M ds vs L Q, Cont X.K Fr H0 k Q → Wd X.K Fr H0 M H → H0 L = none → M L = none → Fr L = none → H L = some (.lst vs) → Dats X.K H0 vs ds → kd ds M → Q (.ref L) H) :
    DE X (.ListComp elt [⟨tg, iter, ifs, 0⟩] scope pos) wx := by
  obtain ⟨ti, hpi, hti⟩ := hi.run
  refine de_of (pe_lc (tt := liftT X.K wt) (te := liftE X.K we) hc hN hpi ok (fun s H C cl fp => (hg s H C cl fp).pg) (fun s H C cl fp => (ht s H C cl fp).run) (fun s H C cl fp => (he s H C cl fp).run) hs) fun σ H Q Γ Fr H0 M k h1 h2 h3 h4 => ?_
  obtain ⟨kd, h3, hk⟩ := hx Γ M k h3
  refine hti σ H Γ Fr H0 M _ _ h1 h2 h3 fun J its G H1 H0' M' e1 w1 q1 wk L hL => ?_
  exact lc_heart (Qd := fun L H => Q (.ref L) H) (ti := ti) (wi := wi) hgd ho (h1.mono e1) w1 wk q1 hL fun H2 H' M2 ds vs' e2 w2 n1 n2 n3 n4 rd qk => hk Fr H2 H' M2 ds vs' L Q (h4.mono (e1.trans e2)) w2 n1 n2 n3 n4 rd qk
theorem de_lc {elt tg iter : Expr} {ifs : List Expr} {scope : Scope} {own : List (Str × Nat)} {pos : Pos} {wi : WI} {g : TG} {ow : List Nat} {gd : D → Env → Option Env} {wt : WT} {we : WE} (hc : X.calm = true) (hN : X.N.Nodup) (hi : DI X tg iter wi) (ok : BlkOk X.N X.env.scope scope own)
    (hg : ∀ (s : Shared) (H : Hp) (C : Addr) (cl : List (Str × Addr)) (fp : List Addr), DG (X.blk s H scope (compEnvC scope cl C X.env) fp) tg g ow gd) (hgd : GD X.K g ow gd)
    (ht : ∀ (s : Shared) (H : Hp) (C : Addr) (cl : List (Str × Addr)) (fp : List Addr), DTs (X.blk s H scope (compEnvC scope cl C X.env) fp) ifs wt)
    (he : ∀ (s : Shared) (H : Hp) (C : Addr) (cl : List (Str × Addr)) (fp : List Addr), DE (X.blk s H scope (compEnvC scope cl C X.env) fp) elt we)
    (ho : ∀ i ∈ ow, i ∈ own.map (·.2) := by decide) (hs : ∀ x, foldedSetIterable iter X.env x = pure x := by intro _; rfl) : DE X (.ListComp elt [⟨tg, iter, ifs, 0⟩] scope pos) (wLc wi gd wt we (own.map (·.2))) :=
  de_lcX hc hN hi ok hg hgd ht he ho hs fun Γ M k h => ⟨_, h, fun Fr H0 H M ds vs L Q h4 w n1 n2 n3 n4 rd qk =>
    h4 _ (upd H0 L (.lst vs)) H _ M (same_new n1) (w.adopt n1 n2 n3 n4) (.lst upd_same (rd.mono (same_new n1))) qk⟩
/-- name = [..] on one line -/
theorem ds_setLcX {i : Nat} {y : Str} {py : Pos} {elt tg iter : Expr} {ifs : List Expr} {scope : Scope} {own : List (Str × Nat)} {pos spos : Pos} {wi : WI} {g : TG} {ow : List Nat} {gd : D → Env → Option Env} {wt : WT} {we : WE} {wx : WE} (hc : X.calm = true) (hN : X.N.Nodup) (hy : X.N[i]? = some y) (hyl : X.env.scope.names.lookup y = some .local)
    (hsw : swapsWith (.ListComp elt [⟨tg, iter, ifs, 0⟩] scope pos) (some (.Name y py)) spos.line X.env = pure true) (hi : DI X tg iter wi) (ok : BlkOk X.N X.env.scope scope own)
    (hg : ∀ (s : Shared) (H : Hp) (C : Addr) (cl : List (Str × Addr)) (fp : List Addr), DG (X.blk s H scope (compEnvC scope cl C X.env) fp) tg g ow gd) (hgd : GD X.K g ow gd)
    (ht : ∀ (s : Shared) (H : Hp) (C : Addr) (cl : List (Str × Addr)) (fp : List Addr), DTs (X.blk s H scope (compEnvC scope cl C X.env) fp) ifs wt)
    (he : ∀ (s : Shared) (H : Hp) (C : Addr) (cl : List (Str × Addr)) (fp : List Addr), DE (X.blk s H scope (compEnvC scope cl C X.env) fp) elt we)
    (ho : ∀ i ∈ ow, i ∈ own.map (·.2)) (hs : ∀ x, foldedSetIterable iter X.env x = pure x)
    (hx : ∀ Γ M k, wx Γ M k → ∃ kd, wi Γ M (fun its G M1 => lcD gd wt we G (wipeD Γ (own.map (·.2))) its [] M1 kd) ∧ ∀ Fr H0 H M ds vs L Q, Cont X.K Fr H0 k Q → Wd X.K Fr H0 M H → H0 L = none → M L = none → Fr L = none → H L = some (.lst vs) → Dats X.K H0 vs ds → kd ds M → Q (.ref L) H) :
    DS X (.Assign [.Name y py] (.ListComp elt [⟨tg, iter, ifs, 0⟩] scope pos) spos) (wSet i wx) := by
  obtain ⟨ti, hpi, hti⟩ := hi.run
  refine ds_of (ps_setLc (tt := liftT X.K wt) (te := liftE X.K we) hc hN hy hyl hsw hpi ok (fun s H C cl fp => (hg s H C cl fp).pg) (fun s H C cl fp => (ht s H C cl fp).run) (fun s H C cl fp => (he s H C cl fp).run) hs) fun D σ H Γ Fr H0 M k h1 h2 h3 h4 => ?_
  obtain ⟨kd, h3, hk⟩ := hx Γ M _ h3
  refine hti σ H Γ Fr H0 M _ _ h1 h2 h3 fun J its G H1 H0' M' e1 w1 q1 wk L hL => ?_
  refine lc_heart (Qd := fun L H => gName i (.ref L) σ H D.nx) (ti := ti) (wi := wi) hgd ho (h1.mono e1) w1 wk q1 hL fun H2 H' M2 ds vs' e2 w2 n1 n2 n3 n4 rd qk => ?_
  refine hk Fr H2 H' M2 ds vs' L (fun v H => gName i v σ H D.nx) (fun v H3 H'' d M3 e3 w3 r3 q3 => ?_) w2 n1 n2 n3 n4 rd qk
  exact h4.nx _ H3 H'' _ M3 ((e1.trans e2).trans e3) ((h1.mono ((e1.trans e2).trans e3)).set i r3) w3 q3
theorem ds_setLc {i : Nat} {y : Str} {py : Pos} {elt tg iter : Expr} {ifs : List Expr} {scope : Scope} {own : List (Str × Nat)} {pos spos : Pos} {wi : WI} {g : TG} {ow : List Nat} {gd : D → Env → Option Env} {wt : WT} {we : WE} (hc : X.calm = true) (hN : X.N.Nodup) (hi : DI X tg iter wi) (ok : BlkOk X.N X.env.scope scope own)
    (hg : ∀ (s : Shared) (H : Hp) (C : Addr) (cl : List (Str × Addr)) (fp : List Addr), DG (X.blk s H scope (compEnvC scope cl C X.env) fp) tg g ow gd) (hgd : GD X.K g ow gd)
    (ht : ∀ (s : Shared) (H : Hp) (C : Addr) (cl : List (Str × Addr)) (fp : List Addr), DTs (X.blk s H scope (compEnvC scope cl C X.env) fp) ifs wt)
    (he : ∀ (s : Shared) (H : Hp) (C : Addr) (cl : List (Str × Addr)) (fp : List Addr), DE (X.blk s H scope (compEnvC scope cl C X.env) fp) elt we)
    (hsw : swapsWith (.ListComp elt [⟨tg, iter, ifs, 0⟩] scope pos) (some (.Name y py)) spos.line X.env = pure true)
    (hy : X.N[i]? = some y := by rfl) (hyl : X.env.scope.names.lookup y = some .local := by rfl)
    (ho : ∀ i ∈ ow, i ∈ own.map (·.2) := by decide) (hs : ∀ x, foldedSetIterable iter X.env x = pure x := by intro _; rfl) : DS X (.Assign [.Name y py] (.ListComp elt [⟨tg, iter, ifs, 0⟩] scope pos) spos) (wSet i (wLc wi gd wt we (own.map (·.2)))) :=
  ds_setLcX hc hN hy hyl hsw hi ok hg hgd ht he ho hs fun Γ M k h => ⟨_, h, fun Fr H0 H M ds vs L Q h4 w n1 n2 n3 n4 rd qk =>
    h4 _ (upd H0 L (.lst vs)) H _ M (same_new n1) (w.adopt n1 n2 n3 n4) (.lst upd_same (rd.mono (same_new n1))) qk⟩
end
/-! ### a def -/
section
variable {P : Program} {w : World} {K : PySem.W.Frag} {mg : Str → Option Value} {base : Heap}
def startD (N : List Str) (ds : List D) : Env := ds.map some ++ List.replicate (N.length - ds.length) none
theorem slots_start {K : KZ} {H : Hp} {N : List Str} {vs : List V} {ds : List D} (h : Dats K H vs ds) : Slots K H (L2.start N vs) (startD N ds) := by
  have hl := h.length
  refine ⟨by unfold L2.start startD; simp [hl], fun i d e => ?_⟩
  unfold startD at e
  by_cases hi : i < ds.length
  · rw [List.getElem?_append_left (by simpa using hi), List.getElem?_map] at e
    cases q : ds[i]? with
    | none => rw [q] at e; cases e
    | some d' =>
      rw [q] at e; cases e
      obtain ⟨v, e2, r⟩ := h.get q
      refine ⟨v, ?_, r⟩
      unfold L2.start
      rw [List.getElem?_append_left (by simpa [hl] using hi), List.getElem?_map, e2]; rfl
  · rw [List.getElem?_append_right (by simpa using hi)] at e
    have := List.mem_of_getElem? e
    simp at this
abbrev fin (k : KD) : KS := ⟨fun _ M => k .non M, k, fun _ _ => False, fun _ _ => False⟩
theorem Fun.okD {K : PySem.W.Frag} {x qual : Str} {st : Stmt} {f : Addr} {fd : FuncData} {N ps : List Str} {k : Nat} {F : FD} {ws : WS} (Fu : Fun K x qual st f fd) (S : FnScope N ps (defScope st))
    (hbody : ∀ (cdv : Value) (A : Around) (outer : List PySem.Env) (s : Shared) (H : Hp) (E : XK), DG.RoomG k (A.deeper (PyProof.Rows.envOfC qual (defScope st) s.heap.objs.size f cdv)) → DSs (topX (cxOf CX0 P w K mg base N qual (defScope st) f cdv A outer s H E).nox) (defBody st) ws)
    (hw : ∀ ds M kd, F ds M kd → ds.length = ps.length ∧ ws (fin kd) (startD N ds) M) : DFn P w K mg base (k + 1) f fd ps F := by
  refine DG.fnG Fu S (fun vs H Q E h => ?_) (fun cdv A outer s H vs Q E hr h => ?_)
  · obtain ⟨Fr, H0, M, ds, kd, w, r, q, c⟩ := h
    rw [r.length]; exact (hw ds M kd q).1
  · obtain ⟨Fr, H0, M, ds, kd, w, r, q, c⟩ := h
    refine ⟨_, (hbody cdv A outer s H E hr).run.nox, ?_⟩
    refine ⟨startD N ds, Fr, H0, M, fin kd, slots_start r, w, (hw ds M kd q).2, ⟨fun σ' H0' H' Γ' M' e s w q => c .non H0' H' .non M' e w .non q, c, fun _ _ _ _ _ _ _ _ q => q.elim, fun _ _ _ _ _ _ _ _ q => q.elim⟩⟩
end
end DL

set_option autoImplicit false
set_option maxRecDepth 100000
set_option maxHeartbeats 2000000
namespace DL
open PySem L2
section
variable {X : CxZ} {K : KZ} {e a b : Expr} {es : List Expr}

/-! ### + - * // % ** -/
def rdAdd : D → D → Mem → KD → Prop := fun x y M k => match x, y with
  | .int i, .int j => k (.int (i + j)) M
  | .str s, .str t => s.length + t.length ≤ sizeLine ∧ k (.str (s ++ t)) M
  | .tup xs, .tup ys => xs.length + ys.length ≤ sizeLine ∧ k (.tup (xs ++ ys)) M
  | x, y => match asL M x, asL M y with
    | some xs, some ys => xs.length + ys.length ≤ sizeLine ∧ k (.lst (xs ++ ys)) M
    | _, _ => False
theorem dats_nil {H : Hp} {vs : List V} {ds : List D} (h : Dats K H vs ds) : vs = [] ↔ ds = [] := by
  cases h <;> simp
theorem op_addA : ∃ r, OpR X (binaryOp .Add) r ∧ OpD X.K r rdAdd := by
  refine ⟨_, op_add.or (op_add_str.or (op_catA.or op_cat)), fun Fr H0 M H x y vx vy k Q w rx ry h c => ?_⟩
  unfold rdAdd at h
  split at h
  · cases rx; cases ry; exact .inl ⟨_, _, rfl, rfl, c _ H0 H _ M (Same.refl _) w (.int _) h⟩
  · cases rx; cases ry; exact .inr (.inl ⟨_, _, rfl, rfl, h.1, c _ H0 H _ M (Same.refl _) w (.str _) h.2⟩)
  · cases rx with
    | tup hs hd =>
      cases ry with
      | tup hs2 hd2 =>
        rename_i a vs b ws
        refine .inr (.inr (.inl ⟨a, b, vs, ws, rfl, rfl, same_t w.ex hs, same_t w.ex hs2, by rw [hd.length, hd2.length]; exact h.1, fun e => ?_, fun e1 e2 => ?_, fun _ _ p hp => ?_⟩))
        · have : _ = [] := (dats_nil hd).mp e
          subst this
          exact c _ H0 H _ M (Same.refl _) w (.tup hs2 hd2) (by simpa using h.2)
        · have : _ = [] := (dats_nil hd2).mp e2
          subst this
          exact c _ H0 H _ M (Same.refl _) w (.tup hs hd) (by simpa using h.2)
        · exact c _ _ _ _ M (same_new (w.fresh hp)) (w.new hp) (.tup (.of upd_same) ((hd.append hd2).mono (same_new (w.fresh hp)))) h.2
  · split at h
    · rename_i xs ys e1 e2
      obtain ⟨a, vs, rfl, h1, d1⟩ := asL_ok w rx e1
      obtain ⟨b, ws, rfl, h2, d2⟩ := asL_ok w ry e2
      refine .inr (.inr (.inr ⟨a, b, vs, ws, rfl, rfl, h1, h2, by rw [d1.length, d2.length]; exact h.1, fun p hp => ?_⟩))
      exact c _ _ _ _ M (same_new (w.fresh hp)) (w.new hp) (.lst upd_same ((d1.append d2).mono (same_new (w.fresh hp)))) h.2
    · exact h.elim
theorem de_add {wa wb : WE} {pos : Pos} (ha : DE X a wa) (hb : DE X b wb) : DE X (.BinOp a .Add b pos) (wOp rdAdd wa wb) := by
  obtain ⟨r, h1, h2⟩ := op_addA (X := X)
  exact de_op h1 h2 ha hb
/-- two ints under a condition -/
def rdI (C : Int → Int → Prop) (g : Int → Int → D) : D → D → Mem → KD → Prop := fun x y M k => match x, y with | .int i, .int j => C i j ∧ k (g i j) M | _, _ => False
theorem opd_I {C : Int → Int → Prop} {g : Int → Int → V} {g' : Int → Int → D} (hg : ∀ i j H, Dat K H (g i j) (g' i j)) : OpD K (rI C g) (rdI C g') := fun Fr H0 M H x y vx vy k Q w rx ry h c => by
  unfold rdI at h
  split at h
  · cases rx; cases ry; exact ⟨_, _, rfl, rfl, h.1, c _ H0 H _ M (Same.refl _) w (hg _ _ _) h.2⟩
  · exact h.elim
def rdI0 (g : Int → Int → D) : D → D → Mem → KD → Prop := fun x y M k => match x, y with | .int i, .int j => k (g i j) M | _, _ => False
theorem opd_I0 {g : Int → Int → V} {g' : Int → Int → D} (hg : ∀ i j H, Dat K H (g i j) (g' i j)) : OpD K (rI0 g) (rdI0 g') := fun Fr H0 M H x y vx vy k Q w rx ry h c => by
  unfold rdI0 at h
  split at h
  · cases rx; cases ry; exact ⟨_, _, rfl, rfl, c _ H0 H _ M (Same.refl _) w (hg _ _ _) h⟩
  · exact h.elim
theorem de_sub {wa wb : WE} {pos : Pos} (ha : DE X a wa) (hb : DE X b wb) : DE X (.BinOp a .Sub b pos) (wOp (rdI0 fun i j => .int (i - j)) wa wb) := de_op op_sub (opd_I0 fun _ _ _ => .int _) ha hb
theorem de_mul {wa wb : WE} {pos : Pos} (ha : DE X a wa) (hb : DE X b wb) : DE X (.BinOp a .Mult b pos) (wOp (rdI CMul fun i j => .int (i * j)) wa wb) := de_op op_mul (opd_I fun _ _ _ => .int _) ha hb
/-- by a positive divisor below 2 ^ 30 -/
theorem de_div {wa wb : WE} {pos : Pos} (ha : DE X a wa) (hb : DE X b wb) : DE X (.BinOp a .FloorDiv b pos) (wOp (rdI CDiv fun i j => .int (i / j)) wa wb) := de_op op_fdiv (opd_I fun _ _ _ => .int _) ha hb
theorem de_mod {wa wb : WE} {pos : Pos} (ha : DE X a wa) (hb : DE X b wb) : DE X (.BinOp a .Mod b pos) (wOp (rdI (fun _ j => 0 < j) fun i j => .int (i % j)) wa wb) := de_op op_mod (opd_I fun _ _ _ => .int _) ha hb
theorem de_pow {wa wb : WE} {pos : Pos} (ha : DE X a wa) (hb : DE X b wb) : DE X (.BinOp a .Pow b pos) (wOp (rdI CPow fun i j => .int (i ^ j.toNat)) wa wb) := de_op op_pow (opd_I fun _ _ _ => .int _) ha hb
def rdU (g : Int → D) : D → Mem → KD → Prop := fun x M k => match x with | .int i => k (g i) M | _ => False
def wUn (rd : D → Mem → KD → Prop) (wa : WE) : WE := fun Γ M k => wa Γ M fun x M1 => rd x M1 k
theorem de_neg {wa : WE} {pos : Pos} (ha : DE X a wa) : DE X (.UnaryOp .USub a pos) (wUn (rdU fun i => .int (-i)) wa) :=
  de_of (pe_un un_neg ha.run) fun σ H Q Γ Fr H0 M k h1 h2 h3 h4 => ⟨Γ, Fr, H0, M, _, h1, h2, h3, fun v H1 H' d M' e1 w1 r1 q1 => by
    unfold rdU at q1
    split at q1
    · cases r1; exact ⟨_, rfl, h4 _ H1 H' _ M' e1 w1 (.int _) q1⟩
    · exact q1.elim⟩

/-! ### comparisons -/
def rdOrd (p : Int → Int → Bool) (q : Str → Str → Bool) : D → D → Mem → KD → Prop := fun x y M k => match x, y with
  | .int i, .int j => k (.bl (p i j)) M
  | .str i, .str j => k (.bl (q i j)) M
  | _, _ => False
theorem opd_ord {p : Int → Int → Bool} {q : Str → Str → Bool} {r r' : R2} (h : ∀ i j H (Q : VK), Q (.bl (p i j)) H → r (.int i) (.int j) H Q) (h' : ∀ i j H (Q : VK), Q (.bl (q i j)) H → r' (.str i) (.str j) H Q) : OpD K (fun x y H Q => r x y H Q ∨ r' x y H Q) (rdOrd p q) := fun Fr H0 M H x y vx vy k Q w rx ry z c => by
  unfold rdOrd at z
  split at z
  · cases rx; cases ry; exact .inl (h _ _ _ _ (c _ H0 H _ M (Same.refl _) w (.bl _) z))
  · cases rx; cases ry; exact .inr (h' _ _ _ _ (c _ H0 H _ M (Same.refl _) w (.bl _) z))
  · exact z.elim
abbrev rdLt := rdOrd (fun i j => decide (i < j)) (fun i j => decide (i.cps.toList < j.cps.toList))
abbrev rdLe := rdOrd (fun i j => decide (i ≤ j)) (fun i j => !decide (j.cps.toList < i.cps.toList))
theorem op_ltA : ∃ r, OpR X (compareOp .Lt) r ∧ OpD X.K r rdLt := ⟨_, op_lt.or op_lt_str, opd_ord (fun _ _ _ _ z => ⟨_, _, rfl, rfl, z⟩) fun _ _ _ _ z => ⟨_, _, rfl, rfl, z⟩⟩
theorem op_leA : ∃ r, OpR X (compareOp .LtE) r ∧ OpD X.K r rdLe := ⟨_, op_le.or op_le_str, opd_ord (fun _ _ _ _ z => ⟨_, _, rfl, rfl, z⟩) fun _ _ _ _ z => ⟨_, _, rfl, rfl, z⟩⟩
abbrev rdGt := rdOrd (fun i j => decide (j < i)) (fun i j => decide (j.cps.toList < i.cps.toList))
abbrev rdGe := rdOrd (fun i j => decide (j ≤ i)) (fun i j => !decide (i.cps.toList < j.cps.toList))
theorem op_gtA : ∃ r, OpR X (compareOp .Gt) r ∧ OpD X.K r rdGt := ⟨_, op_gt.or op_gt_str, opd_ord (fun _ _ _ _ z => ⟨_, _, rfl, rfl, z⟩) fun _ _ _ _ z => ⟨_, _, rfl, rfl, z⟩⟩
theorem op_geA : ∃ r, OpR X (compareOp .GtE) r ∧ OpD X.K r rdGe := ⟨_, op_ge.or op_ge_str, opd_ord (fun _ _ _ _ z => ⟨_, _, rfl, rfl, z⟩) fun _ _ _ _ z => ⟨_, _, rfl, rfl, z⟩⟩

mutual
/-- what == looks at -/
def toP (M : Mem) : D → Option PyData
  | .non => some .none
  | .bl b => some (.bool b)
  | .int i => some (.int i)
  | .str s => some (.str s)
  | .tup ds => match toPs M ds with | some ps => some (.tuple ps) | none => none
  | .lst ds => match toPs M ds with | some ps => some (.list ps) | none => none
  | _ => none
def toPs (M : Mem) : List D → Option (List PyData)
  | [] => some []
  | d :: ds => match toP M d, toPs M ds with | some p, some ps => some (p :: ps) | _, _ => none
end
/-- a cell at the outmost place -/
def toPC (M : Mem) : D → Option PyData
  | .cel a => match M a with | some (.lst ds) => (match toPs M ds with | some ps => some (.list ps) | none => none) | _ => none
  | d => toP M d
mutual
theorem toP_ok {Fr H0 H : Hp} {M : Mem} (w : Wd K Fr H0 M H) : ∀ (d : D) (v : V) (p : PyData), Dat K H0 v d → toP M d = some p → Dp K H v p
  | .non, _, _, .non, e => by cases e; exact .non
  | .bl _, _, _, .bl b, e => by cases e; exact .bl b
  | .int _, _, _, .int b, e => by cases e; exact .int b
  | .str _, _, _, .str b, e => by cases e; exact .str b
  | .tup ds, _, _, .tup hs hd, e => by
    unfold toP at e
    split at e
    · rename_i ps q; cases e; exact .tup (same_t w.ex hs) (toPs_ok w ds _ ps hd q)
    · cases e
  | .lst ds, _, _, .lst hs hd, e => by
    unfold toP at e
    split at e
    · rename_i ps q; cases e; exact .lst (.of (w.ex _ _ hs)) (toPs_ok w ds _ ps hd q)
    · cases e
  | .scr _, _, _, _, e => by cases e
  | .cel _, _, _, _, e => by cases e
  | .ty _, _, _, _, e => by cases e
  | .ftp _, _, _, _, e => by cases e
theorem toPs_ok {Fr H0 H : Hp} {M : Mem} (w : Wd K Fr H0 M H) : ∀ (ds : List D) (vs : List V) (ps : List PyData), Dats K H0 vs ds → toPs M ds = some ps → DpAll K H vs ps
  | [], _, _, .nil, e => by cases e; exact .nil
  | d :: ds, _, _, .cons h hs, e => by
    unfold toPs at e
    split at e
    · rename_i p ps q1 q2; cases e; exact .cons (toP_ok w d _ p h q1) (toPs_ok w ds _ ps hs q2)
    · cases e
end
theorem toPC_ok {Fr H0 H : Hp} {M : Mem} (w : Wd K Fr H0 M H) {d : D} {v : V} {p : PyData} (r : Dat K H0 v d) (e : toPC M d = some p) : Dp K H v p := by
  cases d with
  | cel a =>
    unfold toPC at e
    simp only at e
    split at e
    · rename_i ds q
      obtain ⟨a', vs, rfl, h1, h2⟩ := asL_ok (ds := ds) w r (by unfold asL; simp only [q])
      split at e
      · rename_i ps q2; cases e; exact .lst (.of h1) (toPs_ok w ds _ ps h2 q2)
      · cases e
    · cases e
  | _ => exact toP_ok w _ v p r e
def rdEqP (f : Bool → Bool) : D → D → Mem → KD → Prop := fun x y M k => match toPC M x, toPC M y with
  | some p, some q => SeqAt.shaped p = true ∧ SeqAt.shaped q = true ∧ k (.bl (f (PyData.eqv p q))) M
  | _, _ => False
def rdEq (f : Bool → Bool) : D → D → Mem → KD → Prop := fun x y M k => match x, y with
  | .str s, .str t => k (.bl (f (decide (s = t)))) M
  | x, y => rdEqP f x y M k
theorem str_dec {s t : Str} : decide (V.str s = V.str t) = decide (s = t) := by rw [decide_eq_decide]; simp
theorem opd_eqP : OpD K (rEqD K) (rdEqP id) := fun Fr H0 M H x y vx vy k Q w rx ry h c => by
  unfold rdEqP at h
  split at h
  · rename_i p q e1 e2
    exact ⟨p, q, toPC_ok w rx e1, toPC_ok w ry e2, h.1, h.2.1, c _ H0 H _ M (Same.refl _) w (.bl _) h.2.2⟩
  · exact h.elim
theorem opd_neP : OpD K (rNeD K) (rdEqP not) := fun Fr H0 M H x y vx vy k Q w rx ry h c => by
  unfold rdEqP at h
  split at h
  · rename_i p q e1 e2
    exact ⟨p, q, toPC_ok w rx e1, toPC_ok w ry e2, h.1, h.2.1, c _ H0 H _ M (Same.refl _) w (.bl _) h.2.2⟩
  · exact h.elim
theorem opd_eq : OpD K (fun x y H Q => rEq x y H Q ∨ rEqD K x y H Q) (rdEq id) := fun Fr H0 M H x y vx vy k Q w rx ry h c => by
  unfold rdEq at h
  split at h
  · cases rx; cases ry
    exact .inl ⟨rfl, by rw [str_dec]; exact c _ H0 H _ M (Same.refl _) w (.bl _) h⟩
  · exact .inr (opd_eqP Fr H0 M H _ _ _ _ k Q w rx ry h c)
theorem opd_ne : OpD K (fun x y H Q => rNe x y H Q ∨ rNeD K x y H Q) (rdEq not) := fun Fr H0 M H x y vx vy k Q w rx ry h c => by
  unfold rdEq at h
  split at h
  · cases rx; cases ry
    exact .inl ⟨rfl, by rw [str_dec]; exact c _ H0 H _ M (Same.refl _) w (.bl _) h⟩
  · exact .inr (opd_neP Fr H0 M H _ _ _ _ k Q w rx ry h c)
/-- is None, of types, of truths -/
def rdIs (f : Bool → Bool) : D → D → Mem → KD → Prop := fun x y M k => match x, y with
  | .ty m, .ty n => k (.bl (f (decide (m = n)))) M
  | .bl m, .bl n => k (.bl (f (decide (m = n)))) M
  | .non, .non => k (.bl (f true)) M
  | .bl _, .non => k (.bl (f false)) M
  | .int _, .non => k (.bl (f false)) M
  | .str _, .non => k (.bl (f false)) M
  | .tup _, .non => k (.bl (f false)) M
  | .lst _, .non => k (.bl (f false)) M
  | .cel _, .non => k (.bl (f false)) M
  | _, _ => False
theorem op_isA : ∃ r, OpR X (compareOp .Is) r ∧ OpD X.K r (rdIs id) := ⟨_, op_isTyB.or (op_isBl.or op_isN), fun Fr H0 M H x y vx vy k Q w rx ry h c => by
  unfold rdIs at h
  split at h
  · cases rx; cases ry; exact .inl ⟨_, _, rfl, rfl, c _ H0 H _ M (Same.refl _) w (.bl _) h⟩
  · cases rx; cases ry; exact .inr (.inl ⟨_, _, rfl, rfl, c _ H0 H _ M (Same.refl _) w (.bl _) h⟩)
  all_goals first
    | exact h.elim
    | (cases ry; cases rx <;> exact .inr (.inr ⟨rfl, c _ H0 H _ M (Same.refl _) w (.bl _) h⟩))⟩
theorem op_isnA : ∃ r, OpR X (compareOp .IsNot) r ∧ OpD X.K r (rdIs not) := ⟨_, op_notTyB.or (op_notBl.or op_notN), fun Fr H0 M H x y vx vy k Q w rx ry h c => by
  unfold rdIs at h
  split at h
  · cases rx; cases ry; exact .inl ⟨_, _, rfl, rfl, c _ H0 H _ M (Same.refl _) w (.bl _) h⟩
  · cases rx; cases ry; exact .inr (.inl ⟨_, _, rfl, rfl, c _ H0 H _ M (Same.refl _) w (.bl _) h⟩)
  all_goals first
    | exact h.elim
    | (cases ry; cases rx <;> exact .inr (.inr ⟨rfl, c _ H0 H _ M (Same.refl _) w (.bl _) h⟩))⟩
/-- in, of flat things -/
def flatD : D → Option V
  | .non => some .non
  | .bl b => some (.bl b)
  | .int i => some (.int i)
  | .str s => some (.str s)
  | _ => none
def flatsD : List D → Option (List V)
  | [] => some []
  | d :: ds => match flatD d, flatsD ds with | some v, some vs => some (v :: vs) | _, _ => none
theorem flatD_ok {H : Hp} {d : D} {v u : V} (r : Dat K H v d) (e : flatD d = some u) : v = u ∧ flatV u = true := by
  cases r <;> cases e <;> exact ⟨rfl, rfl⟩
theorem flatsD_ok {H : Hp} : ∀ {ds : List D} {vs us : List V}, Dats K H vs ds → flatsD ds = some us → vs = us ∧ us.all flatV = true
  | [], _, _, .nil, e => by cases e; exact ⟨rfl, rfl⟩
  | d :: ds, _, us, .cons h hs, e => by
    unfold flatsD at e
    split at e
    · rename_i v vs q1 q2
      cases e
      obtain ⟨rfl, f1⟩ := flatD_ok h q1
      obtain ⟨rfl, f2⟩ := flatsD_ok hs q2
      exact ⟨rfl, by rw [List.all_cons, f1, f2]; rfl⟩
    · cases e
def seqD (M : Mem) : D → Option (List D)
  | .tup ds => some ds
  | d => asR M d
def rdIn (f : Bool → Bool) : D → D → Mem → KD → Prop := fun x y M k => match seqD M y with
  | some ds => (match flatD x, flatsD ds with | some v, some vs => k (.bl (f (inV v vs))) M | _, _ => False)
  | none => False
theorem seqD_ok {Fr H0 H : Hp} {M : Mem} {v : V} {d : D} {ds : List D} (w : Wd K Fr H0 M H) (r : Dat K H0 v d) (h : seqD M d = some ds) : ∃ a vs, v = .ref a ∧ (SqL K H a vs ∨ SqT K H a vs) ∧ Dats K H0 vs ds := by
  cases d with
  | tup ds => cases h; cases r with | tup hs hd => exact ⟨_, _, rfl, .inr (same_t w.ex hs), hd⟩
  | _ => obtain ⟨a, vs, e, h1, h2⟩ := asR_ok (ds := ds) w r (by exact h); exact ⟨a, vs, e, .inl h1, h2⟩
theorem opd_in {f : Bool → Bool} {neg : Bool} (hf : ∀ c, f c = if neg then !c else c) : OpD K (rIn K neg) (rdIn f) := fun Fr H0 M H x y vx vy k Q w rx ry h c => by
  unfold rdIn at h
  split at h
  · rename_i ds e
    obtain ⟨a, vs, rfl, hs, hd⟩ := seqD_ok w ry e
    split at h
    · rename_i v vs' e1 e2
      obtain ⟨rfl, f1⟩ := flatD_ok rx e1
      obtain ⟨rfl, f2⟩ := flatsD_ok hd e2
      rw [hf] at h
      refine ⟨a, _, rfl, hs, f1, f2, ?_⟩
      cases neg
      · exact c _ H0 H _ M (Same.refl _) w (.bl _) h
      · exact c _ H0 H _ M (Same.refl _) w (.bl _) h
    · exact h.elim
  · exact h.elim

/-! ### subscripts -/
def rdIx : D → D → Mem → KD → Prop := fun x y M k => match y with
  | .int i => (match x with
    | .str z => z.length ≤ sizeLine ∧ (match atI z.cps.toList i with | some c => k (.str ⟨#[c]⟩) M | none => False)
    | x => match seqD M x with | some ds => (match atI ds i with | some d => k d M | none => False) | none => False)
  | _ => False
theorem atI_dats {H : Hp} {vs : List V} {ds : List D} {i : Int} {d : D} (h : Dats K H vs ds) (e : atI ds i = some d) : ∃ v, atI vs i = some v ∧ Dat K H v d := by
  unfold atI at e ⊢
  rw [h.length]
  cases q : ixN ds.length i with
  | none => rw [q] at e; cases e
  | some j =>
    rw [q] at e
    obtain ⟨v, h1, h2⟩ := h.get (i := j) e
    exact ⟨v, h1, h2⟩
theorem opd_ix : OpD K (rIx K) rdIx := fun Fr H0 M H x y vx vy k Q w rx ry h c => by
  unfold rdIx at h
  split at h
  · rename_i i
    cases ry
    split at h
    · rename_i z
      cases rx
      obtain ⟨hz, h⟩ := h
      split at h
      · rename_i c' e; exact .inr (.inr ⟨_, _, _, rfl, rfl, hz, e, c _ H0 H _ M (Same.refl _) w (.str _) h⟩)
      · exact h.elim
    · split at h
      · rename_i ds e
        obtain ⟨a, vs, rfl, hs, hd⟩ := seqD_ok w rx e
        split at h
        · rename_i d e2
          obtain ⟨v, h1, h2⟩ := atI_dats hd e2
          rcases hs with hs | hs
          · exact .inl ⟨a, vs, _, v, rfl, rfl, hs, h1, c _ H0 H _ M (Same.refl _) w h2 h⟩
          · exact .inr (.inl ⟨a, vs, _, v, rfl, rfl, hs, h1, c _ H0 H _ M (Same.refl _) w h2 h⟩)
        · exact h.elim
      · exact h.elim
  · exact h.elim
theorem de_ix {wa wb : WE} {pos : Pos} (ha : DE X a wa) (hb : DE X b wb) (hs : PlainIx b := by exact fun _ _ => rfl) : DE X (.Subscript a b pos) (wOp rdIx wa wb) :=
  de_of (pe_ix ix_seq ha.run hb.run hs) fun _ _ _ _ _ _ _ _ h1 h2 h3 h4 => lift_op opd_ix h1 h2 h3 h4
/-- d[k] -/
def keyD : D → Option Key
  | .int i => some (.inl i)
  | .str s => some (.inr s)
  | _ => none
def lookD (kvs : List (Key × D)) (k : Key) : Option D := (kvs.find? fun kv => decide (kv.1 = k)).map (·.2)
def rdGet : D → D → Mem → KD → Prop := fun x y M k => match x with
  | .cel a => (match M a with
    | some (.dct kvs) => (match keyD y with
      | some κ => (match lookD kvs κ with | some d => k d M | none => False)
      | none => False)
    | _ => False)
  | _ => False
theorem keyD_ok {H : Hp} {v : V} {d : D} {κ : Key} (r : Dat K H v d) (e : keyD d = some κ) : v = kV κ := by
  cases r <;> cases e <;> rfl
theorem look_ok {H : Hp} {κ : Key} : ∀ {kvs : List (Key × V)} {kds : List (Key × D)}, DKs K H kvs kds → (∀ d, lookD kds κ = some d → ∃ v, valV kvs κ = some v ∧ Dat K H v d) ∧ (lookD kds κ = none → valV kvs κ = none)
  | _, _, .nil => ⟨fun d e => (by simp [lookD] at e), fun _ => rfl⟩
  | _, _, .cons (a := p) (b := q) h t => by
    obtain ⟨i1, i2⟩ := look_ok (κ := κ) t
    by_cases e : q.1 = κ
    · have e' : p.1 = κ := h.1.trans e
      refine ⟨fun d z => ?_, fun z => ?_⟩
      · have this : ∀ l, lookD (q :: l) κ = some q.2 := fun l => by unfold lookD; rw [List.find?_cons]; simp [e]
        rw [this] at z; cases z
        exact ⟨p.2, valV_pos e', h.2⟩
      · have this : ∀ l, lookD (q :: l) κ = some q.2 := fun l => by unfold lookD; rw [List.find?_cons]; simp [e]
        rw [this] at z; cases z
    · have e' : ¬ p.1 = κ := fun z => e (h.1.symm.trans z)
      have : ∀ l, lookD (q :: l) κ = lookD l κ := fun l => by unfold lookD; rw [List.find?_cons]; simp [e]
      rw [this, valV_neg e']
      exact ⟨i1, i2⟩
def wGet (wa wb : WE) : WE := wOp rdGet wa wb
theorem de_get {wa wb : WE} {pos : Pos} (hu : X.A.units + 1 < cLine) (ha : DE X a wa) (hb : DE X b wb) (hs : NoSl b := by exact fun _ _ => rfl) : DE X (.Subscript a b pos) (wGet wa wb) :=
  de_of (pe_dget hu ha.run hb.run hs) fun σ H Q Γ Fr H0 M k h1 h2 h3 h4 => by
    refine ⟨Γ, Fr, H0, M, _, h1, h2, h3, fun v H1 H' d M' e1 w1 r1 q1 => ?_⟩
    refine ⟨Γ, Fr, H1, M', _, h1.mono e1, w1, q1, fun u H2 H'' d' M'' e2 w2 r2 q2 => ?_⟩
    unfold rdGet at q2
    split at q2
    · rename_i a
      split at q2
      · rename_i kvs e
        split at q2
        · rename_i κ ek
          split at q2
          · rename_i dd ed
            obtain ⟨_, o, ho, ck⟩ := w2.mem a _ e
            cases ck with
            | dct hk =>
              obtain ⟨v', h5, h6⟩ := (look_ok (κ := κ) hk).1 dd ed
              cases r1
              have := keyD_ok r2 ek
              subst this
              exact ⟨a, v', rfl, by rw [← h5]; exact .k ho, h4 v' H2 H'' dd M'' (e1.trans e2) w2 h6 q2⟩
          · exact q2.elim
        · exact q2.elim
      · exact q2.elim
    · exact q2.elim
/-- slices -/
abbrev WO := Env → Mem → (Option Int → Mem → Prop) → Prop
def liftO (K : KZ) (w : WO) : TO := fun σ H Q => ∃ Γ Fr H0 M k, Slots K H0 σ Γ ∧ Wd K Fr H0 M H ∧ w Γ M k ∧ ∀ o H0' H' M', Same H0 H0' → Wd K Fr H0' M' H' → k o M' → Q o H'
structure DO (X : CxZ) (e : Option Expr) (w : WO) : Prop where
  run : PO X e (liftO X.K w)
def woNone : WO := fun _ M k => k none M
def woSome (w : WE) : WO := fun Γ M k => w Γ M fun d M1 => match d with | .int i => k (some i) M1 | _ => False
theorem do_none : DO X none woNone := ⟨⟨fun pins s σ H Q I ⟨Γ, Fr, H0, M, k, h1, h2, h3, h4⟩ => po_none.run pins s σ H Q I (h4 none H0 H M (Same.refl _) h2 h3)⟩⟩
theorem do_some {w : WE} (h : DE X e w) : DO X (some e) (woSome w) := ⟨⟨fun pins s σ H Q I ⟨Γ, Fr, H0, M, k, h1, h2, h3, h4⟩ => (po_some h.run).run pins s σ H Q I ⟨Γ, Fr, H0, M, _, h1, h2, h3, fun v H1 H' d M' e1 w1 r1 q1 => by
  split at q1
  · cases r1; exact ⟨_, rfl, h4 _ H1 H' M' e1 w1 q1⟩
  · exact q1.elim⟩⟩⟩
def cutD {α : Type} (xs : List α) (lo hi : Option Int) : List α := (xs.drop (HT.sIx xs.length 0 lo)).take (HT.sIx xs.length xs.length hi - HT.sIx xs.length 0 lo)
theorem cut_dats {H : Hp} {vs : List V} {ds : List D} (h : Dats K H vs ds) (lo hi : Option Int) : Dats K H (cutV vs lo hi) (cutD ds lo hi) := by
  unfold cutV cutD; rw [h.length]; exact (h.drop _).take _
def rdSl : D → Option Int → Option Int → Mem → KD → Prop := fun x lo hi M k => match x with
  | .tup ds => k (.tup (cutD ds lo hi)) M
  | .str z => z.length ≤ sizeLine ∧ k (.str (cutS z lo hi)) M
  | x => match asR M x with | some ds => k (.lst (cutD ds lo hi)) M | none => False
def wSl (we : WE) (wl wh : WO) : WE := fun Γ M k => we Γ M fun x M1 => wl Γ M1 fun lo M2 => wh Γ M2 fun hi M3 => rdSl x lo hi M3 k
theorem cutD_whole {α : Type} {xs : List α} {lo hi : Option Int} (h : HT.sIx xs.length 0 lo = 0 ∧ HT.sIx xs.length xs.length hi = xs.length) : cutD xs lo hi = xs := by
  unfold cutD; rw [h.1, h.2]; simp
theorem de_slice {lo hi : Option Expr} {we : WE} {wl wh : WO} {pos p2 : Pos} (he : DE X e we) (hl : DO X lo wl) (hh : DO X hi wh) : DE X (.Subscript e (.Slice lo hi none p2) pos) (wSl we wl wh) :=
  de_of (pe_slice (sl_tupA.or (sl_str.or sl_list)) he.run hl.run hh.run) fun σ H Q Γ Fr H0 M k h1 h2 h3 h4 => by
    refine ⟨Γ, Fr, H0, M, _, h1, h2, h3, fun v H1 H' d M' e1 w1 r1 q1 => ?_⟩
    refine ⟨Γ, Fr, H1, M', _, h1.mono e1, w1, q1, fun l H2 H'' M'' e2 w2 q2 => ?_⟩
    refine ⟨Γ, Fr, H2, M'', _, h1.mono (e1.trans e2), w2, q2, fun u H3 H''' M3 e3 w3 q3 => ?_⟩
    have r3 := r1.mono (e2.trans e3)
    have c3 := h4.mono ((e1.trans e2).trans e3)
    unfold rdSl at q3
    split at q3
    · cases r3 with
      | tup hs hd =>
        rename_i a vs
        refine .inl ⟨a, vs, rfl, same_t w3.ex hs, fun hw => ?_, fun _ p hp => ?_⟩
        · rw [hd.length] at hw
          rw [cutD_whole hw] at q3
          exact c3 _ H3 H''' _ M3 (Same.refl _) w3 (.tup hs hd) q3
        · exact c3 _ _ _ _ M3 (same_new (w3.fresh hp)) (w3.new hp) (.tup (.of upd_same) ((cut_dats hd _ _).mono (same_new (w3.fresh hp)))) q3
    · cases r3; exact .inr (.inl ⟨_, rfl, q3.1, c3 _ H3 H''' _ M3 (Same.refl _) w3 (.str _) q3.2⟩)
    · split at q3
      · rename_i ds ed
        obtain ⟨a, vs, rfl, hs, hd⟩ := asR_ok w3 r3 ed
        exact .inr (.inr ⟨a, vs, rfl, hs, fun p hp => c3 _ _ _ _ M3 (same_new (w3.fresh hp)) (w3.new hp) (.lst upd_same ((cut_dats hd _ _).mono (same_new (w3.fresh hp)))) q3⟩)
      · exact q3.elim
/-! ### stores into a list -/
def rdSt (x y v : D) (M : Mem) (k : Mem → Prop) : Prop := match x, y with
  | .cel a, .int i => (match M a with
    | some (.lst ds) => (match ixN ds.length i with | some j => k (setM M a (.lst (ds.set j v))) | none => False)
    | _ => False)
  | _, _ => False
def wSub (wa wi wv : WE) : WS := fun k Γ M => wv Γ M fun v M1 => wa Γ M1 fun x M2 => wi Γ M2 fun y M3 => rdSt x y v M3 (k.nx Γ)
theorem ds_sub {o i v : Expr} {wa wi wv : WE} {pos' pos : Pos} (ho : DE X o wa) (hi : DE X i wi) (hv : DE X v wv)
    (ha : ∀ v, assign (.Subscript o i pos') X.env v = (do
      let ov ← holding [v] (eval o X.env)
      let iv ← holding [v, ov] (eval i X.env)
      standAt pos'
      holding [v, ov, iv] (setItem ov iv v)
      release [v, ov, iv] []) := by intro _; rfl) (hs : swapsWithSole [.Subscript o i pos'] v pos.line X.env = pure false := by rfl) (hw : swappedStores [.Subscript o i pos'] v X.env = pure none := by rfl)
    (h1 : (assignEach [.Subscript o i pos'] X.env).map (·.2) = [assign (.Subscript o i pos') X.env] := by rfl) : DS X (.Assign [.Subscript o i pos'] v pos) (wSub wa wi wv) :=
  ds_of (ps_asg hv.run (pg_sub ho.run hi.run set_list ha) hs hw h1) fun D σ H Γ Fr H0 M k h1 h2 h3 h4 => by
    refine ⟨Γ, Fr, H0, M, _, h1, h2, h3, fun v H1 H' d M' e1 w1 r1 q1 => ?_⟩
    refine ⟨Γ, Fr, H1, M', _, h1.mono e1, w1, q1, fun x H2 H'' dx M2 e2 w2 r2 q2 => ?_⟩
    refine ⟨Γ, Fr, H2, M2, _, h1.mono (e1.trans e2), w2, q2, fun y H3 H''' dy M3 e3 w3 r3 q3 => ?_⟩
    unfold rdSt at q3
    split at q3
    · rename_i a i
      split at q3
      · rename_i ds e
        split at q3
        · rename_i j ej
          obtain ⟨_, o, ho, ck⟩ := w3.mem a _ e
          cases ck with
          | lst hd =>
            cases r2; cases r3
            refine ⟨a, _, i, j, rfl, rfl, ho, by rw [hd.length]; exact ej, ?_⟩
            exact h4.nx σ H3 _ Γ _ ((e1.trans e2).trans e3) (h1.mono ((e1.trans e2).trans e3)) (w3.set e (.lst (hd.set (r1.mono (e2.trans e3)) j))) q3
        · exact q3.elim
      · exact q3.elim
    · exact q3.elim

/-! ### methods of lists -/
def MtD (K : KZ) (r : V → List V → Hp → VK → Prop) (rd : D → List D → Mem → KD → Prop) : Prop :=
  ∀ Fr H0 M H v d vs ds k Q, Wd K Fr H0 M H → Dat K H0 v d → Dats K H0 vs ds → rd d ds M k → Cont K Fr H0 k Q → r v vs H Q
def isCel (M : Mem) : D → Prop | .cel a => ∃ ds, M a = some (.lst ds) | _ => False
def wMt (rd : D → List D → Mem → KD → Prop) (wo : WE) (wa : WA) : WE := fun Γ M k => wo Γ M fun d M1 => isCel M1 d ∧ wa Γ M1 fun ds M2 => rd d ds M2 k
theorem de_mt {o : Expr} {name : Str} {id : String} {apos cpos : Pos} {wo : WE} {wa : WA} {r : V → List V → Hp → VK → Prop} {rd : D → List D → Mem → KD → Prop} (slot : Slot "list" name id) (hty : typeOf (.builtin id) = pure (.type "method_descriptor")) (hm : MtR X id r) (hd : MtD X.K r rd) (ho : DE X o wo) (ha : DA X (e :: es) wa)
    (hbase : attributeBase o name X.env (eval o X.env) = eval o X.env := by rfl)
    (hfew : ((backTo cpos (starEach (e :: es) X.env)).all (fun x => !x.1) && (backToKw cpos (keywordEach [] X.env)).all (fun x => x.1.isSome)
      && decide ((e :: es).length + ([] : List Keyword).length + (if ([] : List Keyword).isEmpty then 0 else 1) < 30)) = true := by rfl)
    (hline : (apos.endLine == cpos.line) = true := by rfl) (hs : starEach (e :: es) X.env = (false, eval e X.env) :: starEach es X.env := by rfl) (hplain : (backTo cpos (starEach es X.env)).any (·.1) = false := by rfl) :
    DE X (.Call (.Attribute o name apos) (e :: es) [] cpos) (wMt rd wo wa) :=
  de_of (pe_bm PySem.F.plainAttrs_list slot hty hm ho.run ha.run hbase hfew hline hs hplain) fun σ H Q Γ Fr H0 M k h1 h2 h3 h4 => by
    refine ⟨Γ, Fr, H0, M, _, h1, h2, h3, fun v H1 H' d M' e1 w1 r1 q1 => ?_⟩
    obtain ⟨qc, q1⟩ := q1
    refine ⟨?_, Γ, Fr, H1, M', _, h1.mono e1, w1, q1, fun vs H2 H'' ds M2 e2 w2 r2 q2 => hd Fr H2 M2 H'' v d vs ds k Q w2 (r1.mono e2) r2 q2 (h4.mono (e1.trans e2))⟩
    cases d with
    | cel a =>
      obtain ⟨ds, hc⟩ := qc
      obtain ⟨a', vs, e3, e4, e5⟩ := asL_ok (ds := ds) w1 r1 (by unfold asL; simp only [hc])
      subst e3
      exact .inl ⟨rfl, _, .of e4⟩
    | _ => exact qc.elim
def rdAppend : D → List D → Mem → KD → Prop := fun x ds M k => match x, ds with
  | .cel a, [y] => (match M a with | some (.lst xs) => xs.length < sizeLine ∧ k .non (setM M a (.lst (xs ++ [y]))) | _ => False)
  | _, _ => False
theorem mtd_append : MtD K rAppend rdAppend := fun Fr H0 M H v d vs ds k Q w r rs h c => by
  cases d with
  | cel a =>
    match ds, rs, h with
    | [y], rs, h =>
      simp only [rdAppend] at h
      split at h
      · rename_i xs e
        obtain ⟨u, rfl, ru⟩ := dats1 rs
        obtain ⟨_, o, ho, ck⟩ := w.mem a _ e
        cases ck with
        | lst hd => cases r; exact ⟨a, _, u, rfl, rfl, ho, by rw [hd.length]; exact h.1, c _ H0 _ _ _ (Same.refl _) (w.set e (.lst (hd.append (.one ru)))) .non h.2⟩
      · exact h.elim
  | _ => exact h.elim
theorem de_append {o : Expr} {apos cpos : Pos} {wo we : WE} (ho : DE X o wo) (he : DE X e we)
    (hs : starEach [e] X.env = [(false, eval e X.env)] := by rfl)
    (hbase : attributeBase o "append" X.env (eval o X.env) = eval o X.env := by rfl)
    (hfew : ((backTo cpos (starEach [e] X.env)).all (fun x => !x.1) && (backToKw cpos (keywordEach [] X.env)).all (fun x => x.1.isSome)
      && decide ([e].length + ([] : List Keyword).length + (if ([] : List Keyword).isEmpty then 0 else 1) < 30)) = true := by rfl)
    (hline : (apos.endLine == cpos.line) = true := by rfl) (hplain : (backTo cpos (starEach [] X.env)).any (·.1) = false := by rfl) : DE X (.Call (.Attribute o "append" apos) [e] [] cpos) (wMt rdAppend wo (wCons we wNil)) :=
  de_mt PySem.F.slot_list_append PySem.F.type_list_append mt_append mtd_append ho (da_cons he da_nil hs) hbase hfew hline hs hplain
def rdPop : D → List D → Mem → KD → Prop := fun x ds M k => match x, ds with
  | .cel a, [] => (match M a with | some (.lst xs) => (match xs[xs.length - 1]? with | some y => k y (setM M a (.lst xs.dropLast)) | none => False) | _ => False)
  | _, _ => False
def rdPopAt : D → List D → Mem → KD → Prop := fun x ds M k => match x, ds with
  | .cel a, [.int i] => (match M a with
    | some (.lst xs) => (-(2 ^ 63) ≤ i ∧ i < 2 ^ 63) ∧ (match seqIndex? i xs.length with
      | some j => (match xs[j]? with | some y => k y (setM M a (.lst (xs.eraseIdx j))) | none => False)
      | none => False)
    | _ => False)
  | _, _ => False
/-- sep.join(texts) -/
def strsD : List D → Option (List Str)
  | [] => some []
  | .str s :: ds => match strsD ds with | some l => some (s :: l) | none => none
  | _ => none
theorem strsD_ok {H : Hp} : ∀ {ds : List D} {vs : List V} {l : List Str}, Dats K H vs ds → strsD ds = some l → vs = l.map V.str
  | [], _, _, .nil, e => by cases e; rfl
  | .str s :: ds, _, _, .cons h hs, e => by
    unfold strsD at e
    split at e
    · rename_i l q; cases e; cases h; rw [strsD_ok hs q]; rfl
    · cases e
  | .non :: _, _, _, _, e => by cases e
  | .bl _ :: _, _, _, _, e => by cases e
  | .int _ :: _, _, _, _, e => by cases e
  | .tup _ :: _, _, _, _, e => by cases e
  | .lst _ :: _, _, _, _, e => by cases e
  | .scr _ :: _, _, _, _, e => by cases e
  | .cel _ :: _, _, _, _, e => by cases e
  | .ty _ :: _, _, _, _, e => by cases e
  | .ftp _ :: _, _, _, _, e => by cases e
def wJoin (wo we : WE) : WE := fun Γ M k => wo Γ M fun x M1 => match x with
  | .str a => we Γ M1 fun y M2 => (match seqD M2 y with
    | some ds => (match strsD ds with | some l => (l.map (·.length)).sum + l.length * a.length ≤ 16777216 ∧ k (.str (Txt.join a l)) M2 | none => False)
    | none => False)
  | _ => False
/-! ### built-ins -/
def rdLen : FD := fun ds M k => match ds with
  | [.str z] => z.length ≤ sizeLine ∧ k (.int z.length) M
  | [x] => (match seqD M x with | some xs => k (.int xs.length) M | none => False)
  | _ => False
theorem calld_len : CallD K (fun xs H Q => (∃ z, xs = [V.str z] ∧ z.length ≤ sizeLine ∧ Q (.int z.length) H) ∨ ∃ p ys, xs = [V.ref p] ∧ (SqL K H p ys ∨ SqT K H p ys) ∧ Q (.int ys.length) H) rdLen := fun Fr H0 M H vs ds k Q w r h c => by
  unfold rdLen at h
  split at h
  · obtain ⟨v, rfl, rv⟩ := dats1 r
    cases rv
    exact .inl ⟨_, rfl, h.1, c _ H0 H _ M (Same.refl _) w (.int _) h.2⟩
  · obtain ⟨v, rfl, rv⟩ := dats1 r
    split at h
    · rename_i xs e
      obtain ⟨a, ws, rfl, hs, hd⟩ := seqD_ok w rv e
      exact .inr ⟨a, ws, rfl, hs, by rw [hd.length]; exact c _ H0 H _ M (Same.refl _) w (.int _) h⟩
    · exact h.elim
  · exact h.elim
theorem de_len {we : WE} {p pos : Pos} (hm : X.mg "len" = none) (he : DE X e we) (hs : starEach [e] X.env = (false, eval e X.env) :: starEach [] X.env := by rfl) (hg : Gl X "len" := by rfl) (hpl : (backTo pos (starEach [] X.env)).any (·.1) = false := by rfl) : DE X (.Call (.Name "len" p) [e] [] pos) (wCall rdLen (wCons we wNil)) :=
  de_callB (call_len_str.or call_len_seq) calld_len hm PySem.boot_len (da_cons he da_nil hs) hg (by decide) (by decide) hs hpl
/-- type(x) -/
def tyD (M : Mem) : D → Option String
  | .non => some "NoneType"
  | .bl _ => some "bool"
  | .int _ => some "int"
  | .str _ => some "str"
  | .tup _ => some "tuple"
  | .lst _ => some "list"
  | .scr _ => some "list"
  | .cel a => (match M a with | some (.lst _) => some "list" | some (.dct _) => some "dict" | _ => none)
  | .ty _ => none
  | .ftp _ => none
theorem tyB_ok {Fr H0 H : Hp} {M : Mem} {v : V} {d : D} {T : String} (w : Wd K Fr H0 M H) (r : Dat K H0 v d) (e : tyD M d = some T) : TyB K H v T := by
  cases r with
  | cel a =>
    unfold tyD at e
    simp only at e
    split at e
    · rename_i ds q
      cases e
      obtain ⟨_, o, ho, ck⟩ := w.mem a _ q
      cases ck with | lst hd => exact .lst (.of ho)
    · rename_i kvs q
      cases e
      obtain ⟨_, o, ho, ck⟩ := w.mem a _ q
      cases ck with | dct hd => exact .dK ho
    · cases e
  | non => cases e; exact .non
  | bl b => cases e; exact .bl b
  | int b => cases e; exact .int b
  | str b => cases e; exact .str b
  | tup hs hd => cases e; exact .tup (same_t w.ex hs)
  | lst hs hd => cases e; exact .lst (.of (w.ex _ _ hs))
  | scr hs hd => cases e; exact .lst (same_l w.ex hs)
  | ty n => cases e
  | ftp _ _ _ => cases e
def rdType : FD := fun ds M k => match ds with | [x] => (match tyD M x with | some T => k (.ty T) M | none => False) | _ => False
theorem calld_type : CallD K (rTyp K) rdType := fun Fr H0 M H vs ds k Q w r h c => by
  unfold rdType at h
  split at h
  · obtain ⟨v, rfl, rv⟩ := dats1 r
    split at h
    · rename_i T e
      exact ⟨v, T, rfl, tyB_ok w rv e, c _ H0 H _ M (Same.refl _) w (.ty T) h⟩
    · exact h.elim
  · exact h.elim
theorem de_type {we : WE} {p pos : Pos} (hm : X.mg "type" = none) (he : DE X e we) (hs : starEach [e] X.env = (false, eval e X.env) :: starEach [] X.env := by rfl) (hg : Gl X "type" := by rfl) (hpl : (backTo pos (starEach [] X.env)).any (·.1) = false := by rfl) : DE X (.Call (.Name "type" p) [e] [] pos) (wCall rdType (wCons we wNil)) :=
  de_callTy call_type1 calld_type hm PyProof.Rows.boot_type (da_cons he da_nil hs) hg (by decide) (by decide) hs hpl
/-- isinstance(x, T), T a built-in class -/
def isiB (a b : String) : Bool := a == b || (a == "bool" && b == "int")
end
end DL

set_option autoImplicit false
set_option maxRecDepth 100000
namespace DL
open PySem PySem.Spec PyProof.Rows L2
open Sem (wp)
set_option maxHeartbeats 2000000
theorem enum_new1 {v : Value} {o : Obj} {C : Heap → Prop} (B : Begins v o C) :
    Meets (Builtin.«enumerate.__new__» ⟨[.type "enumerate", v], []⟩) (fun _ R s => C s.heap ∧
      R (.ok (.ret (.ref (s.heap.push o).objs.size)))
        { s with heap := (s.heap.push o).push { cls := .type "enumerate", data := .fields #[.none, .bool false, .ref s.heap.objs.size, rawInt 0, .none, .none] } }) :=
  .of_wp fun prog w A R s h => by
    obtain ⟨hp, g, d, tk, os⟩ := s
    obtain ⟨h1, h⟩ := h
    have hsub := sub_enumerate
    have q1 : ∀ {A' : Around} {E : Value → Shared → Prop} {Q : Value → Shared → Prop}, Q (.ref hp.objs.size) ⟨hp.push o, g, d, tk, os⟩ →
        wpAny (model prog w) A' (pyIter v) Q E ⟨hp, g, d, tk, os⟩ := fun q => B.iter prog w _ _ ⟨hp, g, d, tk, os⟩ _ h1 q
    wp_walk using q1
    refine wpAny_stack_any fun st => wpAny_pure ?_
    split
    · rename_i c _ _ _ _ _
      cases (c == Value.type "enumerate") <;> (wp_walk using q1; exact ⟨_, rfl, h⟩)
    · (wp_walk using q1; exact ⟨_, rfl, h⟩)
section
variable {prog : Program} {w : World} {A : Around} {E : Value → Shared → Prop} {s : Shared}
theorem enum_of {v : Value} {o : Obj} {C : Heap → Prop} {Q : Value → Shared → Prop} (B : Begins v o C) (h1 : C s.heap)
    (h : ∀ h', IsEnum h' (s.heap.objs.size + 1) s.heap.objs.size 0 .none → h'.get? s.heap.objs.size = some o → h'.objs.size = s.heap.objs.size + 2 →
      (∀ b u, s.heap.get? b = some u → h'.get? b = some u) → Q (.ref (s.heap.objs.size + 1)) { s with heap := h' }) :
    wpAny (model prog w) A (call (.type "enumerate") [v]) Q E s := by
  refine callType_new F.called_enumerate (by decide) (F.typeCall_enumerate_1 _) (F.newCall_enumerate_1 _) (fun ob => F.args_object_init_2 ob _) F.entry_enumerate_new (enum_new1 B) ⟨h1, ?_⟩
  have hz : (s.heap.push o).objs.size = s.heap.objs.size + 1 := Heap.size_push ..
  show _ ∧ _
  rw [hz]
  have he : IsEnum ((s.heap.push o).push { cls := .type "enumerate", data := .fields #[.none, .bool false, .ref s.heap.objs.size, rawInt 0, .none, .none] }) (s.heap.objs.size + 1) s.heap.objs.size 0 .none := by
    have q := Heap.get?_push_size (s.heap.push o) (o := { cls := .type "enumerate", data := .fields #[.none, .bool false, .ref s.heap.objs.size, rawInt 0, .none, .none] }) rfl
    rw [hz] at q
    exact q
  exact ⟨⟨_, he, rfl⟩, h _ he (Heap.get?_push_of_some _ (Heap.get?_push_size _ B.free)) (by rw [Heap.size_push, hz]) fun b u x => Heap.get?_push_of_some _ (Heap.get?_push_of_some _ x)⟩
end
/-- the items of the tuple at a, each in a new pair with its place -/
def ItE (K : PySem.W.Frag) (a : Addr) : It where
  go := fun i H => ∃ (xs : List V) (x : V), SqT K H a xs ∧ xs[i]? = some x
  yld := fun i H v H' => ∃ T x, v = V.ref T ∧ H T = none ∧ H' = upd H T (.tup [.int (i : Nat), x]) ∧ ∀ xs, SqT K H a xs → xs[i]? = some x
  stop := fun i H => ∃ xs : List V, SqT K H a xs ∧ xs.length = i
theorem turnE {P : Program} {w : World} {K : PySem.W.Frag} {elts : List Expr} {kk : Nat} {tpos : Pos} (a e it : Addr) :
    Turn P w K (.Tuple elts kk tpos) (ItE K a) [e, it] e (fun i h => (∃ old, IsEnum h e it ((i : Nat) : Int) old) ∧ h.IsTupleIter it a i ∧ e ≠ it ∧ a ≠ it ∧ a ≠ e) where
  mem := List.mem_cons_self
  obj := fun i h st b hb => by
    obtain ⟨⟨old, he⟩, ⟨o, ho, hc, hd⟩, _⟩ := st
    rcases (by simpa using hb : b = e ∨ b = it) with z | z
    · subst z; exact ⟨_, he, fun v q => nomatch q⟩
    · subst z; exact ⟨o, ho, fun v q => (by rw [hd] at q; cases q)⟩
  keep := fun i h h' ⟨⟨old, he⟩, hi, hne⟩ k => ⟨⟨old, k e List.mem_cons_self _ he⟩, hi.at fun o q => k it (by simp) o q, hne⟩
  item := by
    intro X hP hw hK hc i pins s σ H E I hf st hg
    subst hP hw hK
    obtain ⟨⟨old, he⟩, hit, hne, ha1, ha2⟩ := st
    obtain ⟨xs, x, hq, hx⟩ := hg
    obtain ⟨its, rv, p, hz⟩ := I.tuple hq
    have hl := rv.length
    have hi : i < its.toArray.size := by
      have q := (List.getElem?_eq_some_iff.mp hx).1
      rw [List.size_toArray]; omega
    have hel : e < s.heap.objs.size := Heap.lt_size he
    have hil : it < s.heap.objs.size := (by obtain ⟨_, q, _⟩ := hit; exact Heap.lt_size q)
    have D := Draws.tuple (prog := X.prog) (w := X.w) (A := X.A.in1) (I.ok.hd hc) it a ha1 its.toArray
    refine wpAny_pyNext_enum_itemD D he ⟨hit, (show s.heap.IsTuple a its.toArray from p)⟩ hi hne (by simp [hne]; exact fun z => ha2 z.symm) fun u h' tk hu ho hit' hT hsz hk => ?_
    have ru : RelV x u := by
      obtain ⟨u', q1, q2⟩ := rv.get hx
      have q3 : its[i]? = some u := by simpa using hu
      rw [q1] at q3; cases q3; exact q2
    refine ⟨_, rfl, wpAny_letOwnedTupleGo_enum (s := { s with heap := h', toks := tk + 1 }) ho fun h'' he' sb => ?_⟩
    have hT2 : h''.get? s.heap.objs.size = some { cls := .type "tuple", data := .seq #[.int i tk, u] } := (sb.2 _ (Nat.ne_of_gt hel)).trans hT
    have new : ObjOk X.prog X.w (upd H s.heap.objs.size (.tup [.int (i : Nat), x])) h'' s.heap.objs.size (.tup [.int (i : Nat), x]) :=
      ⟨(by show 2 ≤ sizeLine; decide), [.int i tk, u], .cons ⟨_, rfl⟩ (.cons ru .nil), ⟨_, hT2, rfl, _, rfl⟩⟩
    have I1 : Inv X pins σ (upd H s.heap.objs.size (.tup [.int (i : Nat), x])) { s with heap := h'', toks := tk + 1 } :=
      I.turnedNew (t' := tk + 1) (ch := [e, it]) (fun b ob hb q => (sb.2 b (fun z => hb (by simp [z]))).trans (hk b ob (fun z => hb (by simp [z])) (fun z => hb (by simp [z])) q)) hf (Nat.le_refl _) new
    refine ⟨.ref s.heap.objs.size, _, I1, rfl, ⟨_, x, rfl, I.hok.fresh (Nat.le_refl _), rfl, fun ys hy => (by rw [I.tuple_inj hy hq]; exact hx)⟩, ⟨⟨u, ?_⟩, hit'.1.at fun o q => (sb.2 it (Ne.symm hne)).trans q, hne, ha1, ha2⟩, fun b hb => ?_⟩
    · have e1 : ((i + 1 : Nat) : Int) = (i : Int) + 1 := by omega
      rw [e1]; exact he'
    · have hb' : b < s.heap.objs.size := by
        rcases (by simpa using hb : b = e ∨ b = it) with z | z
        · rw [z]; exact hel
        · rw [z]; exact hil
      rw [upd_ne (Nat.ne_of_lt hb')]
      exact (hf b hb).1
  done := by
    intro X hP hw hK hc i pins s σ H E I hf st hg
    subst hP hw hK
    obtain ⟨⟨old, he⟩, hit, hne, ha1, ha2⟩ := st
    obtain ⟨xs, hq, hx⟩ := hg
    obtain ⟨its, rv, p, hz⟩ := I.tuple hq
    obtain ⟨f0, f1, f2, f3, f4, f5⟩ := hf it (by simp)
    have hl := rv.length
    have hn : its.toArray.size = i := (by rw [List.size_toArray]; omega)
    have D := Draws.tuple (prog := X.prog) (w := X.w) (A := X.A.in1) (I.ok.hd hc) it a ha1 its.toArray
    exact wpAny_pyNext_enum_endD D he ⟨(by rw [hn]; exact hit), (show s.heap.IsTuple a its.toArray from p)⟩ fun h' eb => ⟨rfl, I.turned (t' := s.toks) (fun b o hb q => eb b o hb q) f0 f1 f3 f4 f5⟩
  self := fun A i s Q E ⟨⟨_, he⟩, _⟩ h => wpAny_pyIter_enum he h
def iEnumT (K : PySem.W.Frag) (ta : TA) : TI := fun σ H R => ta σ H fun vs H1 => ∃ a xs, vs = [.ref a] ∧ SqT K H1 a xs ∧ R (ItE K a) H1
theorem pi_enumT {X : CxZ} {e : Expr} {ta : TA} {p pos tpos : Pos} {elts : List Expr} {kk : Nat} (hg : Gl X "enumerate") (hm : X.mg "enumerate" = none) (ha : PA X [e] ta) (hs : starEach [e] X.env = [(false, eval e X.env)]) :
    PI X (.Tuple elts kk tpos) (.Call (.Name "enumerate" p) [e] [] pos) (iEnumT X.K ta) := by
  refine ⟨fun pins s σ H R I h => Call_ (ld_blt I hg hm boot_enumerate (PyProof.Rows.callWith_type1 (thn (ha.run pos pins s σ H _ I h) fun us s1 ⟨vs, H1, I1, r1, q1⟩ => ?_) hs rfl))⟩
  obtain ⟨a, xs, rfl, hq, q⟩ := q1
  obtain ⟨u, rfl, ru⟩ := vals1 r1
  cases ru
  obtain ⟨its, rv, p', hz⟩ := I1.tuple hq
  have pt : s1.heap.IsTuple a its.toArray := p'
  have al : a < s1.heap.objs.size := p'.lt
  refine enum_of (begins_tuple a its.toArray) pt fun h' he hit hsz hk => wpAny_pyIter_enum he ?_
  refine ⟨s1.heap.objs.size + 1, [s1.heap.objs.size + 1, s1.heap.objs.size], _, _, H1, rfl, I1.kept (t' := s1.toks) hk, turnE a _ _, ⟨⟨.none, he⟩, ⟨_, hit, rfl, rfl⟩, Nat.succ_ne_self _, Nat.ne_of_lt al, Nat.ne_of_lt (Nat.lt_succ_of_lt al)⟩, fun b hb => ?_, q⟩
  have hle : s1.heap.objs.size ≤ b := (by
    rcases (by simpa using hb : b = s1.heap.objs.size + 1 ∨ b = s1.heap.objs.size) with z | z <;> (rw [z]; first | exact Nat.le_refl _ | exact Nat.le_succ _))
  exact I1.fpOk hle (I1.hok.fresh hle)
/-- D-level: enumerate of a tuple or a list -/
def pairsFrom (ds : List D) : List D := ds.zipIdx.map fun (d, i) => .tup [.int (i : Nat), d]
theorem pairsFrom_get {ds : List D} {i : Nat} {d : D} (h : (pairsFrom ds)[i]? = some d) : ∃ x, ds[i]? = some x ∧ d = .tup [.int (i : Nat), x] := by
  unfold pairsFrom at h
  rw [List.getElem?_map, List.getElem?_zipIdx] at h
  cases q : ds[i]? with
  | none => rw [q] at h; cases h
  | some x => rw [q] at h; cases h; exact ⟨x, rfl, by simp⟩
theorem pairsFrom_len (ds : List D) : (pairsFrom ds).length = ds.length := by simp [pairsFrom]
def wiEnT (wa : WA) : WI := fun Γ M k => wa Γ M fun ds M1 => match ds with | [.tup ds] => k (pairsFrom ds) gAny M1 | _ => False
def wiEnL (wa : WA) : WI := fun Γ M k => wa Γ M fun ds M1 => match ds with | [d] => (match asR M1 d with | some ds => k (pairsFrom ds) (gAt d ds) M1 | none => False) | _ => False
theorem new_pair {K : KZ} {Fr H0 H : Hp} {M : Mem} {T : Addr} {x y : V} {c d : D} (w : Wd K Fr H0 M H) (h : H T = none) (rx : Dat K H0 x c) (ry : Dat K H0 y d) :
    ∃ H1, Same H0 H1 ∧ Wd K Fr H1 M (upd H T (.tup [x, y])) ∧ Dat K H1 (.ref T) (.tup [c, d]) :=
  ⟨_, same_new (w.fresh h), w.new h, .tup (.of upd_same) (.cons (rx.mono (same_new (w.fresh h))) (.cons (ry.mono (same_new (w.fresh h))) .nil))⟩
theorem walks_enT {K : KZ} {H0 : Hp} {a : Addr} {vs : List V} {ds : List D} (hs : SqT K H0 a vs) (hd : Dats K H0 vs ds) : Walks K (ItE K a) H0 (pairsFrom ds) gAny := fun Fr H0' M H e w g => by
  have hs' := same_t (e.trans w.ex) hs
  have hl : vs.length = (pairsFrom ds).length := by rw [pairsFrom_len, hd.length]
  refine ⟨fun i hi => ?_, ⟨vs, hs', hl⟩, fun i x H' d hd' y => ?_⟩
  · have h2 : i < vs.length := by omega
    exact ⟨vs, vs[i], hs', by simp [h2]⟩
  · obtain ⟨T, v, rfl, hT, rfl, hy⟩ := y
    obtain ⟨d', e2, rfl⟩ := pairsFrom_get hd'
    obtain ⟨v', e3, r3⟩ := hd.get e2
    have e4 := hy vs hs'
    rw [e3] at e4; cases e4
    exact new_pair w hT (.int _) (r3.mono e)
section
variable {X : CxZ} {e e2 : Expr} {wa : WA} {p pos tpos : Pos} {elts : List Expr} {kk : Nat}
theorem di_enumT (hm : X.mg "enumerate" = none) (ha : DA X [e] wa) (hg : Gl X "enumerate" := by rfl) (hs : starEach [e] X.env = [(false, eval e X.env)] := by rfl) :
    DI X (.Tuple elts kk tpos) (.Call (.Name "enumerate" p) [e] [] pos) (wiEnT wa) :=
  ⟨_, pi_enumT hg hm ha.run hs, fun σ H Γ Fr H0 M k R h1 h2 h3 h4 => ⟨Γ, Fr, H0, M, _, h1, h2, h3, fun vs H1 H' ds M' e1 w1 r1 q1 => by
    split at q1
    · obtain ⟨v, rfl, rv⟩ := dats1 r1
      cases rv with
      | tup hs hd => exact ⟨_, _, rfl, same_t w1.ex hs, h4 _ _ _ H' H1 M' e1 w1 q1 (walks_enT hs hd)⟩
    · exact q1.elim⟩⟩
/-- zip of two tuples, of two lists -/
def zipD (xs ys : List D) : List D := List.zipWith (fun x y => .tup [x, y]) xs ys
def wiZip (wa : WA) : WI := fun Γ M k => wa Γ M fun ds M1 => match ds with
  | [.tup xs, .tup ys] => k (zipD xs ys) gAny M1
  | [x, y] => (match asR M1 x, asR M1 y with | some xs, some ys => k (zipD xs ys) (fun M => gAt x xs M ∧ gAt y ys M) M1 | _, _ => False)
  | _ => False
end
end DL

set_option autoImplicit false
set_option maxRecDepth 100000
namespace DL
open PySem PySem.Spec PyProof.Rows L2
set_option maxHeartbeats 2000000
/-! ### more built-ins -/
def rdIsiA : FD := fun ds M k => match ds with
    | [x, .ty T] => (match tyD M x with | some S => (["bool", "int", "str", "tuple"].contains T = true ∧ (∀ l, x ≠ .scr l) ∧ k (.bl (isiB S T)) M) | none => False)
    | _ => False
theorem calld_isi {K : KZ} : CallD K (rIsi K) rdIsiA := fun Fr H0 M H vs ds k Q w r h c => by
  unfold rdIsiA at h
  split at h
  · obtain ⟨v, u, rfl, rv, ru⟩ := dats2 r
    cases ru
    split at h
    · rename_i T _ S e
      obtain ⟨hT, hx, h⟩ := h
      have kb : ∀ S ∈ ["NoneType", "bool", "int", "str", "tuple", "list", "dict"], ∀ T ∈ ["bool", "int", "str", "tuple"], kitB S T = some (isiB S T) := by decide +kernel
      have hS : S ∈ ["NoneType", "bool", "int", "str", "tuple", "list", "dict"] ∧ TyX K H v (.type S) := by
        cases rv with
        | non => cases e; exact ⟨by decide, .base .non⟩
        | bl b => cases e; exact ⟨by decide, .base (.bl b)⟩
        | int b => cases e; exact ⟨by decide, .base (.int b)⟩
        | str b => cases e; exact ⟨by decide, .base (.str b)⟩
        | tup hs hd =>
          cases e
          refine ⟨by decide, ?_⟩
          rcases hs with (hs | ⟨o, hs⟩) | ⟨o, its, n, h1, h2, _⟩
          · exact .base (.tup (w.ex _ _ hs))
          · exact .fTuple (w.ex _ _ hs)
          · exact .kTuple h1 h2
        | lst hs hd => cases e; exact ⟨by decide, .base (.lst (w.ex _ _ hs))⟩
        | scr hs hd => exact absurd rfl (hx _)
        | cel a =>
          unfold tyD at e
          simp only at e
          split at e
          · rename_i ds q
            cases e
            obtain ⟨_, o, ho, ck⟩ := w.mem a _ q
            cases ck with | lst hd => exact ⟨by decide, .base (.lst ho)⟩
          · rename_i kvs q
            cases e
            obtain ⟨_, o, ho, ck⟩ := w.mem a _ q
            cases ck with | dct hd => exact ⟨by decide, .base (.dK ho)⟩
          · cases e
        | ty n => cases e
        | ftp _ _ _ => cases e
      refine ⟨v, .ty T, .type S, .type T, isiB S T, rfl, .ty T, hS.2, kit_ty (kb S hS.1 T (by simpa using hT)), c _ H0 H _ M (Same.refl _) w (.bl _) h⟩
    · exact h.elim
  · exact h.elim
theorem de_isi {X : CxZ} {a b : Expr} {wa wb : WE} {p pos : Pos} (hm : X.mg "isinstance" = none) (ha : DE X a wa) (hb : DE X b wb) (hs : starEach [a, b] X.env = (false, eval a X.env) :: starEach [b] X.env := by rfl) (hs2 : starEach [b] X.env = (false, eval b X.env) :: starEach [] X.env := by rfl)
    (hg : Gl X "isinstance" := by rfl) (hpl : (backTo pos (starEach [b] X.env)).any (·.1) = false := by rfl) : DE X (.Call (.Name "isinstance" p) [a, b] [] pos) (wCall rdIsiA (wCons wa (wCons wb wNil))) :=
  de_callB call_isi calld_isi hm PyProof.Rows.boot_isinstance (da_cons ha (da_cons hb da_nil hs2) hs) hg (by decide) (by decide) hs hpl
def boolsD : List D → Option (List Bool)
  | [] => some []
  | .bl b :: ds => match boolsD ds with | some l => some (b :: l) | none => none
  | _ => none
theorem boolsD_ok {K : KZ} {H : Hp} : ∀ {ds : List D} {vs : List V} {l : List Bool}, Dats K H vs ds → boolsD ds = some l → vs = l.map V.bl
  | [], _, _, .nil, e => by cases e; rfl
  | .bl s :: ds, _, _, .cons h hs, e => by
    unfold boolsD at e
    split at e
    · rename_i l q; cases e; cases h; rw [boolsD_ok hs q]; rfl
    · cases e
  | .non :: _, _, _, _, e => by cases e
  | .str _ :: _, _, _, _, e => by cases e
  | .int _ :: _, _, _, _, e => by cases e
  | .tup _ :: _, _, _, _, e => by cases e
  | .lst _ :: _, _, _, _, e => by cases e
  | .scr _ :: _, _, _, _, e => by cases e
  | .cel _ :: _, _, _, _, e => by cases e
  | .ty _ :: _, _, _, _, e => by cases e
  | .ftp _ :: _, _, _, _, e => by cases e
def rdAll : FD := fun ds M k => match ds with
  | [x] => (match asR M x with | some xs => (match boolsD xs with | some l => k (.bl (l.all id)) M | none => False) | none => False)
  | _ => False
theorem calld_all {K : KZ} : CallD K (rAll K) rdAll := fun Fr H0 M H vs ds k Q w r h c => by
  unfold rdAll at h
  split at h
  · obtain ⟨v, rfl, rv⟩ := dats1 r
    split at h
    · rename_i xs e
      split at h
      · rename_i l el
        obtain ⟨a, ws, rfl, hs, hd⟩ := asR_ok w rv e
        have := boolsD_ok hd el
        subst this
        exact ⟨a, l, rfl, hs, c _ H0 H _ M (Same.refl _) w (.bl _) h⟩
      · exact h.elim
    · exact h.elim
  · exact h.elim
theorem de_all {X : CxZ} {e : Expr} {we : WE} {p pos : Pos} (hc : X.calm = true) (hm : X.mg "all" = none) (he : DE X e we) (hs : starEach [e] X.env = (false, eval e X.env) :: starEach [] X.env := by rfl) (hg : Gl X "all" := by rfl) (hpl : (backTo pos (starEach [] X.env)).any (·.1) = false := by rfl) :
    DE X (.Call (.Name "all" p) [e] [] pos) (wCall rdAll (wCons we wNil)) :=
  de_callB (cr_all hc) calld_all hm PyProof.Rows.boot_all (da_cons he da_nil hs) hg (by decide) (by decide) hs hpl
def rdInt : FD := fun ds M k => match ds with
  | [.int i] => k (.int i) M
  | [.bl b] => k (.int (if b then 1 else 0)) M
  | _ => False
theorem calld_int {K : KZ} : CallD K (fun xs H Q => (∃ i, xs = [V.int i] ∧ Q (.int i) H) ∨ ∃ k, xs = [V.bl k] ∧ Q (.int (if k then 1 else 0)) H) rdInt := fun Fr H0 M H vs ds k Q w r h c => by
  unfold rdInt at h
  split at h
  · obtain ⟨v, rfl, rv⟩ := dats1 r
    cases rv
    exact .inl ⟨_, rfl, c _ H0 H _ M (Same.refl _) w (.int _) h⟩
  · obtain ⟨v, rfl, rv⟩ := dats1 r
    cases rv
    exact .inr ⟨_, rfl, c _ H0 H _ M (Same.refl _) w (.int _) h⟩
  · exact h.elim
theorem de_intof {X : CxZ} {e : Expr} {we : WE} {p pos : Pos} (hm : X.mg "int" = none) (he : DE X e we) (hs : starEach [e] X.env = (false, eval e X.env) :: starEach [] X.env := by rfl) (hg : Gl X "int" := by rfl) (hpl : (backTo pos (starEach [] X.env)).any (·.1) = false := by rfl) :
    DE X (.Call (.Name "int" p) [e] [] pos) (wCall rdInt (wCons we wNil)) :=
  de_callTy call_int1 calld_int hm PyProof.Rows.boot_int (da_cons he da_nil hs) hg (by decide) (by decide) hs hpl
/-- tuple(list or tuple) -/
def rdTuple : FD := fun ds M k => match ds with
  | [x] => (match seqD M x with | some xs => k (.tup xs) M | none => False)
  | _ => False
theorem calld_tuple {K : KZ} : CallD K (fun xs H Q => ∃ p ys, xs = [V.ref p] ∧ ((SqL K H p ys ∧ ∀ l, H l = none → Q (.ref l) (upd H l (.tup ys))) ∨ (SqT K H p ys ∧ Q (.ref p) H))) rdTuple := fun Fr H0 M H vs ds k Q w r h c => by
  unfold rdTuple at h
  split at h
  · rename_i x
    obtain ⟨v, rfl, rv⟩ := dats1 r
    split at h
    · rename_i xs e
      cases x with
      | tup xs' =>
        cases e
        cases rv with
        | tup hs hd => exact ⟨_, _, rfl, .inr ⟨same_t w.ex hs, c _ H0 H _ M (Same.refl _) w (.tup hs hd) h⟩⟩
      | _ =>
        obtain ⟨a, ws, rfl, hs, hd⟩ := asR_ok (ds := xs) w rv (by exact e)
        exact ⟨a, ws, rfl, .inl ⟨hs, fun l hl => c _ _ _ _ M (same_new (w.fresh hl)) (w.new hl) (.tup (.of upd_same) (hd.mono (same_new (w.fresh hl)))) h⟩⟩
    · exact h.elim
  · exact h.elim
theorem de_tuple {X : CxZ} {e : Expr} {we : WE} {p pos : Pos} (hm : X.mg "tuple" = none) (he : DE X e we) (hs : starEach [e] X.env = (false, eval e X.env) :: starEach [] X.env := by rfl) (hg : Gl X "tuple" := by rfl) (hpl : (backTo pos (starEach [] X.env)).any (·.1) = false := by rfl) :
    DE X (.Call (.Name "tuple" p) [e] [] pos) (wCall rdTuple (wCons we wNil)) :=
  de_callTy call_tuple_of calld_tuple hm PyProof.Rows.boot_tuple (da_cons he da_nil hs) hg (by decide) (by decide) hs hpl
/-- dict(list of pairs): a cell -/
def pairsD : List D → Option (List (Key × D))
  | [] => some []
  | .tup [x, y] :: ds => match keyD x, pairsD ds with | some κ, some l => some ((κ, y) :: l) | _, _ => none
  | _ => none
def putD (kvs : List (Key × D)) (k : Key) (v : D) : List (Key × D) :=
  if (kvs.any fun kv => decide (kv.1 = k)) = true then kvs.map (fun kv => if kv.1 = k then (kv.1, v) else kv) else kvs ++ [(k, v)]
def mergeD (kvs more : List (Key × D)) : List (Key × D) := more.foldl (fun acc kv => putD acc kv.1 kv.2) kvs
theorem paired_append {α β : Type} {F : α → β → Prop} {a c : List α} {b d : List β} (h : Paired F a b) (h' : Paired F c d) : Paired F (a ++ c) (b ++ d) := by
  induction h with
  | nil => exact h'
  | cons r _ ih => exact .cons r ih
theorem paired_map {K : KZ} {H : Hp} {k : Key} {v : V} {d : D} (r : Dat K H v d) {kvs : List (Key × V)} {kds : List (Key × D)} (h : DKs K H kvs kds) :
    DKs K H (kvs.map fun kv => if kv.1 = k then (kv.1, v) else kv) (kds.map fun kv => if kv.1 = k then (kv.1, d) else kv) := by
  induction h with
  | nil => exact .nil
  | cons q t ih =>
    refine .cons ?_ ih
    rename_i a b _ _
    by_cases e : b.1 = k
    · have e' : a.1 = k := q.1.trans e
      simp only [e, e', if_true]
      exact ⟨trivial, r⟩
    · have e' : ¬ a.1 = k := fun z => e (q.1.symm.trans z)
      simp only [e, e', if_false]
      exact q
theorem paired_put {K : KZ} {H : Hp} {kvs : List (Key × V)} {kds : List (Key × D)} (h : DKs K H kvs kds) (k : Key) {v : V} {d : D} (r : Dat K H v d) : DKs K H (putK kvs k v) (putD kds k d) := by
  have e1 : (kvs.any fun kv => decide (kv.1 = k)) = (kds.any fun kv => decide (kv.1 = k)) := by
    induction h with
    | nil => rfl
    | cons q _ ih => rw [List.any_cons, List.any_cons, ih, q.1]
  unfold putK putD
  rw [e1]
  split
  · exact paired_map r h
  · exact paired_append h (.cons ⟨rfl, r⟩ .nil)
theorem paired_merge {K : KZ} {H : Hp} {mv : List (Key × V)} {md : List (Key × D)} (h : DKs K H mv md) : ∀ {kvs : List (Key × V)} {kds : List (Key × D)}, DKs K H kvs kds → DKs K H (mergeK kvs mv) (mergeD kds md) := by
  induction h with
  | nil => exact fun q => q
  | cons r _ ih =>
    intro kvs kds q
    unfold mergeK mergeD
    rw [List.foldl_cons, List.foldl_cons, r.1]
    exact ih (paired_put q _ r.2)
theorem pairsD_ok {K : KZ} {H : Hp} : ∀ {ds : List D} {vs : List V} {l : List (Key × D)}, Dats K H vs ds → pairsD ds = some l → ∃ (ps : List Addr) (kvs : List (Key × V)), vs = ps.map V.ref ∧ Paired (fun p kv => SqT K H p [kV kv.1, kv.2]) ps kvs ∧ DKs K H kvs l
  | [], _, _, .nil, e => by cases e; exact ⟨[], [], rfl, .nil, .nil⟩
  | .tup [x, y] :: ds, _, _, .cons h hs, e => by
    unfold pairsD at e
    split at e
    · rename_i κ l q1 q2
      cases e
      cases h with
      | tup ht hd =>
        obtain ⟨v, u, rfl, rv, ru⟩ := dats2 hd
        have := keyD_ok rv q1
        subst this
        obtain ⟨ps, kvs, rfl, h1, h2⟩ := pairsD_ok hs q2
        exact ⟨_ :: ps, (κ, u) :: kvs, rfl, .cons ht h1, .cons ⟨rfl, ru⟩ h2⟩
    · cases e
  | .tup [] :: _, _, _, _, e => by cases e
  | .tup [_] :: _, _, _, _, e => by cases e
  | .tup (_ :: _ :: _ :: _) :: _, _, _, _, e => by cases e
  | .bl _ :: _, _, _, _, e => by cases e
  | .non :: _, _, _, _, e => by cases e
  | .str _ :: _, _, _, _, e => by cases e
  | .int _ :: _, _, _, _, e => by cases e
  | .lst _ :: _, _, _, _, e => by cases e
  | .scr _ :: _, _, _, _, e => by cases e
  | .cel _ :: _, _, _, _, e => by cases e
  | .ty _ :: _, _, _, _, e => by cases e
  | .ftp _ :: _, _, _, _, e => by cases e
def rdDict : FD := fun ds M k => match ds with
  | [x] => (match asR M x with | some xs => (match pairsD xs with | some l => ∀ p, M p = none → k (.cel p) (setM M p (.dct (mergeD [] l))) | none => False) | none => False)
  | _ => False
theorem paired_mono {K : KZ} {H H' : Hp} (e : Same H H') {ps : List Addr} {kvs : List (Key × V)} (h : Paired (fun p kv => SqT K H p [kV kv.1, kv.2]) ps kvs) : Paired (fun p kv => SqT K H' p [kV kv.1, kv.2]) ps kvs :=
  Paired.mapP h fun _ _ q => same_t e q
/-- sorted(dict), its keys texts -/
def txtKeys : List (Key × D) → Option (List Str)
  | [] => some []
  | (.inr s, _) :: r => match txtKeys r with | some l => some (s :: l) | none => none
  | (.inl _, _) :: _ => none
def rdSortD : FD := fun ds M k => match ds with
  | [.cel a] => (match M a with
    | some (.dct kvs) => (match txtKeys kvs with | some l => l.length < 64 ∧ ∀ ys : List Str, ys.Perm l → sortedS ys = true → k (.lst (ys.map D.str)) M | none => False)
    | _ => False)
  | _ => False
theorem dats_strs {K : KZ} {H : Hp} : ∀ l : List Str, Dats K H (l.map V.str) (l.map D.str)
  | [] => .nil
  | s :: l => .cons (.str s) (dats_strs l)
end DL

set_option autoImplicit false
set_option maxRecDepth 100000
namespace DL
open PySem PySem.Spec PyProof.Rows L2
set_option maxHeartbeats 2000000
section
variable {X : CxZ} {a b c : Expr} {wa wb wc : WE} {pos : Pos}
/-- a comparison's rule with its reading -/
def CmpD (X : CxZ) (op : CmpOp) (rd : D → D → Mem → KD → Prop) : Prop := ∃ r, OpR X (compareOp op) r ∧ OpD X.K r rd
theorem de_cmpA {op : CmpOp} {rd : D → D → Mem → KD → Prop} (h : CmpD X op rd) (ha : DE X a wa) (hb : DE X b wb) (hm : behindInMarks op b = false := by first | exact nomark _ | (with_unfolding_all rfl)) : DE X (.Compare a [op] [b] pos) (wOp rd wa wb) := by
  obtain ⟨r, h1, h2⟩ := h
  exact de_cmp h1 h2 ha hb hm
theorem dt_cmpA {op : CmpOp} {rd : D → D → Mem → KD → Prop} (h : CmpD X op rd) (ha : DE X a wa) (hb : DE X b wb) (hm : behindInMarks op b = false := by first | exact nomark _ | (with_unfolding_all rfl)) : DT X (.Compare a [op] [b] pos) (wTst (wOp rd wa wb)) := by
  obtain ⟨r, h1, h2⟩ := h
  exact dt_cmp h1 h2 ha hb hm
theorem de_chainA {op op' : CmpOp} {rd rd' : D → D → Mem → KD → Prop} (h : CmpD X op rd) (h' : CmpD X op' rd') (ha : DE X a wa) (hb : DE X b wb) (hc : DE X c wc) (hm : lastMarks [op, op'] [b, c] = false := by with_unfolding_all rfl) : DE X (.Compare a [op, op'] [b, c] pos) (wChain rd rd' wa wb wc) := by
  obtain ⟨r, h1, h2⟩ := h
  obtain ⟨r', h3, h4⟩ := h'
  exact de_chain h1 h2 h3 h4 ha hb hc hm
theorem dt_chainA {op op' : CmpOp} {rd rd' : D → D → Mem → KD → Prop} (h : CmpD X op rd) (h' : CmpD X op' rd') (ha : DE X a wa) (hb : DE X b wb) (hc : DE X c wc) (hm : lastMarks [op, op'] [b, c] = false := by with_unfolding_all rfl) : DT X (.Compare a [op, op'] [b, c] pos) (wTst (wChain rd rd' wa wb wc)) := by
  obtain ⟨r, h1, h2⟩ := h
  obtain ⟨r', h3, h4⟩ := h'
  exact dt_chain h1 h2 h3 h4 ha hb hc hm
theorem c_lt : CmpD X .Lt rdLt := op_ltA
theorem c_le : CmpD X .LtE rdLe := op_leA
theorem c_gt : CmpD X .Gt rdGt := op_gtA
theorem c_ge : CmpD X .GtE rdGe := op_geA
theorem c_eq {k : Nat} (hr : DG.RoomG k X.A) : CmpD X .Eq (rdEq id) := ⟨_, op_eq.or (op_eqD hr.r.units), opd_eq⟩
theorem c_ne {k : Nat} (hr : DG.RoomG k X.A) : CmpD X .NotEq (rdEq not) := ⟨_, op_ne.or (op_neD hr.r.units), opd_ne⟩
theorem c_is : CmpD X .Is (rdIs id) := op_isA
theorem c_isn : CmpD X .IsNot (rdIs not) := op_isnA
theorem c_in : CmpD X .In (rdIn id) := ⟨_, op_in_seq, opd_in fun _ => rfl⟩
theorem c_nin : CmpD X .NotIn (rdIn not) := ⟨_, op_notIn_seq, opd_in fun _ => rfl⟩
end
/-- a def of the text: where it stands, how it binds -/
structure Def (K : PySem.W.Frag) (mg : Str → Option Value) (x : Str) (st : Stmt) (ps : List Str) (f : Addr) (fd : FuncData) : Prop where
  F : Fun K x x st f fd
  at_ : mg x = some (.ref f)
  b : Binds K fd ps []
theorem de_own {X : CxZ} {F : FD} {f : Addr} {fd : FuncData} {ps : List Str} {x : Str} {st : Stmt} {k j : Nat} {e : Expr} {es : List Expr} {p pos : Pos} {wa : WA} (d : Def X.K X.mg x st ps f fd) (G : DFn X.prog X.w X.K X.mg X.base k f fd ps F) (hr : DG.RoomG j X.A) (hk : k ≤ j)
    (ha : DA X (e :: es) wa) (hg : Gl X x := by rfl) (hdb : (x == ("__debug__" : Str)) = false := by decide) (he : starEach (e :: es) X.env = (false, eval e X.env) :: starEach es X.env := by rfl) (hpl : (backTo pos (starEach es X.env)).any (·.1) = false := by rfl) : DE X (.Call (.Name x p) (e :: es) [] pos) (wCall F wa) :=
  de_call G (hr.mono hk) d.at_ d.F.kp d.b ha hg hdb he hpl
theorem DFn.mono {P : Program} {w : World} {K : PySem.W.Frag} {mg : Str → Option Value} {base : Heap} {j k : Nat} {f : Addr} {fd : FuncData} {ps : List Str} {F : FD} (G : DFn P w K mg base j f fd ps F) (h : j ≤ k) : DFn P w K mg base k f fd ps F := DG.FnG.mono G h
/-- a weaker wish -/
theorem DFn.weak {P : Program} {w : World} {K : PySem.W.Frag} {mg : Str → Option Value} {base : Heap} {k : Nat} {f : Addr} {fd : FuncData} {ps : List Str} {F F' : FD} (G : DFn P w K mg base k f fd ps F) (h : ∀ ds M kd, F' ds M kd → F ds M kd) : DFn P w K mg base k f fd ps F' :=
  DG.FnG.imp G fun vs H Q E ⟨Fr, H0, M, ds, kd, h1, h2, h3, h4⟩ => ⟨Fr, H0, M, ds, kd, h1, h2, h ds M kd h3, h4⟩
end DL

set_option autoImplicit false
set_option maxRecDepth 100000
namespace DL
open PySem L2
set_option maxHeartbeats 2000000
/-- a comprehension whose element is a function of the item -/
theorem lc_map {gd : D → Env → Option Env} {we : WE} {G : Mem → Prop} {Γ : Env} (f : D → D) {M : Mem} (hG : G M) : ∀ (its acc : List D) (k : List D → Mem → Prop),
    (∀ d ∈ its, ∃ Γ', gd d Γ = some Γ' ∧ ∀ k : KD, k (f d) M → we Γ' M k) → acc.length + its.length ≤ sizeLine → k (acc ++ its.map f) M → lcD gd wYes we G Γ its acc M k
  | [], acc, k, _, _, h => ⟨hG, by simpa using h⟩
  | d :: ds, acc, k, hf, hl, h => by
    obtain ⟨Γ', e, q⟩ := hf d List.mem_cons_self
    refine ⟨hG, ?_⟩
    rw [e]
    simp only [List.length_cons] at hl
    simp only [wYes, if_true]
    refine q _ ⟨by omega, lc_map f hG ds _ k (fun d hd => hf d (List.mem_cons_of_mem _ hd)) (by simp; omega) (by simpa using h)⟩
/-- .. by an invariant -/
theorem lc_inv {gd : D → Env → Option Env} {wt : WT} {we : WE} {G : Mem → Prop} {Γ : Env} {k : List D → Mem → Prop} (I : List D → List D → Mem → Prop) (hG : ∀ ds acc M, I ds acc M → G M) (h0 : ∀ acc M, I [] acc M → k acc M)
    (hs : ∀ d ds acc M, I (d :: ds) acc M → ∃ Γ', gd d Γ = some Γ' ∧ ∀ (ky : KD) (kn : Mem → Prop), (∀ y M2, acc.length < sizeLine → I ds (acc ++ [y]) M2 → ky y M2) → (∀ M2, I ds acc M2 → kn M2) → wt Γ' M fun b M1 => if b = true then we Γ' M1 ky else kn M1)
    (hl : ∀ ds acc M, I ds acc M → acc.length + ds.length ≤ sizeLine) : ∀ its acc M, I its acc M → lcD gd wt we G Γ its acc M k
  | [], acc, M, h => ⟨hG _ _ _ h, h0 acc M h⟩
  | d :: ds, acc, M, h => by
    refine ⟨hG _ _ _ h, ?_⟩
    obtain ⟨Γ', e, q⟩ := hs d ds acc M h
    rw [e]
    refine q (fun y M2 => acc.length < sizeLine ∧ lcD gd wt we G Γ ds (acc ++ [y]) M2 k) _ (fun y M2 hlt i => ⟨hlt, lc_inv I hG h0 hs hl ds _ M2 i⟩) (fun M2 i => lc_inv I hG h0 hs hl ds acc M2 i)

theorem shaped_str {s : Str} (h : PyData.strOk s = true) : SeqAt.shaped (.str s) = true := by
  unfold SeqAt.shaped PyData.canLay0 PyData.depth
  rw [h]; rfl
theorem shaped_int {i : Int} : SeqAt.shaped (.int i) = true := by
  unfold SeqAt.shaped PyData.canLay0 PyData.depth; rfl
theorem shaped_bl {i : Bool} : SeqAt.shaped (.bool i) = true := by
  unfold SeqAt.shaped PyData.canLay0 PyData.depth; rfl
theorem shaped_non : SeqAt.shaped .none = true := by
  unfold SeqAt.shaped PyData.canLay0 PyData.depth; rfl
theorem eq_str {f : Bool → Bool} {s t : Str} {M : Mem} {k : KD} (h1 : PyData.strOk s = true) (h2 : PyData.strOk t = true) (h : k (.bl (f (decide (s = t)))) M) : rdEq f (.str s) (.str t) M k := by
  exact h
theorem eq_int {f : Bool → Bool} {s t : Int} {M : Mem} {k : KD} (h : k (.bl (f (decide (s = t)))) M) : rdEq f (.int s) (.int t) M k := by
  refine ⟨shaped_int, shaped_int, ?_⟩
  have e : PyData.eqv (.int s) (.int t) = decide (s = t) := by
    show (s == t) = _
    rw [Bool.beq_eq_decide_eq]
  rw [e]; exact h
/-- flat things: None, ints, texts -/
inductive Flat : D → Prop
  | non : Flat .non
  | int (i : Int) : Flat (.int i)
  | str (s : Str) : PyData.strOk s = true → Flat (.str s)
def eqS : D → D → Bool
  | .non, .non => true
  | .int i, .int j => decide (i = j)
  | .str s, .str t => decide (s = t)
  | _, _ => false
theorem eq_flat {f : Bool → Bool} {x y : D} {M : Mem} {k : KD} (hx : Flat x) (hy : Flat y) (h : k (.bl (f (eqS x y))) M) : rdEq f x y M k := by
  cases hx with
  | non =>
    cases hy with
    | non => exact ⟨shaped_non, shaped_non, h⟩
    | int j => exact ⟨shaped_non, shaped_int, h⟩
    | str t ht => exact ⟨shaped_non, shaped_str ht, h⟩
  | int i =>
    cases hy with
    | non => exact ⟨shaped_int, shaped_non, h⟩
    | int j => exact eq_int h
    | str t ht => exact ⟨shaped_int, shaped_str ht, h⟩
  | str s hs =>
    cases hy with
    | non => exact ⟨shaped_str hs, shaped_non, h⟩
    | int j => exact ⟨shaped_str hs, shaped_int, h⟩
    | str t ht => exact eq_str hs ht h
end DL

set_option autoImplicit false
set_option maxRecDepth 100000
namespace DL
open PySem L2
set_option maxHeartbeats 2000000
section
variable {M : Mem} {k : KD} {i j n : Int} {s t : Str} {d x y : D} {ds es : List D} {a : Addr} {c : Nat}
theorem at0 {α : Type} (x : α) (r : List α) : atI (x :: r) 0 = some x := by
  have := atI_nat (xs := x :: r) (j := 0) (v := x) rfl
  simpa using this
theorem at1 {α : Type} (x y : α) (r : List α) : atI (x :: y :: r) 1 = some y := by
  have := atI_nat (xs := x :: y :: r) (j := 1) (v := y) rfl
  simpa using this
theorem at2 {α : Type} (x y z : α) (r : List α) : atI (x :: y :: z :: r) 2 = some z := by
  have := atI_nat (xs := x :: y :: z :: r) (j := 2) (v := z) rfl
  simpa using this
theorem ix_cel (e : M a = some (.lst ds)) (h : atI ds i = some d) (hk : k d M) : rdIx (.cel a) (.int i) M k := by
  unfold rdIx seqD asR
  simp only [e, h]; exact hk
theorem ix_tup (h : atI ds i = some d) (hk : k d M) : rdIx (.tup ds) (.int i) M k := by
  unfold rdIx seqD
  simp only [h]; exact hk
theorem ix_lst (h : atI ds i = some d) (hk : k d M) : rdIx (.lst ds) (.int i) M k := by
  unfold rdIx seqD asR
  simp only [h]; exact hk
theorem ix_scr (h : atI ds i = some d) (hk : k d M) : rdIx (.scr ds) (.int i) M k := by
  unfold rdIx seqD asR
  simp only [h]; exact hk
theorem r_add (hk : k (.int (i + j)) M) : rdAdd (.int i) (.int j) M k := hk
theorem r_addT (hz : ds.length + es.length ≤ sizeLine) (hk : k (.tup (ds ++ es)) M) : rdAdd (.tup ds) (.tup es) M k := ⟨hz, hk⟩
theorem r_addL (hz : ds.length + es.length ≤ sizeLine) (hk : k (.lst (ds ++ es)) M) : rdAdd (.lst ds) (.lst es) M k := ⟨hz, hk⟩
theorem r_mul (h : (-(2 ^ 64) < i ∧ i < 2 ^ 64) ∨ (-(2 ^ 64) < j ∧ j < 2 ^ 64)) (hk : k (.int (i * j)) M) : rdI CMul (fun i j => .int (i * j)) (.int i) (.int j) M k := ⟨h, hk⟩
theorem r_div (h : 0 < j) (h' : j < 1073741824) (hk : k (.int (i / j)) M) : rdI CDiv (fun i j => .int (i / j)) (.int i) (.int j) M k := ⟨⟨h, h'⟩, hk⟩
theorem r_mod (h : 0 < j) (hk : k (.int (i % j)) M) : rdI (fun _ j => 0 < j) (fun i j => .int (i % j)) (.int i) (.int j) M k := ⟨h, hk⟩
theorem r_pow (h : 0 ≤ j) (h2 : j ≤ 1000000) (h3 : i.natAbs < 2 ^ 64) (hk : k (.int (i ^ j.toNat)) M) : rdI CPow (fun i j => .int (i ^ j.toNat)) (.int i) (.int j) M k := ⟨⟨h, h2, h3⟩, hk⟩
theorem eq_strT {f : Bool → Bool} (h1 : PyData.strOk s = true) (hk : k (.bl (f true)) M) : rdEq f (.str s) (.str s) M k := eq_str h1 h1 (by rw [decide_eq_true rfl]; exact hk)
theorem eq_strF {f : Bool → Bool} (h1 : PyData.strOk s = true) (h2 : PyData.strOk t = true) (h : s ≠ t) (hk : k (.bl (f false)) M) : rdEq f (.str s) (.str t) M k := eq_str h1 h2 (by rw [decide_eq_false h]; exact hk)
theorem r_I0 {g : Int → Int → D} (hk : k (g i j) M) : rdI0 g (.int i) (.int j) M k := hk
theorem r_U {g : Int → D} (hk : k (g i) M) : rdU g (.int i) M k := hk
theorem r_ordI {p : Int → Int → Bool} {q : Str → Str → Bool} (hk : k (.bl (p i j)) M) : rdOrd p q (.int i) (.int j) M k := hk
theorem r_isN {f : Bool → Bool} (hk : k (.bl (f true)) M) : rdIs f .non .non M k := hk
theorem r_isI {f : Bool → Bool} (hk : k (.bl (f false)) M) : rdIs f (.int i) .non M k := hk
theorem r_isS {f : Bool → Bool} (hk : k (.bl (f false)) M) : rdIs f (.str s) .non M k := hk
theorem r_isT {f : Bool → Bool} (hk : k (.bl (f false)) M) : rdIs f (.tup ds) .non M k := hk
def isNon : D → Bool
  | .non => true
  | _ => false
theorem r_lenS (hz : s.length ≤ sizeLine) (hk : k (.int s.length) M) : rdLen [.str s] M k := ⟨hz, hk⟩
theorem r_lenT (hk : k (.int ds.length) M) : rdLen [.tup ds] M k := hk
theorem r_lenL (hk : k (.int ds.length) M) : rdLen [.lst ds] M k := hk
theorem r_lenR (hk : k (.int ds.length) M) : rdLen [.scr ds] M k := hk
theorem r_lenC (e : M a = some (.lst ds)) (hk : k (.int ds.length) M) : rdLen [.cel a] M k := by
  unfold rdLen seqD asR; simp only [e]; exact hk
theorem r_app (e : M a = some (.lst ds)) (hz : ds.length < sizeLine) (hk : k .non (setM M a (.lst (ds ++ [d])))) : rdAppend (.cel a) [d] M k := by
  unfold rdAppend; simp only [e]; exact ⟨hz, hk⟩
theorem isC (e : M a = some (.lst ds)) : isCel M (.cel a) := ⟨ds, e⟩
theorem cut_take {α : Type} (xs : List α) (n : Nat) : cutD xs none (some (n : Int)) = xs.take n := by
  unfold cutD
  rw [HT.sIx_none, HT.sIx_nat]
  simp
theorem cut_drop {α : Type} (xs : List α) (n : Nat) : cutD xs (some (n : Int)) none = xs.drop n := by
  unfold cutD
  rw [HT.sIx_none, HT.sIx_nat]
  by_cases h : n ≤ xs.length
  · rw [Nat.min_eq_left h, ← List.length_drop, List.take_length]
  · rw [Nat.min_eq_right (by omega), List.drop_eq_nil_of_le (Nat.le_refl _), List.drop_eq_nil_of_le (by omega)]; simp
theorem r_slT {lo hi : Option Int} (hk : k (.tup (cutD ds lo hi)) M) : rdSl (.tup ds) lo hi M k := hk
theorem r_slL {lo hi : Option Int} (hk : k (.lst (cutD ds lo hi)) M) : rdSl (.lst ds) lo hi M k := hk
theorem r_tupL (hk : k (.tup ds) M) : rdTuple [.lst ds] M k := hk
theorem r_intB {b : Bool} (hk : k (.int (if b then 1 else 0)) M) : rdInt [.bl b] M k := hk
theorem r_isi {T S : String} (h1 : tyD M x = some S) (hT : ["bool", "int", "str", "tuple"].contains T = true) (h2 : ∀ l, x ≠ .scr l) (hk : k (.bl (isiB S T)) M) : rdIsiA [x, .ty T] M k := by
  unfold rdIsiA; simp only [h1]; exact ⟨hT, h2, hk⟩
theorem r_get {kvs : List (Key × D)} (e : M a = some (.dct kvs)) (h : lookD kvs (.inr s) = some d) (hk : k d M) : rdGet (.cel a) (.str s) M k := by
  unfold rdGet keyD; simp only [e, h]; exact hk
theorem r_inS {f : Bool → Bool} {l : List Str} (hk : k (.bl (f (decide (s ∈ l)))) M) : rdIn f (.str s) (.tup (l.map D.str)) M k := by
  unfold rdIn seqD flatD
  have h1 : ∀ l : List Str, flatsD (l.map D.str) = some (l.map V.str) := fun l => by
    induction l with
    | nil => rfl
    | cons t r ih => rw [List.map_cons]; unfold flatsD flatD; rw [ih]; rfl
  have h2 : inV (.str s) (l.map V.str) = decide (s ∈ l) := by
    clear hk
    unfold inV
    induction l with
    | nil => rfl
    | cons t r ih =>
      rw [List.map_cons, List.any_cons, ih]
      show ((t == s) || _) = _
      by_cases e : t = s
      · subst e; simp
      · have e' : ¬ s = t := fun z => e z.symm
        simp [e, e']
  simp only [h1, h2]; exact hk
theorem r_st {v : D} {j : Nat} {kk : Mem → Prop} (e : M a = some (.lst ds)) (h : ixN ds.length i = some j) (hk : kk (setM M a (.lst (ds.set j v)))) : rdSt (.cel a) (.int i) v M kk := by
  unfold rdSt; simp only [e, h]; exact hk
theorem ix_nat {n i : Nat} (h : i < n) : ixN n (i : Int) = some i := by
  unfold ixN
  rw [if_pos (by omega), if_pos (by omega), Int.toNat_natCast]
theorem tt {A B : Prop} (h : A) : (if true = true then A else B) := by rw [if_pos rfl]; exact h
theorem ff {A B : Prop} (h : B) : (if false = true then A else B) := by rw [if_neg Bool.false_ne_true]; exact h
theorem tt' {b : Bool} {A B : Prop} (e : b = true) (h : A) : (if b = true then A else B) := by rw [if_pos e]; exact h
theorem ff' {b : Bool} {A B : Prop} (e : b = false) (h : B) : (if b = true then A else B) := by rw [e]; exact ff h
theorem bb {b : Bool} {A B : Prop} (h1 : b = true → A) (h2 : b = false → B) : (if b = true then A else B) := by
  cases b
  · exact ff (h2 rfl)
  · exact tt (h1 rfl)
theorem and_pure {wa wb : WT} {Γ : Env} {kt : Bool → Mem → Prop} {b1 b2 : Bool} (h1 : ∀ k : Bool → Mem → Prop, k b1 M → wa Γ M k) (h2 : b1 = true → ∀ k : Bool → Mem → Prop, k b2 M → wb Γ M k) (h : kt (b1 && b2) M) : wAndT wa wb Γ M kt := by
  refine h1 _ ?_
  cases b1 with
  | true => exact tt (h2 rfl _ h)
  | false => exact ff h
theorem or_pure {wa wb : WT} {Γ : Env} {kt : Bool → Mem → Prop} {b1 b2 : Bool} (h1 : ∀ k : Bool → Mem → Prop, k b1 M → wa Γ M k) (h2 : b1 = false → ∀ k : Bool → Mem → Prop, k b2 M → wb Γ M k) (h : kt (b1 || b2) M) : wOrT wa wb Γ M kt := by
  refine h1 _ ?_
  cases b1 with
  | true => exact tt h
  | false => exact ff (h2 rfl _ h)
theorem z1 {n : Nat} (h : n ≤ 1000000) : n ≤ sizeLine := Nat.le_trans h (by decide)
theorem z2 {n : Nat} (h : n ≤ 1000000) : n < sizeLine := Nat.lt_of_le_of_lt h (by decide)
end
end DL

set_option autoImplicit false
set_option maxRecDepth 100000
set_option maxHeartbeats 4000000
/-! sets of texts, made of a list of texts: counted, or laid out in their order -/
namespace TS
open PySem PySem.Spec PyProof.Rows L2 PySem.Froz
/-- the texts met, the newest first, each once -/
def addU (l : List Str) (k : Str) : List Str := if k ∈ l then l else k :: l
def uni (xs : List Str) : List Str := xs.foldl addU []
theorem addU_len {l : List Str} {k : Str} : (addU l k).length ≤ l.length + 1 := by
  unfold addU; split
  · omega
  · simp
theorem fold_len : ∀ (xs l : List Str), (xs.foldl addU l).length ≤ l.length + xs.length
  | [], l => by simp
  | x :: xs, l => by
    have h := fold_len xs (addU l x)
    have := addU_len (l := l) (k := x)
    rw [List.foldl_cons, List.length_cons]; omega
theorem uni_len (xs : List Str) : (uni xs).length ≤ xs.length := by
  have := fold_len xs []; simpa [uni] using this
theorem uni_snoc (xs : List Str) (k : Str) : uni (xs ++ [k]) = addU (uni xs) k := by
  unfold uni; rw [List.foldl_append]; rfl
/-- the table rises and can be walked -/
def Way (w : World) (D : SD) : Prop := Ris D.2.2.place.toList ∧ (w.params.followText "set-order" = true ∨ D.2.2.led = true)
theorem way_tail {w : World} {ep : Nat} {es : Array (Int × Value)} {t : SetTable} {b : Bool} (h : Way w (es, ep, t)) : Way w (tailTx ep es t b) := by
  unfold tailTx; split
  · exact ⟨relayAll_ris t es _, h.2.imp id fun z => (relayAll_led t es _).trans z⟩
  · exact h
theorem way_add {w : World} {D : SD} {h : Int} {v : Value} (W : Way w D) : Way w (addTx h v D) := by
  unfold addTx
  refine way_tail ?_
  have a := layNew_ris D.2.2 D.1 h v W.1
  have b := W.2.imp id fun z => (layNew_led D.2.2 D.1 h v).trans z
  split
  · exact ⟨a, b⟩
  · exact ⟨a, b⟩
/-- the set at a holds the texts l -/
def SetS (P : Program) (w : World) (h : Heap) (a : Addr) (l : List Str) : Prop := ∃ D, h.get? a = some (sObj "set" D) ∧ TxOk P w D l ∧ Way w D
theorem SetS.at {P : Program} {w : World} {h h' : Heap} {a : Addr} {l : List Str} (x : SetS P w h a l) (k : ∀ o, h.get? a = some o → h'.get? a = some o) : SetS P w h' a l :=
  let ⟨D, e, r⟩ := x; ⟨D, k _ e, r⟩
section
variable {P : Program} {w : World} {A : Around} {E : Value → Shared → Prop} {s : Shared} {a : Addr} {l : List Str}
theorem add_s {k : Str} {u : Tok} {Q : Bool → Shared → Prop} (x : SetS P w s.heap a l) (hb : l.length + 1 < scanBound)
    (h : ∀ b h', Heap.SameBut a s.heap h' → SetS P w h' a (addU l k) → Q b { s with heap := h' }) : wpAny (model P w) A (setAddHashed a (.str k u) (hashStr w k)) Q E s := by
  obtain ⟨D, ho, F, W⟩ := x
  by_cases hk : k ∈ l
  · have h1 := h false s.heap (Heap.SameBut.refl a s.heap) ⟨D, ho, by unfold addU; rw [if_pos hk]; exact F, W⟩
    obtain ⟨es, ep, t⟩ := D
    have sz : es.size = l.length := F.sz
    have el : ElemsOf (strKind P w) es.toList := F.el
    have hf : t.fits es.size = true := F.fit
    have ky : (strKind P w).is k (.str k u) = true := is_str k u
    unfold setAddHashed setAddHashedIn
    apply wpAny_holding
    apply wpAny_bind
    refine wpAny_setState_of ho (show (sObj "set" (es, ep, t)).data = _ from rfl) hf ?_
    dsimp only
    rw [byScan_of (x := Value.str k u) rfl (by omega) el, if_pos rfl]
    unfold setAddByScan
    apply wpAny_bind
    apply wpAny_bind
    apply wpAny_rule
    apply wpAny_bind
    refine wpAny_setScan_of (knd := strKind P w) ky ho (show (sObj "set" (es, ep, t)).data = _ from rfl) hf el ?_
    cases q : List.findIdx? (fun e => (strKind P w).is k e.2) es.toList with
    | some j => exact wpAny_pure (wpAny_pure h1)
    | none =>
      obtain ⟨e, he, z⟩ := (F.mem k).mp hk
      have c := List.findIdx?_eq_none_iff.mp q e he
      rw [z] at c; cases c
  · refine add_x ho F hk hb (h true _ (Heap.SameBut.update s.heap a _) ⟨_, get_upd _ ho rfl, ?_, way_add W⟩)
    unfold addU; rw [if_neg hk]; exact add_ok u F
/-- the loop of update over texts -/
theorem loop {I : Addr} {fp wr : List Addr} {G : Array GenState → Array GenState → Prop} {n : Nat} {Pv : Nat → Value → Prop} {St : Nat → Shared → Prop} {R : Result → Shared → Prop} {xs : List Str} {S : Addr}
    (W : WalksS P w A.in1 I fp wr G n Pv St) (nf : S ∉ fp) (hn : xs.length = n) (hb : n + 1 < scanBound) (hv : ∀ i v, Pv i v → ∃ y t, xs[i]? = some y ∧ v = .str y t)
    : ∀ (k i : Nat) (s : Shared), k + i = n → St i s → SetS P w s.heap S (uni (xs.take i)) →
      (∀ s', Moved (S :: wr) G s s' → SetS P w s'.heap S (uni xs) → R (.ok (.ret .none)) s') → codeAny (model P w) A (.builtin "set.update.loop" ⟨[.ref S, .ref I], []⟩) R s := by
  have nw : S ∉ wr := fun z => nf (W.sub _ z)
  intro k
  induction k with
  | zero =>
    intro i s hk st hs hR
    have e : i = n := by omega
    subst e
    apply codeAny_builtin F.entry_set_update_loop
    rw [Around.under_plainId (F.plain_set_update_loop) _]
    apply wpAny_bind (m := pyNext (.ref I))
    refine W.done s _ _ st fun s' hm => ?_
    rw [List.take_of_length_le (by omega)] at hs
    refine wpAny_pure (hR s' (hm.mono fun b z => List.mem_cons_of_mem _ z) (hs.at fun o z => ?_))
    exact hm.heap S o nw z
  | succ k ih =>
    intro i s hk st hs hR
    apply codeAny_builtin F.entry_set_update_loop
    rw [Around.under_plainId (F.plain_set_update_loop) _]
    apply wpAny_bind (m := pyNext (.ref I))
    refine W.item i s _ _ (by omega) st fun v s' hP st' hm => ?_
    obtain ⟨y, t, hy, rfl⟩ := hv i v hP
    have hs' := hs.at (h' := s'.heap) fun o z => hm.heap S o nw z
    show wpAny _ A.in1 (holding [Value.str y t] (setAdd S (.str y t)) >>= _) _ _ s'
    apply wpAny_bind
    apply wpAny_holding
    unfold setAdd
    apply wpAny_holding
    apply wpAny_bind
    refine (strKind P w).pyHash (k := y) (is_str y t) ?_
    have ul := uni_len (xs.take i)
    rw [List.length_take] at ul
    refine add_s (s := { s' with toks := s'.toks + 1 }) hs' (by omega) fun b h' sb h2 => ?_
    refine wpAny_pure ⟨plainId_quiet (F.plain_set_update_loop) _, ih (i + 1) _ (by omega) (W.frame _ s' _ _ st' (Nat.le_succ _) fun c hc o e => ?_) ?_ fun s2 hm2 h3 => ?_⟩
    · exact (sb.2 c fun z => nf (z ▸ hc)).trans e
    · rw [List.take_add_one, hy, Option.toList_some, uni_snoc]; exact h2
    · refine hR s2 (Moved.trans W.gtrans ((hm.mono fun c z => List.mem_cons_of_mem _ z).then_heap (Nat.le_succ _) fun c o hc e => ?_) hm2) h3
      exact (sb.2 c fun z => hc (z ▸ List.mem_cons_self)).trans e
/-- the bare set that is laid first -/
def bare (w : World) : Obj := { cls := .type "set", dict := none, data := .set #[] 0 (.fresh 0 0 (!w.params.followText "set-order")) }
end
end TS

set_option autoImplicit false
set_option maxRecDepth 100000
set_option maxHeartbeats 4000000
namespace TS
open PySem PySem.Spec PyProof.Rows L2 PySem.Froz
section
variable {P : Program} {w : World} {A : Around} {E : Value → Shared → Prop} {s : Shared} {b : Addr} {l : List Str}
end
end TS

set_option autoImplicit false
set_option maxRecDepth 100000
set_option maxHeartbeats 4000000
/-! a tuple turned about: t[::-1] -/
namespace RT
open PySem PySem.Spec PyProof.Rows L2 HT
theorem back_adjust (n : Nat) : Builtin.Slice.sliceAdjust none none (-1) (n : Int) = ((n : Int) - 1, -1) := rfl
theorem back_places (n : Nat) : Builtin.Slice.slicePlaces ((n : Int) - 1) (-1) (-1) = n := by
  unfold Builtin.Slice.slicePlaces
  rw [if_neg (by decide)]
  by_cases h : (n : Int) - 1 > -1
  · rw [if_pos h]; simp
  · rw [if_neg h]; simp; omega
theorem fm_map {α β : Type} {f : α → Option β} {g : α → β} : ∀ l : List α, (∀ k ∈ l, f k = some (g k)) → l.filterMap f = l.map g
  | [], _ => rfl
  | a :: l, h => by
    rw [List.filterMap_cons, h a List.mem_cons_self, List.map_cons, fm_map l fun k hk => h k (List.mem_cons_of_mem _ hk)]
theorem back_pick (xs : Array Value) : ((List.range xs.size).filterMap fun (k : Nat) => xs[(((xs.size : Int) - 1) + (k : Int) * (-1)).toNat]?).toArray = xs.toList.reverse.toArray := by
  congr 1
  apply List.ext_getElem?
  intro i
  have e : ∀ k ∈ List.range xs.size, xs[(((xs.size : Int) - 1) + (k : Int) * (-1)).toNat]? = some ((fun k => xs.getD (xs.size - 1 - k) .none) k) := fun k hk => by
    have hk := List.mem_range.mp hk
    have : (((xs.size : Int) - 1) + (k : Int) * (-1)).toNat = xs.size - 1 - k := by omega
    rw [this]
    have lt : xs.size - 1 - k < xs.size := by omega
    simp [Array.getD, lt]
  rw [fm_map _ e]
  by_cases hi : i < xs.size
  · rw [List.getElem?_map, List.getElem?_range hi, List.getElem?_reverse (by simpa using hi)]
    have lt : xs.size - 1 - i < xs.size := by omega
    simp [Array.getD, lt]
  · rw [List.getElem?_eq_none (by simp; omega), List.getElem?_eq_none (by simp; omega)]
section
variable {P : Program} {w : World} {A : Around} {E : Value → Shared → Prop} {s : Shared}
theorem back_applied {sl : Addr} {u : Tok} {n : Nat} {Q : Int × Int × Nat → Shared → Prop} (hs : s.heap.IsSliceOf sl .none .none (.int (-1) u)) (h : Q ((n : Int) - 1, -1, n) s) :
    wpAny (model P w) A (Builtin.Slice.sliceApplied (.ref sl) (pure (n : Int))) Q E s := by
  obtain ⟨o, e1, e2, e3⟩ := id hs
  unfold Builtin.Slice.sliceApplied Builtin.Slice.sliceFields
  apply wpAny_bind
  refine wpAny_bind (wpAny_field e1 e3 (x := .none) (by rfl) (wpAny_bind (wpAny_field e1 e3 (x := .none) (by rfl) (wpAny_bind (wpAny_field e1 e3 (x := .int (-1) u) (by rfl) (wpAny_pure ?_))))))
  apply wpAny_bind
  refine slicePart_int ?_
  show wpAny _ _ (if ((-1 : Int) == 0) = true then _ else _) _ _ s
  rw [if_neg (by decide)]
  apply wpAny_bind
  refine slicePart_none ?_
  apply wpAny_bind
  refine slicePart_none ?_
  apply wpAny_bind
  apply wpAny_pure
  show wpAny _ _ (match Builtin.Slice.sliceAdjust none none (-1) (n : Int) with | (lo, hi) => pure (lo, (-1 : Int), Builtin.Slice.slicePlaces lo hi (-1))) _ _ s
  rw [back_adjust]
  show wpAny _ _ (pure ((n : Int) - 1, (-1 : Int), Builtin.Slice.slicePlaces ((n : Int) - 1) (-1) (-1))) _ _ s
  rw [back_places]
  exact wpAny_pure h
theorem back_tuple {t sl : Addr} {items : Array Value} {u : Tok} {Q : Value → Shared → Prop} (ht : IsTup s.heap t items) (hs : s.heap.IsSliceOf sl .none .none (.int (-1) u)) (hz : items.size ≤ sizeLine)
    (h : Q (.ref s.heap.objs.size) { s with heap := s.heap.push { cls := .type "tuple", data := .seq items.toList.reverse.toArray } }) : wpAny (model P w) A (getItem (.ref t) (.ref sl)) Q E s := by
  have fit : sizeOk (.seq items.toList.reverse.toArray) := by
    show items.toList.reverse.toArray.size ≤ sizeLine
    simpa using hz
  obtain ⟨o, e1, e2, e3⟩ := id hs
  have ty : s.TypeIs (.ref sl) "slice" := ⟨o, e1, e2⟩
  unfold getItem
  try (with_reducible apply wpAny_holding)
  first | (refine wpAny_bind (wpAny_pure ?_)) | skip
  refine wpAny_bind (wpAny_sequenceKey (ht.typeIs) (by decide) ?_)
  apply wpAny_bind
  refine wpAny_callSpecial?_slot (name := Str.ofString "__getitem__") ht.typeIs PyProof.Rows.slot_tuple_getitem (wpAny_call_entry PyProof.Rows.slot_tuple_getitem ht.typeIs entry_tuple_getitem ?_ (args_tuple_getitem _ _))
  show wpAny _ _ (Builtin.Tuple.tupleItemsOf (.ref t) >>= _) _ _ s
  apply wpAny_bind
  refine tupleItemsOf_ ht ?_
  apply wpAny_bind
  refine wpAny_typeOf ty ?_
  rw [if_pos (by decide)]
  apply wpAny_bind
  refine back_applied hs ?_
  have no : ¬ ((((items.size : Int) - 1) == 0 && (-1 : Int) == 1 && items.size == items.size) = true) := by
    intro q
    rw [Bool.and_eq_true, Bool.and_eq_true] at q
    exact absurd q.1.2 (by decide)
  show wpAny _ _ (if (((items.size : Int) - 1) == 0 && (-1 : Int) == 1 && items.size == items.size) = true then _ else _) _ _ s
  rw [if_neg no, back_pick]
  first
    | exact wpAny_bind (m := Builtin.Tuple.tupleExact _) (wpAny_newObj_type (wpAny_pure (⟨_, rfl, wpAny_pure h⟩)) fit)
    | exact wpAny_bind (m := Builtin.Tuple.tupleExact _) (wpAny_newObj_type (wpAny_bind (wpAny_pure (wpAny_pure (⟨_, rfl, wpAny_pure h⟩)))) fit)
    | exact wpAny_bind (wpAny_bind (m := Builtin.Tuple.tupleExact _) (wpAny_newObj_type (wpAny_pure (wpAny_pure (⟨_, rfl, wpAny_pure h⟩))) fit))
    | exact wpAny_bind (wpAny_bind (m := Builtin.Tuple.tupleExact _) (wpAny_newObj_type (wpAny_pure (⟨_, rfl, wpAny_pure h⟩)) fit))
end
section
variable {X : Cx}
def tBack (K : PySem.W.Frag) (te : TE) : TE := fun σ H Q => te σ H fun x H1 => ∃ a xs, x = .ref a ∧ SqT K H1 a xs ∧ ∀ p, H1 p = none → Q (.ref p) (upd H1 p (.tup xs.reverse))
theorem pe_back {e : Expr} {te : TE} {k : Nat} {p1 p2 p3 pos : Pos} (he : PE X e te) : PE X (.Subscript e (.Slice none none (some (.UnaryOp .USub (.Constant (.int 1) k p1) p2)) p3) pos) (tBack X.K te) := by
  refine ⟨fun pins s σ H Q I h => Subscript_ (thn (he.run pins s σ H _ I h) fun v s1 ⟨x, H1, I1, r1, q1⟩ => ?_)⟩
  obtain ⟨a, xs, rfl, hx, q⟩ := q1
  cases r1
  have st : PO X (some (.UnaryOp .USub (.Constant (.int 1) k p1) p2)) (tPart (tUn (rU fun i => .int (-i)) (tC (.int 1)))) := po_some (pe_un un_neg pe_int)
  refine wpAny_Slice (thn (po_none.run pins s1 σ H1 (fun o z => o = none ∧ z = H1) I1 (And.intro rfl rfl)) fun vl s2 ⟨l, H2, I2, pl, el, e2⟩ => ?_)
  subst el; subst e2
  refine thn (po_none.run pins s2 σ H2 (fun o z => o = none ∧ z = H2) I2 (And.intro rfl rfl)) fun vu s3 ⟨u, H3, I3, pu, eu, e3⟩ => ?_
  subst eu; subst e3
  refine thn (st.run pins s3 σ H3 (fun o z => o = some (-1) ∧ z = H3) I3 ⟨1, rfl, -1, rfl, rfl, rfl⟩) fun vs s4 ⟨o, H4, I4, ps, eo, e4⟩ => ?_
  subst eo; subst e4
  cases pl; cases pu
  cases ps with
  | int i t =>
  have I5 : Inv X pins σ H4 { s4 with heap := s4.heap.push { cls := .type "slice", data := .fields #[.none, .none, .int (-1) t] } } := I4.kept (t' := s4.toks) fun b ob q => Heap.get?_push_of_some _ q
  obtain ⟨its, r, ht, hz⟩ := I5.tuple hx
  have hl := r.length
  show wpAny (model X.prog X.w) X.A (subscriptTail e (.Slice none none (some (.UnaryOp .USub (.Constant (.int 1) k p1) p2)) p3) (.ref a) (.ref s4.heap.objs.size)) (EP X pins σ Q) X.xe { s4 with heap := s4.heap.push { cls := .type "slice", data := .fields #[.none, .none, .int (-1) t] } }
  refine tail_any (ops := [.ref a, .ref s4.heap.objs.size]) ht.typeIs PyProof.Rows.slot_tuple_getitem.lookup ?_ (by with_unfolding_all rfl)
  refine back_tuple ht (Heap.IsSliceOf.new _ .none .none _) (by rw [List.size_toArray]; omega) ?_
  refine ⟨.ref _, _, I5.laid (t' := s4.toks) (o := .tup xs.reverse) (fun b ob q => Heap.get?_push_of_some _ q) (Nat.le_refl _) ?_, rfl, q _ (I5.hok.fresh (Nat.le_refl _))⟩
  exact ⟨by rw [List.length_reverse]; exact hz, _, r.reverse, IsTup.new _ _⟩
end
end RT

set_option autoImplicit false
set_option maxRecDepth 100000
set_option maxHeartbeats 4000000
namespace DL
open PySem PySem.Spec PyProof.Rows L2
section
variable {X : CxZ}
/-! ### the truth of a value -/
def rdTru : D → Mem → (Bool → Mem → Prop) → Prop := fun d M k => match d with
  | .non => k false M
  | .bl b => k b M
  | .int i => k (i != 0) M
  | .str y => y.length ≤ sizeLine ∧ k ((y.length : Int) != 0) M
  | .tup ds => k (!ds.isEmpty) M
  | d => (match asR M d with | some ds => k (!ds.isEmpty) M | none => False)
def wTru (we : WE) : WT := fun Γ M k => we Γ M fun d M1 => rdTru d M1 k
/-! ### t[::-1] -/
def rdBack : D → Mem → KD → Prop := fun d M k => match d with
  | .tup ds => k (.tup ds.reverse) M
  | _ => False
theorem Dats.rev {K : KZ} {H : Hp} : ∀ {vs : List V} {ds : List D}, Dats K H vs ds → Dats K H vs.reverse ds.reverse
  | _, _, .nil => .nil
  | _, _, .cons (vs := vs) (ds := ds) h t => by
    rw [List.reverse_cons, List.reverse_cons]
    exact Dats.append (Dats.rev t) (.cons h .nil)
theorem de_back {e : Expr} {we : WE} {k : Nat} {p1 p2 p3 pos : Pos} (he : DE X e we) : DE X (.Subscript e (.Slice none none (some (.UnaryOp .USub (.Constant (.int 1) k p1) p2)) p3) pos) (wUn rdBack we) :=
  de_of (RT.pe_back he.run) fun σ H Q Γ Fr H0 M k h1 h2 h3 h4 => ⟨Γ, Fr, H0, M, _, h1, h2, h3, fun v H1 H' d M' e1 w1 r1 q1 => by
    unfold rdBack at q1
    split at q1
    · cases r1 with
      | tup hs hd => exact ⟨_, _, rfl, same_t w1.ex hs, fun p hp => h4 _ _ _ _ M' (e1.trans (same_new (w1.fresh hp))) (w1.new hp) (.tup (.of upd_same) ((Dats.rev hd).mono (same_new (w1.fresh hp)))) q1⟩
    · exact q1.elim⟩
/-! ### {} -/
def wDNew : WE := fun _ M k => ∀ p, M p = none → k (.cel p) (setM M p (.dct []))
theorem de_dnew {pos : Pos} : DE X (.Dict [] [] pos) wDNew :=
  de_of pe_dnewK fun σ H Q Γ Fr H0 M k h1 h2 h3 h4 p hp => h4 _ H0 _ _ _ (Same.refl _) (h2.newM hp (.dct .nil)) (.cel p) (h3 p (h2.freshM hp))
/-! ### list(x) -/
def rdList : FD := fun ds M k => match ds with
  | [x] => (match seqD M x with | some xs => k (.lst xs) M | none => False)
  | _ => False
theorem calld_list {K : KZ} : CallD K (fun xs H Q => ∃ p ys, xs = [.ref p] ∧ (SqL K H p ys ∨ SqT K H p ys) ∧ ∀ l, H l = none → Q (.ref l) (upd H l (.lst ys))) rdList := fun Fr H0 M H vs ds k Q w r h c => by
  unfold rdList at h
  split at h
  · obtain ⟨v, rfl, rv⟩ := dats1 r
    split at h
    · rename_i xs e
      obtain ⟨a, ws, rfl, hs, hd⟩ := seqD_ok w rv e
      exact ⟨a, ws, rfl, hs, fun l hl => c _ _ _ _ M (same_new (w.fresh hl)) (w.new hl) (.lst upd_same (hd.mono (same_new (w.fresh hl)))) h⟩
    · exact h.elim
  · exact h.elim
theorem de_list {e : Expr} {we : WE} {p pos : Pos} (hm : X.mg "list" = none) (he : DE X e we) (hs : starEach [e] X.env = (false, eval e X.env) :: starEach [] X.env := by rfl) (hg : Gl X "list" := by rfl) (hpl : (backTo pos (starEach [] X.env)).any (·.1) = false := by rfl) :
    DE X (.Call (.Name "list" p) [e] [] pos) (wCall rdList (wCons we wNil)) :=
  de_callTy call_list_of calld_list hm PyProof.Rows.boot_list (da_cons he da_nil hs) hg (by decide) (by decide) hs hpl
/-! ### len(set(xs)), sorted(set(xs)), xs a list of texts -/
end
end DL

set_option autoImplicit false
set_option maxRecDepth 100000
set_option maxHeartbeats 4000000
namespace DL
open PySem PySem.Spec PyProof.Rows L2
section
variable {X : CxZ}
end
/-! ### data without cells, and its equality -/
mutual
def deep : D → Nat
  | .tup ds => deeps ds + 1
  | .lst ds => deeps ds + 1
  | _ => 0
def deeps : List D → Nat
  | [] => 0
  | d :: ds => max (deep d) (deeps ds)
end
end DL

set_option autoImplicit false
set_option maxRecDepth 100000
set_option maxHeartbeats 4000000
/-! what repr tells of data: nested lists and tuples, bare dicts among them -/
namespace RP
open PySem PySem.Spec PyProof.Rows L2
mutual
inductive DR (K : PySem.W.Frag) (H : Hp) : V → PyData → Prop
  | non : DR K H .non .none
  | bl (b : Bool) : DR K H (.bl b) (.bool b)
  | int (i : Int) : DR K H (.int i) (.int i)
  | str (y : Str) : DR K H (.str y) (.str y)
  | lst {a : Addr} {vs : List V} {ps : List PyData} : SqL K H a vs → DRs K H vs ps → DR K H (.ref a) (.list ps)
  | tup {a : Addr} {vs : List V} {ps : List PyData} : SqT K H a vs → DRs K H vs ps → DR K H (.ref a) (.tuple ps)
  | bare {a : Addr} : Rd H a (.dK []) → DR K H (.ref a) (.dict [])
  | one {a : Addr} {x : Str} {v : V} {p : PyData} : Rd H a (.dK [(.inr x, v)]) → DR K H v p → DR K H (.ref a) (.dict [(.str x, p)])
inductive DRs (K : PySem.W.Frag) (H : Hp) : List V → List PyData → Prop
  | nil : DRs K H [] []
  | cons {v : V} {vs : List V} {p : PyData} {ps : List PyData} : DR K H v p → DRs K H vs ps → DRs K H (v :: vs) (p :: ps)
end
section
variable {X : Cx} {P : Program} {w : World} {pins : List (Addr × Obj)} {σ : List (Option V)} {H : Hp} {s : Shared}
/-- how the value at hand is shown within another -/
def Part (P : Program) (w : World) (s : Shared) (u : Value) (p : PyData) : Prop := ∃ as bs, Reads s.heap u p as ∧ ReadAtMost s.heap p.depth bs ∧ ReprK P w bs s.heap p.depth u p.shown
def Parts (P : Program) (w : World) (s : Shared) (us : List Value) (ps : List PyData) : Prop :=
  ∃ as bs, ReadsAll s.heap us ps as ∧ ReadAtMost s.heap (PyData.depthAll ps) bs ∧ ReprAllK P w bs s.heap (PyData.depthAll ps) us (PyData.shownAll ps)
theorem leaf {u : Value} {p : PyData} (r : Reads s.heap u p []) (h : ReprIs P w u p.shown) : Part P w s u p := ⟨[], [], r, (fun _ z => by cases z), .of_is h _ _ _⟩
/-- a bare dict's place -/
theorem bare_at (I : Inv X pins σ H s) {a : Addr} (e : Rd H a (.dK [])) : ∃ o n, s.heap.get? a = some o ∧ o.cls = .type "dict" ∧ o.data = .dict #[] n ∧ (a == sysModules) = false := by
  obtain ⟨_, hs, vs, r, o, es, ep, g, ex, d, _, pr, _⟩ := dk_rd I.hok e
  cases r
  have : es.toList = [] := by
    cases q : es.toList with
    | nil => rfl
    | cons e l => rw [q] at pr; cases pr
  have he : es = #[] := by cases es; simp only at this; rw [this]
  rw [he] at d
  exact ⟨o, ep, g, ex.1, d, hs⟩
/-- a dict of one entry -/
theorem one_at (I : Inv X pins σ H s) {a : Addr} {x : Str} {v : V} (e : Rd H a (.dK [(.inr x, v)])) :
    ∃ o en n t, s.heap.get? a = some o ∧ o.cls = .type "dict" ∧ o.data = .dict #[en] n ∧ (a == sysModules) = false ∧ en.key = .str x t ∧ RelV v en.val := by
  obtain ⟨_, hs, vs, r, o, es, ep, g, ex, d, _, pr, _⟩ := dk_rd I.hok e
  cases r with
  | @cons _ q _ ur hq rr =>
    cases rr
    obtain ⟨κ, u⟩ := q
    obtain ⟨ek, ru⟩ := hq
    have ek : Sum.inr x = κ := ek
    subst ek
    obtain ⟨l⟩ := es
    have pr : PySem.Pairs (mixKind X.prog X.w) l [(.inr x, u)] := pr
    cases pr with
    | @cons en _ es' _ h1 h2 h3 =>
      cases h3
      have h1 : keyIs (.inr x) en.key = true := h1
      have h2 : en.val = u := h2
      have ru : RelV v u := ru
      rcases keyIs_shape h1 with ⟨i, t, z, _⟩ | ⟨y, t, z, ey⟩
      · cases z
      · cases z
        exact ⟨o, en, ep, t, g, ex.1, d, hs, ey, by rw [h2]; exact ru⟩
theorem shown_one (x : Str) (p : PyData) : PyData.shown (.dict [(.str x, p)]) = dictText [PyData.shown (.str x) ++ ": " ++ p.shown] := by
  have e1 : PyData.shownKv [(.str x, p)] = [PyData.shown (.str x) ++ ": " ++ p.shown] := by simp only [PyData.shownKv]
  rw [← e1]
  conv => lhs; unfold PyData.shown
theorem one_le {x : Str} {p : PyData} {n : Nat} (h : (PyData.shown (.dict [(.str x, p)])).length ≤ n) : (PyData.shown (.str x)).length ≤ n ∧ p.shown.length ≤ n := by
  rw [shown_one] at h
  have h := Nat.le_trans (dictText_mem_le (ps := [PyData.shown (.str x) ++ ": " ++ p.shown]) List.mem_cons_self) h
  rw [Str.length_append, Str.length_append] at h
  exact ⟨by omega, by omega⟩
theorem depth_one (x : Str) (p : PyData) : PyData.depth (.dict [(.str x, p)]) = p.depth + 1 := by
  simp only [PyData.depth, PyData.depthKv]
  omega
theorem show_one {x : Str} {p : PyData} (h : PyData.showable (.dict [(.str x, p)]) = true) : p.showable = true := by
  unfold PyData.showable PyData.showableKv at h
  simp only [Bool.and_eq_true] at h
  exact h.1.2
mutual
theorem DR.part (I : Inv X pins σ H s) : ∀ (p : PyData) (v : V) (u : Value), DR X.K H v p → RelV v u → p.showable = true → p.shown.length ≤ sizeLine → Part P w s u p
  | .none, _, _, h, r, _, _ => by cases h; cases r; exact leaf .none (by unfold PyData.shown; exact ReprIs.none)
  | .bool b, _, _, h, r, _, _ => by cases h; cases r; exact leaf (.bool b) (by unfold PyData.shown; exact ReprIs.bool b)
  | .int i, _, _, h, r, hs, _ => by
    cases h; obtain ⟨t, rfl⟩ := r
    exact leaf (.int i t) (by unfold PyData.shown; exact ReprIs.int t (by unfold PyData.showable at hs; simpa using hs))
  | .str y, _, _, h, r, _, hz => by
    cases h; obtain ⟨t, rfl⟩ := r
    exact leaf (.str y t) (by unfold PyData.shown at *; exact ReprIs.str y t hz)
  | .list ps, _, _, h, r, hs, hz => by
    cases h with
    | lst sq hd =>
      cases r
      obtain ⟨its, rv, ⟨o, n, g, hc, _, dt⟩, _⟩ := I.list sq
      have hz2 : (listText (PyData.shownAll ps)).length ≤ sizeLine := by unfold PyData.shown at hz; exact hz
      obtain ⟨as, bs, r1, r2, r3⟩ := DR.parts I ps _ its hd rv (by unfold PyData.showable at hs; exact hs) fun t ht => Nat.le_trans (listText_mem_le ht) hz2
      have rd : Reads s.heap _ (.list ps) _ := .list g hc dt r1
      have dd : PyData.depthAll ps + 1 = PyData.depth (.list ps) := by unfold PyData.depth; rfl
      have nm := not_mem_of_deeper rd (n := PyData.depthAll ps) (by omega) r2
      refine ⟨_, _, rd, ReadAtMost.cons rd (by omega) r2, ?_⟩
      rw [← dd]
      unfold PyData.shown
      cases its with
      | nil =>
        cases r1
        unfold PyData.shownAll
        rw [listText_nil]
        exact ReprK.listEmpty g hc dt
      | cons x l => exact ReprK.list g hc dt nm (by simpa using r3.length_eq) fun i y e => r3.item i y (by simpa using e)
  | .tuple ps, _, _, h, r, hs, hz => by
    cases h with
    | tup sq hd =>
      cases r
      obtain ⟨its, rv, ⟨o, g, hc, n, dt⟩, _⟩ := I.tuple sq
      have hz2 : (tupleText (PyData.shownAll ps)).length ≤ sizeLine := by unfold PyData.shown at hz; exact hz
      obtain ⟨as, bs, r1, r2, r3⟩ := DR.parts I ps _ its hd rv (by unfold PyData.showable at hs; exact hs) fun t ht => Nat.le_trans (tupleText_mem_le ht) hz2
      have rd : Reads s.heap _ (.tuple ps) _ := .tuple g hc dt r1
      have dd : PyData.depthAll ps + 1 = PyData.depth (.tuple ps) := by unfold PyData.depth; rfl
      have nm := not_mem_of_deeper rd (n := PyData.depthAll ps) (by omega) r2
      refine ⟨_, _, rd, ReadAtMost.cons rd (by omega) r2, ?_⟩
      rw [← dd]
      unfold PyData.shown
      exact ReprK.tuple g hc dt nm r3
  | .dict kvs, _, _, h, r, hs, hz => by
    cases h with
    | bare e =>
      cases r
      obtain ⟨o, n, g, hc, dt, sm⟩ := bare_at I e
      have rd : Reads s.heap _ (.dict []) _ := .dict (kvs := []) g hc dt .nil .nil
      refine ⟨_, _, rd, ReadAtMost.cons (n := 0) (bs := []) rd (Nat.zero_le _) (fun _ z => by cases z), ?_⟩
      have dd : PyData.depth (.dict []) = 0 + 1 := by unfold PyData.depth PyData.depthKv; rfl
      rw [dd]
      unfold PyData.shown PyData.shownKv
      exact ReprK.dict g hc dt sm (fun z => by cases z) .nil
    | @one _ x v p e hp =>
      cases r
      obtain ⟨o, en, n, t, g, hc, dt, sm, ek, ru⟩ := one_at I e
      obtain ⟨l1, l2⟩ := one_le hz
      obtain ⟨as, bs, r1, r2, r3⟩ := DR.part I p v en.val hp ru (show_one hs) l2
      have rd : Reads s.heap _ (.dict [(.str x, p)]) _ := .dict g hc dt (show ReadsAll s.heap [en.key] [.str x] ([] ++ []) from .cons (by rw [ek]; exact .str x t) .nil) (show ReadsAll s.heap [en.val] [p] (as ++ []) from .cons r1 .nil)
      have nm := not_mem_of_deeper rd (n := p.depth) (by rw [depth_one]; omega) r2
      have ra := ReadAtMost.cons rd (n := p.depth) (by rw [depth_one]; omega) r2
      refine ⟨_, _, rd, ra, ?_⟩
      rw [depth_one, shown_one]
      refine ReprK.dict g hc dt sm nm (.cons ?_ r3 .nil)
      rw [ek]
      exact .of_is (by unfold PyData.shown at l1 ⊢; exact ReprIs.str x t l1) _ _ _
theorem DR.parts (I : Inv X pins σ H s) : ∀ (ps : List PyData) (vs : List V) (us : List Value), DRs X.K H vs ps → Vals vs us → PyData.showableAll ps = true → (∀ t ∈ PyData.shownAll ps, t.length ≤ sizeLine) → Parts P w s us ps
  | [], _, _, h, r, _, _ => by
    cases h; cases r
    exact ⟨[], [], .nil, (fun _ z => by cases z), by unfold PyData.shownAll; exact .nil⟩
  | p :: ps, _, _, h, r, hs, hz => by
    cases h with
    | cons h1 h2 =>
      cases r with
      | cons q1 q2 =>
        unfold PyData.showableAll at hs
        rw [Bool.and_eq_true] at hs
        unfold PyData.shownAll at hz
        obtain ⟨a1, b1, x1, x2, x3⟩ := DR.part I p _ _ h1 q1 hs.1 (hz _ List.mem_cons_self)
        obtain ⟨a2, b2, y1, y2, y3⟩ := DR.parts I ps _ _ h2 q2 hs.2 fun t ht => hz t (List.mem_cons_of_mem _ ht)
        refine ⟨_, b1 ++ b2, .cons x1 y1, ?_, ?_⟩
        · unfold PyData.depthAll
          exact (x2.mono (Nat.le_max_left _ _)).append (y2.mono (Nat.le_max_right _ _))
        · unfold PyData.depthAll PyData.shownAll
          exact .cons ((x3.more fun b hb => List.mem_append_left _ hb).level_le (Nat.le_max_left _ _)) (y3.more_le (fun b hb => List.mem_append_right _ hb) (Nat.le_max_right _ _))
end
/-- the same at the outmost place -/
theorem shows (I : Inv X pins σ H s) {a : Addr} {p : PyData} (h : DR X.K H (.ref a) p) (hs : p.showable = true) (hz : p.shown.length ≤ sizeLine) : ∃ T idr, ShowsBy P w s.heap a p T idr := by
  cases h with
  | lst sq hd =>
    rename_i vs ps
    obtain ⟨its, rv, ⟨o, n, g, hc, _, dt⟩, _⟩ := I.list sq
    have hz2 : (listText (PyData.shownAll ps)).length ≤ sizeLine := by unfold PyData.shown at hz; exact hz
    obtain ⟨as, bs, r1, r2, r3⟩ := DR.parts (P := P) (w := w) I ps _ its hd rv (by unfold PyData.showable at hs; exact hs) fun t ht => Nat.le_trans (listText_mem_le ht) hz2
    have rd : Reads s.heap _ (.list ps) _ := .list g hc dt r1
    have dd : PyData.depthAll ps + 1 = PyData.depth (.list ps) := by unfold PyData.depth; rfl
    have nm := not_mem_of_deeper rd (n := PyData.depthAll ps) (by omega) r2
    refine ⟨"list", "list.__repr__", F.slot_list_repr.toG, F.slot_list_str, F.slot_list_format, fun s' k => ⟨o, k _ _ g, hc⟩, fun A E s' Q hg hu hk hQ => ?_⟩
    rw [← dd] at hu
    unfold PyData.shown at hQ
    cases its with
    | nil =>
      cases r1
      unfold PyData.shownAll at hQ
      rw [listText_nil] at hQ
      exact call_list_repr_empty ⟨o, hk _ _ g, hc⟩ (hk _ _ g) dt (hQ s'.heap _ _ fun _ _ z => z)
    | cons x l => exact call_list_reprK g hc dt nm (by simpa using r3.length_eq) (fun i y e => r3.item i y (by simpa using e)) hg (fun b _ => Clear.nil b) hu hk hQ hz2
  | tup sq hd =>
    rename_i vs ps
    obtain ⟨its, rv, ⟨o, g, hc, n, dt⟩, _⟩ := I.tuple sq
    have hz2 : (tupleText (PyData.shownAll ps)).length ≤ sizeLine := by unfold PyData.shown at hz; exact hz
    obtain ⟨as, bs, r1, r2, r3⟩ := DR.parts (P := P) (w := w) I ps _ its hd rv (by unfold PyData.showable at hs; exact hs) fun t ht => Nat.le_trans (tupleText_mem_le ht) hz2
    have rd : Reads s.heap _ (.tuple ps) _ := .tuple g hc dt r1
    have dd : PyData.depthAll ps + 1 = PyData.depth (.tuple ps) := by unfold PyData.depth; rfl
    have nm := not_mem_of_deeper rd (n := PyData.depthAll ps) (by omega) r2
    refine ⟨"tuple", "tuple.__repr__", F.slot_tuple_repr, F.slot_tuple_str, F.slot_tuple_format, fun s' k => ⟨o, k _ _ g, hc⟩, fun A E s' Q hg hu hk hQ => ?_⟩
    rw [← dd] at hu
    unfold PyData.shown at hQ
    exact call_tuple_reprK g hc dt nm r3 hg (fun b _ => Clear.nil b) hu hk hQ hz2
  | bare e =>
    obtain ⟨o, n, g, hc, dt, sm⟩ := bare_at I e
    refine ⟨"dict", "dict.__repr__", F.slot_dict_repr, F.slot_dict_str, F.slot_dict_format, fun s' k => ⟨o, k _ _ g, hc⟩, fun A E s' Q hg hu hk hQ => ?_⟩
    have dd : PyData.depth (.dict []) = 0 + 1 := by unfold PyData.depth PyData.depthKv; rfl
    rw [dd] at hu
    unfold PyData.shown PyData.shownKv at hQ
    exact call_dict_reprK (as := []) g hc dt sm (fun z => by cases z) .nil hg (fun b _ => Clear.nil b) hu hk hQ (by unfold PyData.shown PyData.shownKv at hz; exact hz)
  | @one _ x v p e hp =>
    obtain ⟨o, en, n, t, g, hc, dt, sm, ek, ru⟩ := one_at I e
    obtain ⟨l1, l2⟩ := one_le hz
    obtain ⟨as, bs, r1, r2, r3⟩ := DR.part (P := P) (w := w) I p v en.val hp ru (show_one hs) l2
    have rd : Reads s.heap _ (.dict [(.str x, p)]) _ := .dict g hc dt (show ReadsAll s.heap [en.key] [.str x] ([] ++ []) from .cons (by rw [ek]; exact .str x t) .nil) (show ReadsAll s.heap [en.val] [p] (as ++ []) from .cons r1 .nil)
    have nm := not_mem_of_deeper rd (n := p.depth) (by rw [depth_one]; omega) r2
    refine ⟨"dict", "dict.__repr__", F.slot_dict_repr, F.slot_dict_str, F.slot_dict_format, fun s' k => ⟨o, k _ _ g, hc⟩, fun A E s' Q hg hu hk hQ => ?_⟩
    rw [depth_one] at hu
    rw [shown_one] at hQ
    refine call_dict_reprK g hc dt sm nm (.cons ?_ r3 .nil) hg (fun b _ => Clear.nil b) hu hk hQ (by rw [shown_one] at hz; exact hz)
    rw [ek]
    exact .of_is (by unfold PyData.shown at l1 ⊢; exact ReprIs.str x t l1) _ _ _
end
def rRepr (K : PySem.W.Frag) : List V → Hp → VK → Prop := fun xs H Q => ∃ v p, xs = [v] ∧ DR K H v p ∧ p.showable = true ∧ p.shown.length ≤ sizeLine ∧ p.depth ≤ 64 ∧ Q (.str p.shown) H
theorem call_repr {X : Cx} {k : Nat} (hr : DG.RoomG k X.A) : CallR X (.builtin "repr") (rRepr X.K) := by
  intro pins s σ H xs us Q I rs h
  obtain ⟨v, p, rfl, hd, hs, hz, dp, q⟩ := h
  obtain ⟨u, rfl, r⟩ := vals1 rs
  have un := hr.r.un
  cases v with
  | ref a =>
    cases r
    obtain ⟨T, idr, S⟩ := shows (P := X.prog) (w := X.w) I hd hs hz
    refine call_repr_slot (by omega) (S.typeIs s fun _ _ z => z) S.slotRepr (S.call X.A.in1 _ s _ hr.g (by show X.A.units + 1 + p.depth < cLine; omega) (fun _ _ z => z) fun h' u' tk hk => ⟨_, _, rfl, ?_⟩)
    exact ⟨.str p.shown, H, I.kept (t' := tk) fun b o e => hk b o e, ⟨_, rfl⟩, q⟩
  | non =>
    cases hd; cases r
    unfold PyData.shown at q
    exact PySem.P.repr_of_none ⟨.str _, H, I.tok _, ⟨_, rfl⟩, q⟩
  | bl b =>
    cases hd; cases r
    unfold PyData.shown at q
    exact PySem.P.repr_of_bool ⟨.str _, H, I.tok _, ⟨_, rfl⟩, q⟩
  | int i =>
    cases hd; obtain ⟨t, rfl⟩ := r
    unfold PyData.shown at q
    exact PySem.P.repr_of_int (by unfold PyData.showable at hs; simpa using hs) ⟨.str _, H, I.tok _, ⟨_, rfl⟩, q⟩
  | str y =>
    cases hd; obtain ⟨t, rfl⟩ := r
    unfold PyData.shown at q hz
    exact PySem.P.repr_of_str ⟨.str _, H, I.tok _, ⟨_, rfl⟩, q⟩ hz
  | _ => cases hd
end RP

set_option autoImplicit false
set_option maxRecDepth 100000
set_option maxHeartbeats 4000000
/-! repr in the layer; truths as numbers; a text's capitals; str() of anything -/
namespace DL
open PySem PySem.Spec PyProof.Rows L2
section
variable {K : KZ} {Fr H0 H : Hp} {M : Mem}
end
theorem boot_repr : bootBuiltins "repr" = some (.builtin "repr") := by decide +kernel
end DL

set_option autoImplicit false
set_option maxRecDepth 100000
set_option maxHeartbeats 4000000
/-! a tuple of anything, held against the empty one -/
namespace EQ
open PySem PySem.Spec PyProof.Rows L2
section
variable {X : Cx}
end
/-! a text held against a dict -/
/-! such a thing in a list or tuple of texts -/
section
variable {X : Cx} {pins : List (Addr × Obj)} {σ : List (Option V)} {H : Hp} {s : Shared}
end
end EQ

set_option autoImplicit false
set_option maxRecDepth 100000
set_option maxHeartbeats 4000000
/-! held against the empty tuple; anything looked for among texts -/
namespace DL
open PySem PySem.Spec PyProof.Rows L2
section
variable {X : CxZ} {K : KZ}
/-- none of the dicts whose keys are tuples -/
def oldC : Cell → Bool
  | .dnt .. => false
  | .rng .. => false
  | .ctab .. => false
  | .dcf .. => false
  | .ins .. => false
  | .exc _ _ _ => false
  | _ => true
end
end DL

set_option autoImplicit false
set_option maxRecDepth 100000
set_option maxHeartbeats 4000000
/-! str() of what is no text, a text's capitals -/
namespace DL
open PySem PySem.Spec PyProof.Rows L2
section
variable {X : CxZ}
/-! + and - where a truth may stand for a number -/
end
end DL

set_option autoImplicit false
set_option maxRecDepth 100000
set_option maxHeartbeats 4000000
/-! data whose showing fits: plain signs, numbers below 10 ** 12, bare dicts alone; its weight and depth -/
namespace DL
open PySem PySem.Spec PyProof.Rows L2
def plain (s : Str) : Bool := s.cps.toList.all fun c => decide (c < 128)
mutual
def fit (N : Nat) (M : Mem) : D → Bool
  | .non => true
  | .bl _ => true
  | .int i => decide (i.natAbs < N)
  | .str s => plain s
  | .tup ds => fits N M ds
  | .lst ds => fits N M ds
  | .cel a => match M a with | some (.dct []) => true | _ => false
  | _ => false
def fits (N : Nat) (M : Mem) : List D → Bool
  | [] => true
  | d :: ds => fit N M d && fits N M ds
end
mutual
def heavy : D → Nat
  | .int _ => 41
  | .str s => s.length
  | .tup ds => heavies ds
  | .lst ds => heavies ds
  | _ => 0
def heavies : List D → Nat
  | [] => 0
  | d :: ds => heavy d + 1 + heavies ds
end
mutual
def far : D → Nat
  | .tup ds => fars ds + 1
  | .lst ds => fars ds + 1
  | .cel _ => 1
  | _ => 0
def fars : List D → Nat
  | [] => 0
  | d :: ds => max (far d) (fars ds)
end
theorem log_small {i : Int} (h : i.natAbs < 10 ^ 12) : i.natAbs.log2 ≤ 40 := by
  by_cases z : i.natAbs = 0
  · rw [z]; decide
  · have : i.natAbs.log2 < 41 := (Nat.log2_lt z).mpr (by omega)
    omega
end DL

set_option autoImplicit false
set_option maxRecDepth 100000
set_option maxHeartbeats 4000000
/-! what is shown of plain data is plain; capitals of plain texts -/
namespace DL
open PySem PySem.Spec PyProof.Rows L2
theorem plain_iff {s : Str} : plain s = true ↔ ∀ c ∈ s.cps.toList, c < 128 := by
  unfold plain
  rw [List.all_eq_true]
  exact ⟨fun h c hc => of_decide_eq_true (h c hc), fun h c hc => decide_eq_true (h c hc)⟩
end DL

set_option autoImplicit false
set_option maxRecDepth 100000
set_option maxHeartbeats 4000000
/-! a module's dict with text keys: get, an item, in; statements one behind another -/
namespace DL
open PySem PySem.Spec PyProof.Rows L2
inductive Ents : List (Str × V) → List DictEntry → Prop
  | nil : Ents [] []
  | cons {k : Str} {v : V} {kvs : List (Str × V)} {e : DictEntry} {es : List DictEntry} (t : Tok) : e.key = .str k t → RelV v e.val → Ents kvs es → Ents ((k, v) :: kvs) (e :: es)
def lookT {α : Type} (kvs : List (Str × α)) (s : Str) : Option α := (kvs.find? fun p => decide (p.1 = s)).map (·.2)
theorem Ents.refs {kvs : List (Str × V)} {es : List DictEntry} (h : Ents kvs es) : es.any (·.refKey) = false := by
  induction h with
  | nil => rfl
  | cons t h1 _ _ ih =>
    rw [List.any_cons, ih]
    unfold DictEntry.refKey
    rw [h1]; rfl
theorem Ents.find {kvs : List (Str × V)} {es : List DictEntry} (h : Ents kvs es) (s : Str) : (∃ v e, lookT kvs s = some v ∧ es.find? (·.key.isStr s) = some e ∧ RelV v e.val) ∨ (lookT kvs s = none ∧ es.find? (·.key.isStr s) = none) := by
  induction h with
  | nil => exact .inr ⟨rfl, rfl⟩
  | @cons k v kvs e es t h1 h2 _ ih =>
    unfold lookT at ih ⊢
    rw [List.find?_cons, List.find?_cons]
    have e1 : e.key.isStr s = decide (k = s) := by
      rw [h1]
      show (k == s) = _
      by_cases q : k = s <;> simp [q]
    by_cases q : k = s
    · subst q
      simp only [e1, decide_true]
      exact .inl ⟨v, e, rfl, rfl, h2⟩
    · simp only [e1, q, decide_false]
      exact ih
structure MDict (K : PySem.W.Frag) (w : World) (mg : Str → Option Value) (x : Str) (kvs : List (Str × V)) : Prop where
  ex : ∃ a es n, mg x = some (.ref a) ∧ KDict K w a es n ∧ Ents kvs es.toList
theorem ents_ns {K : PySem.W.Frag} {w : World} {a : Addr} {es : Array DictEntry} {n : Nat} {kvs : List (Str × V)} (D : KDict K w a es n) (h : Ents kvs es.toList) (s : Str) :
    ∃ r, PySem.W.nsIn K a s = some r ∧ ((∃ v u, lookT kvs s = some v ∧ r = some u ∧ RelV v u) ∨ (lookT kvs s = none ∧ r = none)) := by
  unfold PySem.W.nsIn
  rw [D.at_]
  simp only
  rcases h.find s with ⟨v, e, h1, h2, h3⟩ | ⟨h1, h2⟩
  · rw [h2]; exact ⟨_, rfl, .inl ⟨v, _, h1, rfl, h3⟩⟩
  · rw [h2, h.refs]; exact ⟨_, rfl, .inr ⟨h1, rfl⟩⟩
section
variable {X : CxZ} {x : Str} {kvs : List (Str × V)} {p apos cpos pos : Pos} {e : Expr} {ty : TE}
theorem pe_mget (D : MDict X.K X.w X.mg x kvs) (hg : Gl X x) (he : PE X e ty) (m : M1 X (.Name x p) "get" apos e cpos) (hdb : (x == ("__debug__" : Str)) = false) :
    PE X (.Call (.Attribute (.Name x p) "get" apos) [e] [] cpos) (fun σ H Q => ty σ H fun y H1 => ∃ z, y = .str z ∧ Q ((lookT kvs z).getD .non) H1) := by
  obtain ⟨a, es, n, hm, kd, en⟩ := D.ex
  refine ⟨fun pins s σ H Q I h => ?_⟩
  have ho : PE X (.Name x p) (tC (.ref a)) := pe_glob hg hm rfl hdb
  refine wpAny_Call_method m.base m.few m.line PySem.F.plainAttrs_dict PySem.F.slot_dict_get PySem.F.type_dict_get (thn (ho.run pins s σ H (fun v H1 => v = .ref a ∧ H1 = H) I ⟨rfl, rfl⟩) fun u s1 ⟨v, H1, I1, rx, e1, e2⟩ => ?_)
  subst e1 e2
  obtain rfl : u = Value.ref a := rx
  have mo := PySem.W.mapOf_K (prog := X.prog) (w := X.w) I1.kIn kd.at_ kd.lit
  refine ⟨mo.typeIs, fun b q => ?_, ?_⟩
  · cases q
    obtain ⟨ob, _, _, h1, h2, _⟩ := mo
    exact ⟨ob, h1, h2.2.1⟩
  rw [m.trees]
  refine Calls.callWith_builtin rfl (Calls.evalArgs_plain (Calls.spliced_cons (thn (he.run pins s1 σ H1 _ I1 h) fun iv s2 ⟨y, H2, I2, ry, z, ez, q2⟩ => Calls.spliced_nil ?_)))
  subst ez
  obtain ⟨t, rfl⟩ := (show ∃ t, iv = Value.str z t from ry)
  obtain ⟨r, hr, hv⟩ := ents_ns kd en z
  have mo := PySem.W.mapOf_K (prog := X.prog) (w := X.w) I2.kIn kd.at_ kd.lit
  refine call_meetsIn PySem.F.slot_dict_get mo.typeIs PySem.F.entry_dict_get (PySem.F.args_dict_get_2 _ _) (meets_dict_get (PySem.strKind X.prog X.w) a (PySem.strKind_is X.prog X.w z t) kd.low) ⟨_, mo, ?_⟩
  rw [PySem.W.find_K kd.at_ hr]
  rcases hv with ⟨v, u, h1, rfl, h3⟩ | ⟨h1, rfl⟩
  · rw [h1] at q2; exact ⟨v, H2, I2.tok _, h3, q2⟩
  · rw [h1] at q2; exact ⟨.non, H2, I2.tok _, rfl, q2⟩
end
/-! by data -/
def vF : D → V
  | .int i => .int i
  | .str s => .str s
  | .bl b => .bl b
  | .cel a => .ref a
  | _ => .non
def okF : D → Bool
  | .int _ => true
  | .str _ => true
  | .bl _ => true
  | .cel _ => true
  | .non => true
  | _ => false
theorem dat_vF {K : KZ} {H : Hp} : ∀ {d : D}, okF d = true → Dat K H (vF d) d
  | .int i, _ => .int i
  | .str s, _ => .str s
  | .bl b, _ => .bl b
  | .cel a, _ => .cel a
  | .non, _ => .non
abbrev MDictD (K : PySem.W.Frag) (w : World) (mg : Str → Option Value) (x : Str) (kvs : List (Str × D)) : Prop := (∀ p ∈ kvs, okF p.2 = true) ∧ MDict K w mg x (kvs.map fun p => (p.1, vF p.2))
theorem lookT_map (kvs : List (Str × D)) (s : Str) : lookT (kvs.map fun p => (p.1, vF p.2)) s = (lookT kvs s).map vF := by
  unfold lookT
  induction kvs with
  | nil => rfl
  | cons p r ih =>
    rw [List.map_cons, List.find?_cons, List.find?_cons]
    by_cases q : p.1 = s
    · simp [q]
    · simp only [q, decide_false]; exact ih
theorem lookT_mem {α : Type} {kvs : List (Str × α)} {s : Str} {d : α} (h : lookT kvs s = some d) : (s, d) ∈ kvs := by
  unfold lookT at h
  cases q : kvs.find? fun p => decide (p.1 = s) with
  | none => rw [q] at h; cases h
  | some p =>
    rw [q] at h
    cases h
    have := List.find?_some q
    have e : p.1 = s := of_decide_eq_true this
    rw [← e]; exact List.mem_of_find?_eq_some q
def rdMGet (kvs : List (Str × D)) : D → Mem → KD → Prop := fun d M k => match d with | .str s => k ((lookT kvs s).getD .non) M | _ => False
section
variable {X : CxZ} {x : Str} {kvs : List (Str × D)} {p apos cpos pos : Pos} {e : Expr} {we : WE}
theorem de_mget (D : MDictD X.K X.w X.mg x kvs) (he : DE X e we) (hg : Gl X x := by rfl) (m : M1 X (.Name x p) "get" apos e cpos := by exact ⟨rfl, rfl, rfl, rfl⟩) (hdb : (x == ("__debug__" : Str)) = false := by decide) :
    DE X (.Call (.Attribute (.Name x p) "get" apos) [e] [] cpos) (wUn (rdMGet kvs) we) :=
  de_of (pe_mget D.2 hg he.run m hdb) fun σ H Q Γ Fr H0 M k h1 h2 h3 h4 => ⟨Γ, Fr, H0, M, _, h1, h2, h3, fun v H1 H' d M' e1 w1 r1 q1 => by
    unfold rdMGet at q1
    split at q1
    · rename_i s
      cases r1
      refine ⟨s, rfl, ?_⟩
      rw [lookT_map]
      cases q : lookT kvs s with
      | none => rw [q] at q1; exact h4 _ _ _ .non _ e1 w1 .non q1
      | some y => rw [q] at q1; exact h4 _ _ _ y _ e1 w1 (dat_vF (D.1 _ (lookT_mem q))) q1
    · exact q1.elim⟩
/-! statements one behind another -/
theorem seq_step {u v : WS} {k : KS} {Γ : DL.Env} {M : Mem} (h : u ⟨v k, k.rt, k.bk, k.ct⟩ Γ M) : wSeq u v k Γ M := h
/-- a cut: what holds between them -/
theorem seq_join {u v : WS} {k : KS} {Γ : DL.Env} {M : Mem} (J : DL.Env → Mem → Prop) (h1 : ∀ Γ' M', J Γ' M' → v k Γ' M') (h2 : ∀ n : DL.Env → Mem → Prop, (∀ Γ' M', J Γ' M' → n Γ' M') → u ⟨n, k.rt, k.bk, k.ct⟩ Γ M) : wSeq u v k Γ M := h2 _ h1
end
section
variable {P : Program} {w : World} {K : PySem.W.Frag} {mg : Str → Option Value} {base : Heap}
theorem DFn.or {k : Nat} {f : Addr} {fd : FuncData} {ps : List Str} {F1 F2 : FD} (G1 : DFn P w K mg base k f fd ps F1) (G2 : DFn P w K mg base k f fd ps F2) : DFn P w K mg base k f fd ps (fun ds M kd => F1 ds M kd ∨ F2 ds M kd) :=
  ⟨fun vs H Q E ⟨Fr, H0, M, ds, kd, a, b, c, d⟩ => c.elim (fun q => G1.len vs H Q E ⟨Fr, H0, M, ds, kd, a, b, q, d⟩) (fun q => G2.len vs H Q E ⟨Fr, H0, M, ds, kd, a, b, q, d⟩),
   fun A o s H as us vs Q E r e bi v ⟨Fr, H0, M, ds, kd, a, b, c, d⟩ => c.elim (fun q => G1.run A o s H as us vs Q E r e bi v ⟨Fr, H0, M, ds, kd, a, b, q, d⟩) (fun q => G2.run A o s H as us vs Q E r e bi v ⟨Fr, H0, M, ds, kd, a, b, q, d⟩)⟩
/-- a contract over many -/
theorem DFn.all {ι : Type} {k : Nat} {f : Addr} {fd : FuncData} {ps : List Str} {F : ι → FD} (i0 : ι) (G : ∀ i, DFn P w K mg base k f fd ps (F i)) : DFn P w K mg base k f fd ps (fun ds M kd => ∃ i, F i ds M kd) :=
  ⟨fun vs H Q E ⟨Fr, H0, M, ds, kd, a, b, ⟨i, c⟩, d⟩ => (G i).len vs H Q E ⟨Fr, H0, M, ds, kd, a, b, c, d⟩,
   fun A o s H as us vs Q E r e bi v ⟨Fr, H0, M, ds, kd, a, b, ⟨i, c⟩, d⟩ => (G i).run A o s H as us vs Q E r e bi v ⟨Fr, H0, M, ds, kd, a, b, c, d⟩⟩
theorem DFn.none {k : Nat} {f : Addr} {fd : FuncData} {ps : List Str} : DFn P w K mg base k f fd ps (fun _ _ _ => False) :=
  ⟨fun vs H Q E ⟨_, _, _, _, _, _, _, h, _⟩ => h.elim, fun A outer s H args us vs Q E _ _ _ _ ⟨_, _, _, _, _, _, _, h, _⟩ => h.elim⟩
end
end DL

set_option autoImplicit false
set_option maxRecDepth 100000
set_option maxHeartbeats 4000000
/-! a def called without arguments -/
namespace DG
open PySem PySem.Spec PyProof.Rows L2
end DG
namespace DL
open PySem PySem.Spec PyProof.Rows L2
section
variable {X : CxZ} {K : KZ} {e a b : Expr} {es : List Expr}
def wCall0 (F : FD) : WE := fun _ M k => F [] M k
/-- abs -/
def rdAbs : FD := fun ds M k => match ds with | [.int i] => k (.int (if i < 0 then -i else i)) M | _ => False
theorem calld_abs : CallD K (fun xs H Q => ∃ i, xs = [.int i] ∧ Q (.int (if i < 0 then -i else i)) H) rdAbs := fun Fr H0 M H vs ds k Q w r h c => by
  unfold rdAbs at h
  split at h
  · obtain ⟨v, rfl, r1⟩ := dats1 r
    cases r1
    exact ⟨_, rfl, c _ H0 H _ M (Same.refl _) w (.int _) h⟩
  · exact h.elim
theorem boot_abs : bootBuiltins "abs" = some (.builtin "abs") := by decide +kernel
theorem de_abs {we : WE} {p pos : Pos} (hm : X.mg "abs" = none) (he : DE X e we) (hs : starEach [e] X.env = (false, eval e X.env) :: starEach [] X.env := by rfl) (hg : Gl X "abs" := by rfl) (hpl : (backTo pos (starEach [] X.env)).any (·.1) = false := by rfl) :
    DE X (.Call (.Name "abs" p) [e] [] pos) (wCall rdAbs (wCons we wNil)) := de_callB call_abs calld_abs hm boot_abs (da_cons he da_nil hs) hg (by decide) (by decide) hs hpl
/-- two texts as they are -/
theorem eq_strA {f : Bool → Bool} {s t : Str} {M : Mem} {k : KD} (h : k (.bl (f (decide (s = t)))) M) : rdEq f (.str s) (.str t) M k := h
end
end DL

set_option autoImplicit false
set_option maxRecDepth 100000
set_option maxHeartbeats 4000000
/-! a local that holds one of several defs -/
namespace DG
open PySem PySem.Spec PyProof.Rows L2
section
variable {X : Cx} {k i : Nat} {x : Str} {p pos : Pos} {e : Expr} {es : List Expr} {t : TA}
/-- which defs may be called so -/
structure HeldG (P : Program) (w : World) (K : PySem.W.Frag) (mg : Str → Option Value) (base : Heap) (k : Nat) (f : Addr) (sp : Sp) : Prop where
  ex : ∃ (fd : FuncData) (ps : List Str), FnG P w K mg base CX0 k f fd ps sp ∧ PySem.W.keepIn K (.ref f) = true ∧ Binds K fd ps []
end
end DG
namespace DL
open PySem PySem.Spec PyProof.Rows L2
section
variable {X : CxZ} {K : KZ} {e a b : Expr} {es : List Expr}
structure HeldD (P : Program) (w : World) (K : PySem.W.Frag) (mg : Str → Option Value) (base : Heap) (k : Nat) (f : Addr) (F : FD) : Prop where
  ex : ∃ (fd : FuncData) (ps : List Str), DFn P w K mg base k f fd ps F ∧ PySem.W.keepIn K (.ref f) = true ∧ Binds K fd ps []
theorem Def.held {P : Program} {w : World} {K : PySem.W.Frag} {mg : Str → Option Value} {base : Heap} {k : Nat} {x : Str} {st : Stmt} {ps : List Str} {f : Addr} {fd : FuncData} {F : FD} (d : Def K mg x st ps f fd) (G : DFn P w K mg base k f fd ps F) : HeldD P w K mg base k f F :=
  ⟨fd, ps, G, d.F.kp, d.b⟩
/-! a dict written with texts for keys and whole numbers -/
inductive DPs : List (Option Expr) → List Expr → List (Str × Int) → Prop
  | nil : DPs [] [] []
  | cons {s : Str} {i : Int} {j1 j2} {p1 p2 : Pos} {ks : List (Option Expr)} {vs : List Expr} {l : List (Str × Int)} : DPs ks vs l → DPs (some (.Constant (.str s) j1 p1) :: ks) (.Constant (.int i) j2 p2 :: vs) ((s, i) :: l)
theorem DPs.len {ks : List (Option Expr)} {vs : List Expr} {l : List (Str × Int)} (h : DPs ks vs l) : ks.length = l.length ∧ vs.length = l.length ∧ ks.all (·.isSome) = true := by
  induction h with
  | nil => exact ⟨rfl, rfl, rfl⟩
  | cons _ ih => obtain ⟨a, b, c⟩ := ih; exact ⟨by simp [a], by simp [b], by simp only [List.all_cons, c]; rfl⟩
def isDct (M : Mem) : D → Prop
  | .cel a => ∃ kvs, M a = some (.dct kvs)
  | _ => False
end
end DL

set_option autoImplicit false
set_option maxRecDepth 100000
set_option maxHeartbeats 4000000
/-! sets of texts, made of a list of texts: counted, or laid out in their order -/

namespace TS
open PySem PySem.Spec PyProof.Rows L2 PySem.Froz
section
variable {P : Program} {w : World} {A : Around} {E : Value → Shared → Prop} {s : Shared} {a : Addr} {l : List Str}
end
end TS
namespace DL
open PySem PySem.Spec PyProof.Rows L2
section
variable {X : CxZ} {K : KZ}
end
end DL

set_option autoImplicit false
set_option maxRecDepth 100000
set_option maxHeartbeats 4000000
namespace DL
open PySem PySem.Spec PyProof.Rows L2
section
variable {X : CxZ} {K : KZ}
end
end DL

set_option autoImplicit false
set_option maxRecDepth 100000
set_option maxHeartbeats 2000000
namespace DL
open PySem PySem.Spec PyProof.Rows L2
open Sem (wp)
/-! zip of a tuple and a list -/
structure Apt (z tI tO j1 j2 a b : Addr) : Prop where
  S : ZipSep2 z tI tO j1 j2 [j1, a] [j2, b]
  na : a ≠ j1
  nb : b ≠ j2
end DL
namespace DL
open PySem PySem.Spec PyProof.Rows L2
section
variable {X : CxZ} {e e2 : Expr} {elts : List Expr} {kk : Nat} {tpos p pos : Pos} {wa : WA}
end
end DL

set_option autoImplicit false
set_option maxRecDepth 100000
set_option maxHeartbeats 4000000
/-! anything held against the empty tuple -/
namespace EQ
open PySem PySem.Spec PyProof.Rows L2
section
variable {X : Cx}
end
end EQ
namespace DL
open PySem PySem.Spec PyProof.Rows L2
section
variable {X : CxZ} {K : KZ}
end
end DL

set_option autoImplicit false
set_option maxRecDepth 100000
set_option maxHeartbeats 4000000
namespace DL
open PySem PySem.Spec PyProof.Rows L2
section
variable {X : CxZ} {K : KZ} {e a b : Expr}
end
end DL

set_option autoImplicit false
set_option maxRecDepth 100000
set_option maxHeartbeats 4000000
/-! sorted of texts, min and max of two whole numbers, a text's place in a list -/
namespace DL
open PySem PySem.Spec PyProof.Rows L2
section
variable {K : KZ} {X : CxZ}
def rdSortS : FD := fun ds M k => match ds with
  | [x] => (match asR M x with
    | some xs => (match strsD xs with | some l => l.length < 64 ∧ ∀ ys : List Str, ys.Perm l → sortedS ys = true → k (.lst (ys.map D.str)) M | none => False)
    | none => False)
  | _ => False
theorem calld_sortS : CallD K (rSortedS K) rdSortS := fun Fr H0 M H vs ds k Q w r h c => by
  unfold rdSortS at h
  split at h
  · obtain ⟨v, rfl, rv⟩ := dats1 r
    split at h
    · rename_i xs e
      split at h
      · rename_i l el
        obtain ⟨a, us, rfl, hs, hd⟩ := asR_ok w rv e
        have := strsD_ok hd el
        subst this
        exact ⟨a, l, rfl, hs, h.1, fun ys p hy hsrt hp => c _ _ _ _ M (same_new (w.fresh hp)) (w.new hp) (.lst upd_same (dats_strs ys)) (h.2 ys hy hsrt)⟩
      · exact h.elim
    · exact h.elim
  · exact h.elim
theorem de_sortS {e : Expr} {we : WE} {p pos : Pos} (hm : X.mg "sorted" = none) (he : DE X e we) (hs : starEach [e] X.env = (false, eval e X.env) :: starEach [] X.env := by rfl) (hg : Gl X "sorted" := by rfl) (hpl : (backTo pos (starEach [] X.env)).any (·.1) = false := by rfl) :
    DE X (.Call (.Name "sorted" p) [e] [] pos) (wCall rdSortS (wCons we wNil)) :=
  de_callB cr_sortedS calld_sortS hm PyProof.Rows.boot_sorted (da_cons he da_nil hs) hg (by decide) (by decide) hs hpl
def rdTwoI (g : Int → Int → Int) : FD := fun ds M k => match ds with | [.int i, .int j] => k (.int (g i j)) M | _ => False
theorem calld_two (g : Int → Int → Int) : CallD K (fun xs H Q => ∃ i j, xs = [.int i, .int j] ∧ Q (.int (g i j)) H) (rdTwoI g) := fun Fr H0 M H vs ds k Q w r h c => by
  unfold rdTwoI at h
  split at h
  · obtain ⟨v, u, rfl, rv, ru⟩ := dats2 r
    cases rv; cases ru
    exact ⟨_, _, rfl, c _ H0 H _ M (Same.refl _) w (.int _) h⟩
  · exact h.elim
theorem boot_min : bootBuiltins "min" = some (.builtin "min") := by decide +kernel
theorem de_min2 {a b : Expr} {wa wb : WE} {p pos : Pos} (hc : X.calm = true) (hm : X.mg "min" = none) (ha : DE X a wa) (hb : DE X b wb) (hs : starEach [a, b] X.env = (false, eval a X.env) :: starEach [b] X.env := by rfl) (hs2 : starEach [b] X.env = (false, eval b X.env) :: starEach [] X.env := by rfl)
    (hg : Gl X "min" := by rfl) (hpl : (backTo pos (starEach [b] X.env)).any (·.1) = false := by rfl) : DE X (.Call (.Name "min" p) [a, b] [] pos) (wCall (rdTwoI fun i j => if j < i then j else i) (wCons wa (wCons wb wNil))) :=
  de_callB (call_min2 hc) (calld_two _) hm boot_min (da_cons ha (da_cons hb da_nil hs2) hs) hg (by decide) (by decide) hs hpl
theorem r_min2 {i j : Int} {M : Mem} {k : KD} (h : k (.int (if j < i then j else i)) M) : rdTwoI (fun i j => if j < i then j else i) [.int i, .int j] M k := h
/-- a text's first place in a list -/
def wMtR (rd : D → List D → Mem → KD → Prop) (wo : WE) (wa : WA) : WE := fun Γ M k => wo Γ M fun d M1 => (asR M1 d).isSome = true ∧ wa Γ M1 fun ds M2 => rd d ds M2 k
theorem de_mtR {o e : Expr} {es : List Expr} {name : Str} {id : String} {apos cpos : Pos} {wo : WE} {wa : WA} {r : V → List V → Hp → VK → Prop} {rd : D → List D → Mem → KD → Prop} (slot : Slot "list" name id) (hty : typeOf (.builtin id) = pure (.type "method_descriptor")) (hm : MtR X id r) (hd : MtD X.K r rd) (ho : DE X o wo) (ha : DA X (e :: es) wa)
    (hbase : attributeBase o name X.env (eval o X.env) = eval o X.env := by rfl)
    (hfew : ((backTo cpos (starEach (e :: es) X.env)).all (fun x => !x.1) && (backToKw cpos (keywordEach [] X.env)).all (fun x => x.1.isSome)
      && decide ((e :: es).length + ([] : List Keyword).length + (if ([] : List Keyword).isEmpty then 0 else 1) < 30)) = true := by rfl)
    (hline : (apos.endLine == cpos.line) = true := by rfl) (hs : starEach (e :: es) X.env = (false, eval e X.env) :: starEach es X.env := by rfl) (hplain : (backTo cpos (starEach es X.env)).any (·.1) = false := by rfl) :
    DE X (.Call (.Attribute o name apos) (e :: es) [] cpos) (wMtR rd wo wa) :=
  de_of (pe_bm PySem.F.plainAttrs_list slot hty hm ho.run ha.run hbase hfew hline hs hplain) fun σ H Q Γ Fr H0 M k h1 h2 h3 h4 => by
    refine ⟨Γ, Fr, H0, M, _, h1, h2, h3, fun v H1 H' d M' e1 w1 r1 q1 => ?_⟩
    obtain ⟨qc, q1⟩ := q1
    refine ⟨?_, Γ, Fr, H1, M', _, h1.mono e1, w1, q1, fun vs H2 H'' ds M2 e2 w2 r2 q2 => hd Fr H2 M2 H'' v d vs ds k Q w2 (r1.mono e2) r2 q2 (h4.mono (e1.trans e2))⟩
    obtain ⟨ds, hc⟩ := Option.isSome_iff_exists.mp qc
    obtain ⟨a', vs, e3, e4, e5⟩ := asR_ok w1 r1 hc
    subst e3
    exact .inl ⟨rfl, _, e4⟩
def rdIndexS : D → List D → Mem → KD → Prop := fun x ds M k => match ds with
  | [.str s] => (match asR M x with
    | some xs => (match strsD xs with | some l => (match l.findIdx? (fun y => decide (y = s)) with | some j => k (.int (j : Nat)) M | none => False) | none => False)
    | none => False)
  | _ => False
theorem eqV_str {s t : Str} : eqV (.str s) (.str t) = decide (s = t) := by
  first | rfl | (unfold eqV; rw [decide_eq_decide]; simp) | simp [eqV]
theorem mtd_indexS : MtD K (rIndex K) rdIndexS := fun Fr H0 M H v d vs ds k Q w r rs h c => by
  unfold rdIndexS at h
  split at h
  · obtain ⟨u, rfl, ru⟩ := dats1 rs
    cases ru
    split at h
    · rename_i xs e
      split at h
      · rename_i l el
        split at h
        · rename_i s j ej
          obtain ⟨a, us, rfl, hs, hd⟩ := asR_ok w r e
          have := strsD_ok hd el
          subst this
          obtain ⟨hj, e1, e2⟩ := List.findIdx?_eq_some_iff_getElem.mp ej
          refine ⟨a, _, _, j, .str l[j], rfl, rfl, hs, rfl, ?_, ?_, ?_, ?_, c _ H0 H _ M (Same.refl _) w (.int _) h⟩
          · rw [List.all_eq_true]
            intro x hx
            obtain ⟨y, _, rfl⟩ := List.mem_map.mp hx
            rfl
          · rw [List.getElem?_map, List.getElem?_eq_getElem hj]; rfl
          · rw [eqV_str]; exact e1
          · intro m z' hm hz
            rw [List.getElem?_map, List.getElem?_eq_getElem (by omega : m < l.length)] at hz
            cases hz
            rw [eqV_str]
            have := e2 m hm
            simpa using this
        · exact h.elim
      · exact h.elim
    · exact h.elim
  · exact h.elim
theorem de_indexS {o : Expr} {apos cpos : Pos} {wo we : WE} {e : Expr} (ho : DE X o wo) (he : DE X e we)
    (hs : starEach [e] X.env = [(false, eval e X.env)] := by rfl)
    (hbase : attributeBase o "index" X.env (eval o X.env) = eval o X.env := by rfl)
    (hfew : ((backTo cpos (starEach [e] X.env)).all (fun x => !x.1) && (backToKw cpos (keywordEach [] X.env)).all (fun x => x.1.isSome)
      && decide ([e].length + ([] : List Keyword).length + (if ([] : List Keyword).isEmpty then 0 else 1) < 30)) = true := by rfl)
    (hline : (apos.endLine == cpos.line) = true := by rfl) (hplain : (backTo cpos (starEach [] X.env)).any (·.1) = false := by rfl) : DE X (.Call (.Attribute o "index" apos) [e] [] cpos) (wMtR rdIndexS wo (wCons we wNil)) :=
  de_mtR PySem.F.slot_list_index PySem.F.type_list_index mt_index mtd_indexS ho (da_cons he da_nil hs) hbase hfew hline hs hplain
end
end DL

set_option autoImplicit false
set_option maxRecDepth 100000
set_option maxHeartbeats 4000000
/-! sorting by keys that are compared place by place up to the first that differs: tuples whose later places may be of unlike kinds -/
namespace SX
open PySem PySem.W PySem.SeqAt PySem.Calls PyProof.Rows
open AutoSeq1 (wpAny_loadPart')
open MeetsSeq MeetsSeq2 MeetsSeq3 SeqRoads2
/-! data that can be compared -/
mutual
def cmpb : PyData → PyData → Bool
  | .none, .none => true
  | .bool _, .bool _ => true
  | .int _, .int _ => true
  | .str _, .str _ => true
  | .list xs, .list ys => alikeAll xs ys
  | .tuple xs, .tuple ys => cmpbs xs ys
  | _, _ => false
def cmpbs : List PyData → List PyData → Bool
  | x :: xs, y :: ys => cmpb x y && (!PyData.eqv x y || cmpbs xs ys)
  | [], _ => true
  | _ :: _, [] => true
end
section
variable {prog : Program} {w : World} {A : Around} {E : Value → Shared → Prop} {s : Shared}
end
/-! one value reads as one datum -/
/-- every two can be compared, and are laid out plainly -/
structure AllC (ds : List PyData) : Prop where
  cmp : ∀ d, d ∈ ds → ∀ d', d' ∈ ds → cmpb d d' = true
  lay : ∀ d, d ∈ ds → d.canLay0 = true
end SX

set_option autoImplicit false
set_option maxRecDepth 100000
set_option maxHeartbeats 4000000
/-! sorted(xs, key=f), f a def of the program that makes what it likes and changes nothing -/
namespace SX
open PySem PySem.W PySem.SeqAt PySem.Calls PyProof.Rows
section
variable {prog : Program} {w : World} {A : Around} {E : Value → Shared → Prop} {s : Shared} {a kS : Addr} {b : Bool} {vs : List Value} {keys : Array Value} {e e1 : Nat} {P : PySem.Fin → Shared → Prop}
end
end SX
namespace DL
open PySem L2
section
variable {K : KZ} {Fr H0 H : Hp} {M M' : Mem}
/-- what is told of stays told of -/
def ExtA (M M' : Mem) : Prop := ∀ a c, M a = some c → M' a = some c
theorem ExtA.refl (M : Mem) : ExtA M M := fun _ _ e => e
theorem ExtA.trans {M M1 M2 : Mem} (a : ExtA M M1) (b : ExtA M1 M2) : ExtA M M2 := fun x c e => b x c (a x c e)
theorem ExtA.new {M M1 : Mem} {p : Addr} {c : Cell} (e : ExtA M M1) (hp : M p = none) : ExtA M (setM M1 p c) := fun a x q => by rw [setM_ne (neM q hp)]; exact e a x q
theorem ExtA.none {M M1 : Mem} {p : Addr} (e : ExtA M M1) (hp : M1 p = none) : M p = none := by
  cases q : M p with
  | none => rfl
  | some c => rw [e p c q] at hp; cases hp
end
end DL

set_option autoImplicit false
set_option maxRecDepth 100000
set_option maxHeartbeats 4000000
namespace DL
open PySem PySem.Spec PyProof.Rows L2
/-- what is asked of the keys -/
structure KeysOk (ds : List D) (key : D → PyData) : Prop where
  all : SX.AllC (ds.map key)
  srt : PySem.W.Sortable (ds.map key)
  dep : ∀ d ∈ ds, (key d).depth ≤ 64
/-! sorted of a tuple -/
section
variable {X : CxZ} {f : Addr} {fd : FuncData} {F : FD} {kk : Nat} {q : Str}
end
end DL

set_option autoImplicit false
set_option maxRecDepth 100000
set_option maxHeartbeats 4000000
namespace DL
open PySem PySem.Spec PyProof.Rows L2
section
variable {X : CxZ} {f : Addr} {fd : FuncData} {F : FD} {kk j : Nat} {q g : Str} {st : Stmt}
end
end DL

set_option autoImplicit false
set_option maxRecDepth 100000
set_option maxHeartbeats 4000000
/-! xs[::-1] of a list -/
namespace DL
open PySem L2
section
variable {X : CxZ}
end
end DL

set_option autoImplicit false
set_option maxRecDepth 100000
set_option maxHeartbeats 4000000
/-! data without cells: what repr tells of it hangs on nothing else -/
namespace DL
open PySem PySem.Spec PyProof.Rows L2
mutual
def pur : D → Bool
  | .non => true
  | .bl _ => true
  | .int i => decide (i.natAbs < 1000000000000)
  | .str s => plain s
  | .tup ds => purs ds
  | .lst ds => purs ds
  | _ => false
def purs : List D → Bool
  | [] => true
  | d :: ds => pur d && purs ds
end
mutual
def pd : D → PyData
  | .bl b => .bool b
  | .int i => .int i
  | .str s => .str s
  | .tup ds => .tuple (pds ds)
  | .lst ds => .list (pds ds)
  | _ => .none
def pds : List D → List PyData
  | [] => []
  | d :: ds => pd d :: pds ds
end
structure Pu (a b : Nat) (d : D) : Prop where
  ok : pur d = true
  hv : heavy d ≤ a
  fr : far d ≤ b
theorem Pu.up {a b a' b' : Nat} {d : D} (h : Pu a b d) (h1 : a ≤ a') (h2 : b ≤ b') : Pu a' b' d := ⟨h.ok, Nat.le_trans h.hv h1, Nat.le_trans h.fr h2⟩
end DL

set_option autoImplicit false
set_option maxRecDepth 100000
set_option maxHeartbeats 4000000
/-! f-strings, starred displays, stores into dicts, anything looked for in a tuple of data -/
namespace DL
open PySem PySem.Spec PyProof.Rows L2
section
variable {X : CxZ} {K : KZ}
/-! ### f-strings -/
inductive DJ (X : CxZ) : List Expr → List WE → Prop where
  | nil : DJ X [] []
  | cons {e : Expr} {w : WE} {es : List Expr} {ws : List WE} (h : DE X e w) (r : DJ X es ws) : DJ X (e :: es) (w :: ws)
/-! ### starred displays -/
/-! ### d[k] = v -/
def rdPut (x y v : D) (M : Mem) (k : Mem → Prop) : Prop := match x, keyD y with
  | .cel a, some κ => (match M a with | some (.dct kvs) => kvs.length < sizeLine ∧ k (setM M a (.dct (putD kvs κ v))) | _ => False)
  | _, _ => False
def wPut (wa wi wv : WE) : WS := fun k Γ M => wv Γ M fun v M1 => wa Γ M1 fun x M2 => wi Γ M2 fun y M3 => rdPut x y v M3 (k.nx Γ)
/-! ### in a tuple of data -/
end
end DL

set_option autoImplicit false
set_option maxRecDepth 100000
set_option maxHeartbeats 4000000
/-! dicts whose keys are tuples of numbers, texts, None: as cells -/
namespace DL
open PySem PySem.Spec PyProof.Rows L2
abbrev NX := NestedKey × Addr × Value
section
variable {X : CxZ} {pins : List (Addr × Obj)} {σ : L2.St} {H H0 Fr : Hp} {s : Shared} {M : Mem} {K : KZ}
/-! ### entries -/
/-! ### the dict in the heap -/
/-- at a there is such a dict, its entries xs -/
structure ND (X : CxZ) (H : Hp) (a : Addr) (lk : Option Obj) (xs : List NX) : Prop where
  at_ : H a = some (.ext (DObj X.w a lk xs))
  nd : (xs.map (·.1)).Nodup
  sz : xs.length ≤ sizeLine
  ns : (a == sysModules) = false
  ks : ∃ Hk, Same Hk H ∧ ∀ x ∈ xs, Dat X.K Hk (.ref x.2.1) (kD x.1) ∧ x.1.depth ≤ 8
/-! ### {} -/
/-! ### d.get(k, x), k in d, d[k], d[k] = v -/
/-! ### for k in d -/
end
end DL

set_option autoImplicit false
set_option maxRecDepth 100000
set_option maxHeartbeats 4000000
/-! comprehensions of two fors -/
namespace DL
open PySem PySem.Spec PyProof.Rows L2
end DL

set_option autoImplicit false
set_option maxRecDepth 100000
set_option maxHeartbeats 4000000
/-! xs.remove(x) of data -/
namespace DL
open PySem PySem.Spec PyProof.Rows L2
section
variable {X : CxZ} {K : KZ}
theorem ru {k : Nat} {A : Around} (hr : DG.RoomG k A) : A.units + 66 < cLine := by have := hr.r.un; omega
end
end DL

set_option autoImplicit false
set_option maxRecDepth 100000
set_option maxHeartbeats 4000000
/-! data without cells whose numbers lie below 10 ** 18 -/
namespace DL
open PySem PySem.Spec PyProof.Rows L2
mutual
def purW : D → Bool
  | .non => true
  | .bl _ => true
  | .int i => decide (i.natAbs < 1000000000000000000)
  | .str s => plain s
  | .tup ds => pursW ds
  | .lst ds => pursW ds
  | _ => false
def pursW : List D → Bool
  | [] => true
  | d :: ds => purW d && pursW ds
end
/-- such data, how much of it, how deep -/
structure Pw (a b : Nat) (d : D) : Prop where
  ok : purW d = true
  hv : (pd d).weight ≤ a
  fr : (pd d).depth ≤ b
theorem Pw.up {a b a' b' : Nat} {d : D} (h : Pw a b d) (h1 : a ≤ a') (h2 : b ≤ b') : Pw a' b' d := ⟨h.ok, Nat.le_trans h.hv h1, Nat.le_trans h.fr h2⟩
end DL

set_option autoImplicit false
set_option maxRecDepth 100000
set_option maxHeartbeats 4000000
/-! a list that nobody will change again: no cell any more -/
namespace DL
open PySem PySem.Spec PyProof.Rows L2
section
variable {X : CxZ} {e : Expr}
/-- names out of a list -/
def gL (gs : List D → Env → Option Env) : D → Env → Option Env := fun d Γ => match d with | .lst ds => gs ds Γ | _ => none
end
end DL

set_option autoImplicit false
set_option maxRecDepth 100000
set_option maxHeartbeats 4000000
/-! comprehensions of dicts, whatever the kind of their keys -/
namespace DL
open PySem PySem.Spec PyProof.Rows L2
/-- a kind of dicts: what a new one is, what a store does -/
structure DKnd (P : Program) (w : World) (K : PySem.W.Frag) (A : Around) where
  fst : Addr → HO
  fresh : ∀ (H : Hp) (h : Heap), sysModules < h.objs.size → ObjOk P w H (h.push { cls := .type "dict", data := .dict #[] }) h.objs.size (fst h.objs.size)
  stp : Addr → V → V → Hp → (Hp → Prop) → Prop
  run : ∀ (Y : Cx), Y.prog = P → Y.w = w → Y.K = K → Y.A = A → ∀ (pn : List (Addr × Obj)) (σ : L2.St) (H : Hp) (t : Shared) (D : Addr) (y z : V) (u r : Value) (N : Hp → Prop) (E : Value → Shared → Prop) (Q : Unit → Shared → Prop),
    Inv Y pn σ H t → RelV y u → RelV z r → stp D y z H N → (∀ H' t', Inv Y pn σ H' t' → N H' → Q () t') → wpAny (model P w) A (dictSet D u r) Q E t
section
variable {X : CxZ} {pn : List (Addr × Obj)} {t0 : Shared} {σ : L2.St} {H0 : Hp} {Q : VK} {kx vx tg iter : Expr} {ifs : List Expr} {sc : Scope} {own : List (Str × Nat)} {pos pos' : Pos} {wi : TI} {g : TG} {tt : TT} {tk tv : TE}
end
end DL

set_option autoImplicit false
set_option maxRecDepth 100000
set_option maxHeartbeats 4000000
/-! comprehensions of dicts whose keys are tuples -/
namespace DL
open PySem PySem.Spec PyProof.Rows L2
section
variable {X : CxZ}
end
end DL

set_option autoImplicit false
set_option maxRecDepth 100000
set_option maxHeartbeats 4000000
/-! a range as a value, walked later -/
namespace DL
open PySem PySem.Spec PyProof.Rows L2
section
variable {X : CxZ} {K : KZ} {e a : Expr}
end
end DL

set_option autoImplicit false
set_option maxRecDepth 100000
set_option maxHeartbeats 4000000
/-! list(d.values()) -/
namespace DL
open PySem PySem.Spec PyProof.Rows L2
section
variable {X : CxZ} {K : KZ} {o : Expr} {td : TE} {apos cpos : Pos}
/-- list(d.values()) -/
def wListV (we : WE) : WE := fun Γ M k => we Γ M fun d M1 => ∃ a kvs, d = .cel a ∧ M1 a = some (.dct kvs) ∧ k (.lst (kvs.map (·.2))) M1
end
end DL

set_option autoImplicit false
set_option maxRecDepth 100000
set_option maxHeartbeats 4000000
/-! a sign in a text -/
namespace DL
open PySem PySem.Spec PyProof.Rows L2
section
variable {X : CxZ} {K : KZ}
end
end DL

set_option autoImplicit false
set_option maxRecDepth 100000
set_option maxHeartbeats 4000000
/-! dicts of plain keys: comprehensions, del, in; what is never reached -/
namespace DL
open PySem PySem.Spec PyProof.Rows L2
section
variable {X : CxZ} {K : KZ}
def wNever : WS := fun _ _ _ => False
/-! del d[k] -/
def dropD (kvs : List (Key × D)) (κ : Key) : List (Key × D) := kvs.filter fun kv => decide (kv.1 ≠ κ)
def rdDel (x y : D) (M : Mem) (k : Mem → Prop) : Prop := match x, keyD y with
  | .cel a, some κ => (match M a with | some (.dct kvs) => (lookD kvs κ).isSome = true ∧ k (setM M a (.dct (dropD kvs κ))) | _ => False)
  | _, _ => False
def wDel (wa wi : WE) : WS := fun k Γ M => wa Γ M fun x M1 => wi Γ M1 fun y M2 => rdDel x y M2 (k.nx Γ)
/-! k in d -/
def rdInK (f : Bool → Bool) (x y : D) (M : Mem) (k : KD) : Prop := match x, keyD y with
  | .cel a, some κ => (match M a with | some (.dct kvs) => k (.bl (f (lookD kvs κ).isSome)) M | _ => False)
  | _, _ => False
def wInK (f : Bool → Bool) (wi wa : WE) : WE := fun Γ M k => wi Γ M fun y M1 => wa Γ M1 fun x M2 => rdInK f x y M2 k
theorem inK_ok {Fr H0 H : Hp} {M : Mem} {x y : D} {xv yv : V} {f : Bool → Bool} {k : KD} (w : Wd K Fr H0 M H) (rx : Dat K H0 xv x) (ry : Dat K H0 yv y) (q : rdInK f x y M k) : ∃ a o, xv = .ref a ∧ DGet H a yv o ∧ k (.bl (f o.isSome)) M := by
  unfold rdInK at q
  split at q
  · rename_i a κ ek
    split at q
    · rename_i kvs em
      obtain ⟨_, o, ho, ck⟩ := w.mem a _ em
      cases ck with
      | dct hk =>
        cases rx
        have := keyD_ok ry ek
        subst this
        refine ⟨a, _, rfl, .inl ⟨_, κ, .of ho, rfl, rfl⟩, ?_⟩
        have l := look_ok (κ := κ) hk
        cases e : lookD kvs κ with
        | some d =>
          obtain ⟨v, hv, _⟩ := l.1 d e
          rw [hv]; rw [e] at q; exact q
        | none =>
          rw [l.2 e]; rw [e] at q; exact q
    · exact q.elim
  · exact q.elim
theorem dt_ninK {a b : Expr} {wi wa : WE} {pos : Pos} (hu : X.X.A.units + 1 < cLine) (hi : DE X a wi) (ha : DE X b wa) (hm : behindInMarks .NotIn b = false := by first | exact nomark _ | (with_unfolding_all rfl)) : DT X (.Compare a [.NotIn] [b] pos) (wTst (wInK not wi wa)) :=
  dt_of (pt_cmp (pc_dnotin hu hi.run ha.run) hm) fun σ H Q Γ Fr H0 M k h1 h2 h3 h4 => ⟨Γ, Fr, H0, M, _, h1, h2, h3, fun yv H1 H' dy M1 e1 w1 r1 q1 => ⟨Γ, Fr, H1, M1, _, h1.mono e1, w1, q1, fun xv H2 H'' dx M2 e2 w2 r2 q2 => by
    obtain ⟨a, o, ea, g, q⟩ := inK_ok w2 r2 (r1.mono e2) q2
    exact ⟨a, o, ea, g, _, rfl, h4 _ H2 _ M2 (e1.trans e2) w2 q⟩⟩⟩
/-! {k: v for ..} -/
def dcK (gd : D → Env → Option Env) (wt : WT) (wk wv : WE) (G : Mem → Prop) (Γ : Env) (p : Addr) : List D → Mem → (Mem → Prop) → Prop
  | [], M, k => G M ∧ k M
  | d :: ds, M, k => G M ∧ match gd d Γ with
    | some Γ' => wt Γ' M fun b M1 => if b = true then wk Γ' M1 fun y M2 => wv Γ' M2 fun z M3 => rdPut (.cel p) y z M3 fun M4 => dcK gd wt wk wv G Γ p ds M4 k else dcK gd wt wk wv G Γ p ds M1 k
    | none => False
def wDcK (wi : WI) (gd : D → Env → Option Env) (wt : WT) (wk wv : WE) (vs : List Nat) : WE := fun Γ M k =>
  wi Γ M fun its G M1 => ∀ p, M1 p = none → dcK gd wt wk wv G (wipeD Γ vs) p its (setM M1 p (.dct [])) fun M2 => k (.cel p) M2
end
end DL

set_option autoImplicit false
set_option maxRecDepth 100000
set_option maxHeartbeats 4000000
/-! sorted(set(xs)), xs a list of whole numbers -/
namespace TSI
open PySem PySem.Spec PyProof.Rows L2 PySem.Froz
section
variable {P : Program} {w : World} {A : Around} {E : Value → Shared → Prop} {s : Shared}
set_option maxHeartbeats 16000000 in
theorem call_setI {b : Addr} {its : Array Value} (xs : List Int) {Q : Value → Shared → Prop} (hh : A.handled = none) (hl : s.heap.IsList b its) (hv : IntsAre its.toList xs) (hb : xs.length + 1 < scanBound)
    (h : ∀ h' tk c, SetR w h' s.heap.objs.size (fun j => decide (j ∈ xs)) c → c ≤ xs.length → (∀ c o, s.heap.get? c = some o → h'.get? c = some o) → Q (.ref s.heap.objs.size) { s with heap := h', toks := tk }) :
    wpAny (model P w) A (call (.type "set") [.ref b]) Q E s := by
  have sz : its.size = xs.length := by
    have q := IntsAre.length hv
    rw [Array.length_toList] at q; exact q
  obtain ⟨mc, mt, hmro⟩ := F.called_set.mro
  have i1 := F.called_set.made
  have i2 := F.called_set.sub
  have i3 := F.called_set.notType
  have i4 := F.called_set.canCreate
  have i5 := F.typeCall_set_1 (.ref b)
  apply wpAny_call
  apply codeAny_of_tree
  show wpAny _ _ (callAny (.type "set") ⟨[.ref b], []⟩) _ _ _
  refine wpAny_pure ⟨Code.quiet_builtin _ (by decide +kernel), ?_⟩
  apply codeAny_builtin F.entry_type_call
  rw [Around.under_plain (weight_type_call_type "set" [.ref b] []) (by rfl)]
  repeat (any_goals first | assumption | wp_step)
  refine codeAny_mono (code_set_led1 (.ref b) (E := E) (Q₁ := fun v s1 => v = .ref s.heap.objs.size ∧ s1 = { s with heap := s.heap.push (TS.bare w) }) ⟨rfl, rfl⟩) fun r s1 hr => ?_
  match r, hr with
  | .error _, hr => exact hr
  | .ok (.ret v), ⟨e1, e2⟩ =>
    subst e1; subst e2
    have g0 : (s.heap.push (TS.bare w)).get? s.heap.objs.size = some (TS.bare w) := Heap.get?_push_size _ rfl
    have ty0 : Shared.TypeIs { s with heap := s.heap.push (TS.bare w) } (.ref s.heap.objs.size) "set" := ⟨_, g0, rfl⟩
    have j1 := F.called_set.init.lookup
    have j2 := F.called_set.init.bind (.ref s.heap.objs.size)
    repeat (any_goals first | assumption | wp_step)
    refine codeAny_mono (codeAny_call_builtin (R := wants (fun r s2 => r = .none ∧ ∃ h' tk cc, s2 = { s with heap := h', toks := tk } ∧ SetR w h' s.heap.objs.size (fun j => decide (j ∈ xs)) cc ∧ cc ≤ xs.length ∧ ∀ c o, s.heap.get? c = some o → h'.get? c = some o) E)
      F.called_set.init.plain F.entry_set_init (check_set_init_1 ty0 ?_)) fun r2 s2 hr2 => ?_
    · obtain ⟨lo, glo, lc, ln, ld⟩ := hl
      obtain ⟨cls, dic, dat, slo⟩ := lo
      simp only at lc ld
      subst lc; subst ld
      have glo' := Heap.get?_push_of_some (TS.bare w) glo
      have isl : (s.heap.push (TS.bare w)).IsList b its := ⟨_, glo', rfl, ln, rfl⟩
      have q1 := F.sub_list_set
      have q2 := F.sub_list_frozenset
      have q3 : (Value.type "list" == Value.type "dict") = false := by decide
      have blt : b < s.heap.objs.size := Heap.lt_size glo
      unfold Builtin.«set.__init__» noKeywords Builtin.Frozenset.updateFrom
      generalize hPI : pyIter = PI
      wp_walk
      subst hPI
      apply wpAny_pyIter_list isl
      apply wpAny_bind
      apply wpAny_runValue
      have sz2 : (s.heap.push (TS.bare w)).objs.size = s.heap.objs.size + 1 := Heap.size_push ..
      have n1 : b ≠ (s.heap.push (TS.bare w)).objs.size := fun z => by rw [sz2] at z; exact Nat.ne_of_lt (Nat.lt_succ_of_lt blt) z
      have n2 : s.heap.objs.size ∉ [(s.heap.push (TS.bare w)).objs.size, b] := by
        intro z
        rcases List.mem_cons.mp z with z | z
        · rw [sz2] at z; exact Nat.ne_of_lt (Nat.lt_succ_self _) z
        · rw [List.mem_singleton] at z; exact Nat.ne_of_gt blt z
      have vals : ∀ (i : Nat) (v : Value), its[i]? = some v → ∃ y t, xs[i]? = some y ∧ v = .int y t := fun i v e => by
        have hi : i < xs.length := by rw [← sz]; exact (Array.getElem?_eq_some_iff.mp e).1
        obtain ⟨t, et⟩ := PyProof.Rows.IntsAre.int_at hv i v (by rw [Array.getElem?_toList]; exact e)
        exact ⟨xs[i], t, List.getElem?_eq_getElem hi, by rw [et, List.getD_eq_getElem?_getD, List.getElem?_eq_getElem hi] <;> rfl⟩
      have hd3 : A.in1.in1.in1.handled = none := by simp [hh]
      refine set_update_ints (Walks.list hd3 _ b n1 its).toS s.heap.objs.size n2 xs sz hb vals (its.size - 0) 0 _ (by omega) (Nat.zero_le _) ⟨⟨_, Heap.get?_push_size _ rfl, rfl, rfl⟩, isl.push _⟩ ?_ ?_
      · exact ⟨0, Nat.le_refl 0, setR_new_at (Heap.get?_push_of_some _ g0)⟩
      · intro s2 cc hm hcc hs
        rw [sz] at hcc
        obtain ⟨h2, g2, d2, t2, o2⟩ := s2
        have eg : g2 = s.gens := hm.gens
        have ed : d2 = s.drawn := hm.drawn
        have eo : o2 = s.os := hm.os
        subst eg; subst ed; subst eo
        show wpAny _ _ _ _ _ _
        apply wpAny_pure
        show wpAny _ _ (ret Value.none) _ _ _
        refine wpAny_pure ⟨rfl, h2, t2, cc, rfl, hs, hcc, fun c o e => ?_⟩
        have cl := Heap.lt_size e
        refine hm.heap c o (fun z => ?_) (Heap.get?_push_of_some _ (Heap.get?_push_of_some _ e))
        rcases List.mem_cons.mp z with z | z
        · exact Nat.ne_of_lt cl z
        · rw [List.mem_singleton, sz2] at z; exact Nat.ne_of_lt (Nat.lt_succ_of_lt cl) z
    · match r2, hr2 with
      | .error _, hr2 => exact hr2
      | .ok (.ret v), ⟨e1, h', tk, cc, e2, y1, y2, y3⟩ =>
        subst e1; subst e2
        repeat (any_goals first | assumption | wp_step)
        exact h _ _ _ y1 y2 y3
      | .ok .next, hr2 => exact hr2.elim
      | .ok .brk, hr2 => exact hr2.elim
      | .ok .cont, hr2 => exact hr2.elim
  | .ok .next, hr => exact hr.elim
  | .ok .brk, hr => exact hr.elim
  | .ok .cont, hr => exact hr.elim
end
end TSI
namespace DL
open PySem PySem.Spec PyProof.Rows L2
section
variable {X : CxZ}
def intsD : List D → Option (List Int)
  | [] => some []
  | .int i :: r => (intsD r).map (i :: ·)
  | _ :: _ => none
theorem intsD_ok {K : KZ} {H : Hp} : ∀ {vs : List V} {ds : List D} {l : List Int}, Dats K H vs ds → intsD ds = some l → vs = l.map V.int
  | _, _, _, .nil, e => by cases e; rfl
  | _, _, _, .cons (d := .int i) h t, e => by
    unfold intsD at e
    obtain ⟨l, e1, rfl⟩ := Option.map_eq_some_iff.mp e
    cases h
    rw [List.map_cons, intsD_ok t e1]
  | _, _, _, .cons (d := .non) _ _, e => by cases e
  | _, _, _, .cons (d := .bl _) _ _, e => by cases e
  | _, _, _, .cons (d := .str _) _ _, e => by cases e
  | _, _, _, .cons (d := .tup _) _ _, e => by cases e
  | _, _, _, .cons (d := .lst _) _ _, e => by cases e
  | _, _, _, .cons (d := .scr _) _ _, e => by cases e
  | _, _, _, .cons (d := .cel _) _ _, e => by cases e
  | _, _, _, .cons (d := .ty _) _ _, e => by cases e
theorem dats_intsL {K : KZ} {H : Hp} : ∀ l : List Int, Dats K H (l.map V.int) (l.map D.int)
  | [] => .nil
  | i :: l => .cons (.int i) (dats_intsL l)
def rdSortSetI : FD := fun ds M k => match ds with
  | [x] => (match asR M x with | some xs => (match intsD xs with | some l => l.length < 64 ∧ ∀ ys : List Int, ys.Pairwise (· < ·) → (∀ i, i ∈ ys ↔ i ∈ l) → k (.lst (ys.map D.int)) M | none => False) | none => False)
  | _ => False
theorem pe_sortSetI {a : Expr} {ta : TE} {p p2 q pos : Pos} (hc : X.calm = true) (hg : Gl X "sorted") (hm : X.mg "sorted" = none) (hg2 : Gl X "set") (hm2 : X.mg "set" = none) (ha : PE X a ta)
    (na : starEach [a] X.env = (false, eval a X.env) :: starEach [] X.env) :
    PE X (.Call (.Name "sorted" p) [.Call (.Name "set" p2) [a] [] q] [] pos) (fun σ H Q => ta σ H fun x H1 => ∃ l, ∃ xs : List Int, x = .ref l ∧ SqL X.K H1 l (xs.map V.int) ∧ xs.length < 64 ∧
      ∀ (ys : List Int) (p : Addr), ys.Pairwise (· < ·) → (∀ i, i ∈ ys ↔ i ∈ xs) → H1 p = none → Q (.ref p) (upd H1 p (.lst (ys.map V.int)))) := by
  refine ⟨fun pins s σ H Q I h => Call_ (ld_blt I hg hm boot_sorted ?_)⟩
  refine PyProof.Rows.callWith_builtin1 (PyProof.Rows.args_cons (Call_ (ld_blt I hg2 hm2 boot_set ?_)) rfl) rfl rfl
  refine PyProof.Rows.callWith_type1 (PyProof.Rows.args_cons (thn (ha.run pins s σ H _ I h) fun v s1 ⟨x, H1, I1, r1, q1⟩ => PyProof.Rows.args_nil ?_) na) na rfl
  obtain ⟨l, xs, rfl, hq, hb, q1⟩ := q1
  cases r1
  obtain ⟨its, r, pl, hz⟩ := I1.list hq
  have sb : scanBound = 4096 := rfl
  refine TSI.call_setI xs (I1.ok.hd hc) pl.isList (by simpa using ints_of_vals r) (by omega) fun h' tk c st hcl hk => ?_
  refine PyProof.Rows.args_nil ?_
  have I2 : Inv X pins σ H1 { s1 with heap := h', toks := tk } := I1.kept fun b o e => hk b o e
  have st2 : SetR X.w ({ s1 with heap := h', toks := tk } : Shared).heap s1.heap.objs.size (fun j => decide (j ∈ xs)) c := st
  generalize s1.heap.objs.size = b at st2 ⊢
  generalize ({ s1 with heap := h', toks := tk } : Shared) = s2 at I2 st2 ⊢
  refine sorted_set st2 (I2.ok.hd hc) (by omega) fun s' p' out c2 ns k g o hp hg hi hs hm2 hl => ?_
  have hlen : (ns.map V.int).length ≤ sizeLine := by rw [List.length_map, hl, sizeLine_eq]; omega
  have hn : H1 p' = none := I2.hok.fresh hp
  have J : Inv X pins σ (upd H1 p' (.lst (ns.map V.int))) { s2 with heap := s'.heap, gens := s'.gens, drawn := s'.drawn, toks := s'.toks } :=
    I2.call (ch := []) (Un.laid k hp hn) (I2.hok.laid k hp ⟨hlen, out.toList, c2, vals_of_ints hi, hg⟩) (by rw [g]; exact I2.bare) (fun _ z => nomatch z)
  have e : s' = { s2 with heap := s'.heap, gens := s'.gens, drawn := s'.drawn, toks := s'.toks } := by cases s'; cases s2; cases o; rfl
  rw [e]
  exact ⟨.ref p', _, J, rfl, q1 ns p' hs (fun i => (hm2 i).trans decide_eq_true_iff) hn⟩
theorem de_sortSetI {a : Expr} {we : WE} {p p2 q pos : Pos} (hc : X.calm = true) (hm : X.mg "sorted" = none) (hm2 : X.mg "set" = none) (ha : DE X a we) (na : starEach [a] X.env = (false, eval a X.env) :: starEach [] X.env := by rfl)
    (hg : Gl X "sorted" := by rfl) (hg2 : Gl X "set" := by rfl) : DE X (.Call (.Name "sorted" p) [.Call (.Name "set" p2) [a] [] q] [] pos) (wCall rdSortSetI (wCons we wNil)) :=
  de_of (pe_sortSetI hc hg hm hg2 hm2 ha.run na) fun σ H Q Γ Fr H0 M k h1 h2 h3 h4 => ⟨Γ, Fr, H0, M, _, h1, h2, h3, fun v H1 H' d M' e1 w1 r1 q1 => by
    simp only [wNil, rdSortSetI] at q1
    split at q1
    · rename_i xs e
      split at q1
      · rename_i l el
        obtain ⟨b, ws, rfl, hs, hd⟩ := asR_ok w1 r1 e
        have := intsD_ok hd el
        subst this
        refine ⟨b, l, rfl, hs, q1.1, fun ys p' hp hs2 hn => h4 _ _ _ _ M' (e1.trans (same_new (w1.fresh hn))) (w1.new hn) (.lst upd_same (dats_intsL ys)) (q1.2 ys hp hs2)⟩
      · exact q1.elim
    · exact q1.elim⟩
end
end DL

set_option autoImplicit false
set_option maxRecDepth 100000
set_option maxHeartbeats 4000000
/-! str() of anything, a text too -/
namespace DL
open PySem PySem.Spec PyProof.Rows L2
section
variable {X : CxZ}
end
end DL

set_option autoImplicit false
set_option maxRecDepth 100000
set_option maxHeartbeats 4000000
/-! sorted with a lambda as its key -/
namespace DL
open PySem PySem.Spec PyProof.Rows L2 LamX NdefX
section
variable {X : CxZ} {pins : List (Addr × Obj)} {σ : L2.St} {H : Hp} {s : Shared}
/-! ### its body -/
end
/-! ### sorted -/
section
variable {X : CxZ} {x qn : Str} {m j : Nat} {e : Expr} {we wb : WE} {p lp kp kp2 pos : Pos} {params : Arguments} {body : Expr} {scope : Scope} {fr N : List Str} {js : List Nat}
end
end DL

set_option autoImplicit false
set_option maxRecDepth 100000
set_option maxHeartbeats 4000000
/-! the law's end where defs make lambdas: their tables stand in the memory from the start -/
namespace DL
open PySem PySem.Spec PyProof.Rows L2 LamX
/-! ### a known part with a mark behind it -/
def markO (xs : List Str) : Obj := { cls := .none, data := .fields (xs.map fun x => Value.str x 0).toArray }
abbrev marked (K : PySem.W.Frag) (xs : List Str) : PySem.W.Frag := K ++ [(mainGlobals, markO xs)]
theorem lamNames_marked (K : PySem.W.Frag) (xs : List Str) : lamNames (marked K xs) = xs := by
  unfold lamNames marked
  rw [List.getLast?_concat]
  show List.filterMap _ (xs.map fun x => Value.str x 0).toArray.toList = xs
  rw [List.toList_toArray, List.filterMap_map]
  induction xs with
  | nil => rfl
  | cons x r ih => rw [List.filterMap_cons]; simp only [Function.comp]; rw [ih]
section
variable {K : PySem.W.Frag} {xs : List Str}
theorem app_lk (h : (K.lookup mainGlobals).isSome = true) (a : Addr) : (marked K xs).lookup a = K.lookup a := by
  unfold marked
  rw [List.lookup_append]
  cases e : K.lookup a with
  | some o => rfl
  | none =>
    have ne : (a == mainGlobals) = false := by
      cases q : a == mainGlobals with
      | false => rfl
      | true => rw [eq_of_beq q] at e; rw [e] at h; cases h
    show (List.lookup a [(mainGlobals, markO xs)]) = none
    unfold List.lookup
    rw [ne]
    rfl
theorem has_main {x : Str} {v : Option Value} (h : PySem.W.nsIn K mainGlobals x = some v) : (K.lookup mainGlobals).isSome = true := by
  unfold PySem.W.nsIn at h
  split at h
  · rename_i e; rw [e]; rfl
  · cases h
theorem app_ns (h : (K.lookup mainGlobals).isSome = true) {n : Addr} {x : Str} : PySem.W.nsIn (marked K xs) n x = PySem.W.nsIn K n x := by
  unfold PySem.W.nsIn; rw [app_lk h]
theorem app_cd (h : (K.lookup mainGlobals).isSome = true) {c : Value} {x : Str} : PySem.W.codeIn (marked K xs) c x = PySem.W.codeIn K c x := by
  cases c with
  | ref a => unfold PySem.W.codeIn; simp only [app_lk h]
  | _ => rfl
theorem app_kp (h : (K.lookup mainGlobals).isSome = true) {f : Addr} {oc : Value} {od : Option Addr} {fd : FuncData} {sl : Array (Option Value)} (l : K.lookup f = some ⟨oc, od, .func fd, sl⟩) : PySem.W.keepIn (marked K xs) (.ref f) = true := by
  unfold PySem.W.keepIn; simp only [app_lk h, l]
theorem app_in (h : (K.lookup mainGlobals).isSome = true) {g : Heap} (X : K.In g) : (marked K xs).In g := fun a o e => X a o (by rw [← app_lk (xs := xs) h]; exact e)
end
/-! ### a def that makes lambdas, by its body -/
section
variable {P : Program} {w : World} {K : PySem.W.Frag} {mg : Str → Option Value} {base : Heap}
end
/-! ### the law's end -/
/-- the tables of the lambda-making defs in the heap at the start -/
structure TabsH (K : PySem.W.Frag) (h : Heap) : Prop where
  mt : ∀ P x, TabOf (topK K) P x → h.get? P = some { cls := .none, data := .fields #[] } ∧ K.lookup P = none
  one : ∀ P x y, TabOf (topK K) P x → TabOf (topK K) P y → x = y
  cd : ∀ x c P, x ∈ lamNames K → PySem.W.tabIn K x = some (c, P) → PySem.W.CodeHd h c P ∧ ∃ o, K.lookup c = some o
/-- what the law's def is told -/
def spLaw (K : PySem.W.Frag) : Sp := fun vs H Q _ => ∃ (a : Addr) (ns : List Int), vs = [.ref a] ∧ SqL K H a (ns.map V.int) ∧ ns.length ≤ 63 ∧ (∀ P x, TabOf (topK K) P x → H P = some (.tbl #[])) ∧ (∀ P x y, TabOf (topK K) P x → TabOf (topK K) P y → x = y) ∧ ∀ H', Q (.bl true) H'
theorem dats_ints {K : PySem.W.Frag} {H : Hp} : ∀ ns : List Int, Dats (topK K) H (ns.map V.int) (ns.map D.int)
  | [] => .nil
  | n :: ns => .cons (.int n) (dats_ints ns)
open Classical in
/-- the world at the law's start -/
theorem start_wd {K : PySem.W.Frag} {H : Hp} (hT : ∀ P x, TabOf (topK K) P x → H P = some (.tbl #[])) (hu : ∀ P x y, TabOf (topK K) P x → TabOf (topK K) P y → x = y) : ∃ H0 M, Wd (topK K) (fun _ => none) H0 M H ∧ ∀ a xs, SqL K H a xs → SqL K H0 a xs := by
  let t : Addr → Option Str := fun P => if h : ∃ x, TabOf (topK K) P x then some h.choose else none
  have t1 : ∀ P x, TabOf (topK K) P x → t P = some x := fun P x h => by
    have e : ∃ x, TabOf (topK K) P x := ⟨x, h⟩
    show (if h : ∃ x, TabOf (topK K) P x then some h.choose else none) = _
    rw [dif_pos e, hu P _ _ e.choose_spec h]
  have t2 : ∀ P x, t P = some x → TabOf (topK K) P x := fun P x h => by
    have h : (if h : ∃ x, TabOf (topK K) P x then some h.choose else none) = some x := h
    split at h
    · rename_i e; cases h; exact e.choose_spec
    · cases h
  refine ⟨fun b => if (t b).isSome then none else H b, fun b => (t b).map Cell.ctab, ⟨fun b u e => ?_, fun b c e => ?_, fun b u e => (nomatch e), fun P x h => by show (t P).map _ = _; rw [t1 P x h]; rfl, trivial⟩, fun a xs h => ?_⟩
  · have e : (if (t b).isSome then none else H b) = some u := e
    split at e
    · cases e
    · exact e
  · have e : (t b).map Cell.ctab = some c := e
    cases q : t b with
    | none => rw [q] at e; cases e
    | some x =>
      rw [q] at e
      cases e
      refine ⟨rfl, _, hT b x (t2 b x q), .tab ⟨True.intro, fun po u z => ?_⟩⟩
      have z : codeAmong po [] = some u := z
      simp [codeAmong] at z
  · have na : ∀ o : HO, H a = some o → (∀ ps, o ≠ .tbl ps) → (if (t a).isSome then none else H a) = some o := fun o e n => by
      cases q : t a with
      | none => exact e
      | some x => exact absurd (Option.some.inj (e.symm.trans (hT a x (t2 a x q)))) (n _)
    rcases h with (h | ⟨o, h⟩) | h
    · exact .inl (.inl (na _ h fun ps z => by cases z))
    · exact .inl (.inr ⟨o, na _ h fun ps z => by cases z⟩)
    · exact .inr h
def FLaw (F : FD) : Prop := ∀ (ns : List Int) (M : Mem) (k : KD), ns.length ≤ 63 → (∀ M', k (.bl true) M') → F [.scr (ns.map D.int)] M k
theorem law_sp {P : Program} {w : World} {K : PySem.W.Frag} {mg : Str → Option Value} {base : Heap} {k : Nat} {f : Addr} {fd : FuncData} {F : FD} (G : DFn P w K mg base k f fd ["script"] F) (hF : FLaw F) : DG.FnG P w K mg base CX0 k f fd ["script"] (spLaw K) :=
  DG.FnG.imp G fun vs H Q E ⟨a, ns, e, hs, hl, hT, hu, hq⟩ => by
    obtain ⟨H0, M, w, sq⟩ := start_wd hT hu
    exact ⟨_, H0, M, [.scr (ns.map D.int)], fun d _ => d = .bl true, w, (by rw [e]; exact .cons (.scr (sq a _ hs) (dats_ints ns)) .nil), hF ns M _ hl fun _ => rfl, fun v H0' H' d M' _ _ r z => (by subst z; cases r; exact hq H')⟩
section
variable {P : Program} {w : World} {K : PySem.W.Frag} {mg mb : Str → Option Value} {k : Nat} {fa a : Addr} {fd : FuncData} {s : Shared} {vs : List Value} {ns : List Int}
theorem call_tabs {H : Hp} (hT : ∀ P x, TabOf (topK K) P x → H P = some (.tbl #[])) (hH : ∀ b, H b = none ∨ (∃ x, TabOf (topK K) b x) ∨ (b = a ∧ K.lookup a = none ∧ ∃ xs, H b = some (.frz { cls := .type "list", data := .seq vs.toArray } (.lst xs)))) (TH : TabsH K s.heap) (hok : HOk P w H s.heap)
    (hl : s.heap.get? a = some { cls := .type "list", data := .seq vs.toArray }) (KX : K.In s.heap) (n1 : s.heap.Ns mainGlobals mg) (n2 : s.heap.Ns builtinsNs mb) (n3 : ∀ x : Str, x ≠ "__name__" → mb x = bootBuiltins x) (lim : s.heap.NoLimit) (gn : s.gens = #[]) (hr : Room k callerA)
    (bmain : ∃ (bm : Addr) (ob : Obj), mg "__builtins__" = some (.ref bm) ∧ bm ≠ builtinsNs ∧ s.heap.get? bm = some ob ∧ ob.cls = .type "module" ∧ ob.dict = some builtinsNs ∧ ob.data = .plain)
    (F : ∀ base : Heap, K.In base → base.Ns mainGlobals mg → (∀ x c P, x ∈ lamNames K → PySem.W.tabIn K x = some (c, P) → TabB base mg c P) → DG.FnG P w K mg base CX0 k fa fd ["script"] (spLaw K)) (bind : ∀ (s : Shared) (u : Value), BindsTo s fd ⟨[u], []⟩ [("script", u)])
    (hsp : spLaw K [.ref a] H (fun v _ => v = .bl true) fun _ _ _ => False) : codeAny (model P w) callerA (.call (.ref fa) ⟨[.ref a], []⟩) (DG.Told s) s := by
  -- what is tracked is the script or a table
  have kind : ∀ {b : Addr} {o : Obj}, s.heap.get? b = some o → (∀ xs n, o.data ≠ .seq xs n) → o.data ≠ .fields #[] → H b = none := fun {b o} e d1 d2 => by
    rcases hH b with z | ⟨x, z⟩ | ⟨z, _⟩
    · exact z
    · have := (TH.mt b x z).1
      rw [e] at this
      cases this
      exact absurd rfl d2
    · subst z
      rw [hl] at e
      cases e
      exact absurd rfl (d1 _ _)
  have bas : ∀ {b : Addr} {o : Obj}, s.heap.get? b = some o → H b = none → (hidT s.heap H).get? b = some o := fun e n => hidT_get e n
  have ns' : ∀ {b : Addr} {m : Str → Option Value}, s.heap.Ns b m → (hidT s.heap H).Ns b m := fun ⟨o, d, n, e, hd, r⟩ => ⟨o, d, n, bas e (kind e (fun xs n z => by rw [hd] at z; cases z) fun z => by rw [hd] at z; cases z), hd, r⟩
  have KB : K.In (hidT s.heap H) := fun b o e => bas (KX b o e) (by
    rcases hH b with z | ⟨x, z⟩ | ⟨z, z2, _⟩
    · exact z
    · rw [(TH.mt b x z).2] at e; cases e
    · subst z; rw [z2] at e; cases e)
  have dictG : ∀ {b : Addr} {o : Obj}, s.heap.get? b = some o → (∀ es n, o.data ≠ .dict es n) → b ≠ mainGlobals := fun {b o} e hn z => by
    obtain ⟨o', d, n, e', hd, _⟩ := n1
    rw [z, e'] at e
    cases e
    exact hn _ _ hd
  have TB : ∀ x c P, x ∈ lamNames K → PySem.W.tabIn K x = some (c, P) → TabB (hidT s.heap H) mg c P := fun x c P hx ht => by
    obtain ⟨hcd, oc, hoc⟩ := TH.cd x c P hx ht
    have hP := (TH.mt P x ⟨hx, c, ht⟩).1
    refine ⟨?_, ?_, fun z => dictG hP (fun es n z => by cases z) z.symm⟩
    · obtain ⟨o, us, fi, tf, fl, tg, inF, tx, tt, e, r⟩ := hcd
      refine ⟨o, us, fi, tf, fl, tg, inF, tx, tt, ?_, r⟩
      rw [KX c oc hoc] at e
      cases e
      exact KB c oc hoc
    · obtain ⟨bm, ob, b1, b2, b3, b4, b5, b6⟩ := bmain
      refine ⟨bm, ob, b1, b2, dictG b3 (fun es n z => by rw [b6] at z; cases z), fun z => ?_, bas b3 (kind b3 (fun xs n z => by rw [b6] at z; cases z) fun z => by rw [b6] at z; cases z), b4, b5, b6⟩
      rw [z, hP] at b3
      cases b3
      cases b6
  have Md : Mod K mg (hidT s.heap H) := by
    obtain ⟨c, l1, l2⟩ := lim
    exact ⟨KB, ns' n1, ⟨mb, ns' n2, n3⟩, c, ns' l1, l2⟩
  have E0 : Env0 P w K mg (hidT s.heap H) callerA [] s H := ⟨rfl, Md, fun b o e => of_hidT e, Nat.le_of_eq (hidT_size _ _), trivial, fun b z => (by cases z), hok, .of_eq gn⟩
  refine codeAny_mono ((F _ KB (ns' n1) TB).run callerA [] s H ⟨[.ref a], []⟩ [.ref a] [.ref a] (fun v _ => v = .bl true) (fun _ _ _ => False) ⟨hr, rfl⟩ E0 (bind s _) (.cons rfl .nil) hsp) fun r s' z => ?_
  match r, z with
  | .error e, z => exact (z : False).elim
  | .ok .next, z => exact z.elim
  | .ok .brk, z => exact z.elim
  | .ok .cont, z => exact z.elim
  | .ok (.ret u), ⟨v, H', os, br, un, ok', rv, q⟩ =>
    have q : v = .bl true := q
    subst q
    obtain rfl : u = Value.bool true := rv
    refine ⟨rfl, ⟨fun b o e => ?_, fun b o e => ?_⟩, os, br⟩
    · rcases hH b with z | ⟨x, z⟩ | ⟨z, _, xs, z3⟩
      · exact .inl (un.keep b o e z (fun z => by cases z) (fun z => by cases z))
      · obtain ⟨more, g⟩ := un.tbls b #[] (hT b x z)
        have g2 : s'.heap.get? b = some { cls := .none, data := .fields (#[] ++ more) } := ok' b _ g
        have hP := (TH.mt b x z).1
        obtain ⟨hx, c, ht⟩ := z
        rw [hP] at e
        cases e
        exact .inr (.inl ⟨((TH.cd x c b hx ht).1.tab hP).isCodeTable, rfl, #[], more, rfl, g2⟩)
      · have f1 := (hok b _ z3).1
        have f2 := (ok' b _ (un.frzs b _ _ z3)).1
        rw [e] at f1
        cases f1
        exact .inl f2
    · rcases hH b with z | ⟨x, z⟩ | ⟨z, _, xs, z3⟩
      · exact ⟨o, un.keep b o e z (fun z => by cases z) (fun z => by cases z)⟩
      · obtain ⟨more, g⟩ := un.tbls b #[] (hT b x z)
        exact ⟨_, ok' b _ g⟩
      · exact ⟨_, (ok' b _ (un.frzs b _ _ z3)).1⟩
end
open Classical in
/-- the head's goal -/
theorem walkT {l : PySem.W.OpenLaw} {q : Program} {loose : List Str} {XP : (Str → Option Value) → Heap → Prop} {YP : World → Heap → Prop} {d : DefRec} {K : Params → PySem.W.Frag} {k : Nat}
    (hn : l.most = some 63) (hdf : d.params.defaults = []) (hr : Room k callerA) (hY : ∀ (w : World) (h : Heap), YP w h → (K w.params).In h)
    (F : ∀ (w : World) (mg mb : Str → Option Value) (mean : ExcName → Option Value) (fa : Addr) (h : Heap), (K w.params).In h → Top q (PySem.W.looseW q loose) mean mg mb h → mg d.name = some (.ref fa) →
      ∃ K' : PySem.W.Frag, K'.In h ∧ TabsH K' h ∧ ∃ fd : FuncData, (∀ (s : Shared) (u : Value), BindsTo s fd ⟨[u], []⟩ [("script", u)]) ∧
        ∀ base : Heap, K'.In base → base.Ns mainGlobals mg → (∀ x c P, x ∈ lamNames K' → PySem.W.tabIn K' x = some (c, P) → TabB base mg c P) → DG.FnG l.prog w K' mg base CX0 k fa fd ["script"] (spLaw K')) :
    PySem.W.WalkO q loose XP YP l.row.toRowW d [] (fun f vs => PySem.call f vs) := by
  apply Att.attach_call hn hdf
  intro w s0 s1 mg mb fa o pm cd doc a vs ns G Y ho hd hcd hmg hobj hints hlen hg
  obtain ⟨K', KX, TH, fd, hb, hF⟩ := F w mg mb _ fa _ (hY w _ Y) G.T hmg
  have vi := vals_ints hints
  have len := hints.length
  have na : ∀ x, ¬ TabOf (topK K') a x := fun x h => by
    have := (TH.mt a x h).1
    rw [hobj] at this
    cases this
  let t : Addr → Prop := fun P => ∃ x, TabOf (topK K') P x
  cases hk : K'.lookup a with
  | some o =>
    have e := KX a o hk
    rw [hobj] at e
    cases e
    have sq : SqL K' (fun b => if t b then some (.tbl #[]) else none) a (ns.map V.int) := .inr ⟨_, vs.toArray, _, hk, rfl, rfl, rfl, (by rw [List.size_toArray]; exact Nat.le_trans (by omega) (show (63 : Nat) ≤ sizeLine by decide)), by simpa using vi⟩
    refine call_tabs (H := fun b => if t b then some (.tbl #[]) else none) (a := a) (vs := vs) (fun P x h => if_pos ⟨x, h⟩) (fun b => ?_) TH (fun b u z => ?_) hobj KX G.T.g G.T.b G.T.builtins G.T.nolimit hg hr G.T.bmain hF hb ⟨a, ns, rfl, sq, hlen, fun P x h => if_pos ⟨x, h⟩, TH.one, fun _ => rfl⟩
    · by_cases h : t b
      · exact .inr (.inl h)
      · exact .inl (if_neg h)
    · by_cases h : t b
      · have z : (if t b then some (HO.tbl #[]) else none) = some u := z
        rw [if_pos h] at z
        cases z
        obtain ⟨x, hx⟩ := h
        exact (TH.mt b x hx).1
      · have z : (if t b then some (HO.tbl #[]) else none) = some u := z
        rw [if_neg h] at z
        cases z
  | none =>
    let O : HO := .frz { cls := .type "list", data := .seq vs.toArray } (.lst (ns.map V.int))
    let H : Hp := fun b => if b = a then some O else if t b then some (.tbl #[]) else none
    have h1 : H a = some O := if_pos rfl
    have h2 : ∀ b, b ≠ a → H b = if t b then some (.tbl #[]) else none := fun b e => if_neg e
    have h3 : ∀ P x, TabOf (topK K') P x → H P = some (.tbl #[]) := fun P x h => by
      rw [h2 P fun z => na x (by rw [← z]; exact h)]
      exact if_pos ⟨x, h⟩
    clear_value H
    refine call_tabs (H := H) (a := a) (vs := vs) h3 (fun b => ?_) TH (fun b u z => ?_) hobj KX G.T.g G.T.b G.T.builtins G.T.nolimit hg hr G.T.bmain hF hb ⟨a, ns, rfl, .inl (.inr ⟨_, h1⟩), hlen, h3, TH.one, fun _ => rfl⟩
    · by_cases e : b = a
      · subst e; exact .inr (.inr ⟨rfl, hk, _, h1⟩)
      · by_cases h : t b
        · exact .inr (.inl h)
        · exact .inl ((h2 b e).trans (if_neg h))
    · by_cases e : b = a
      · subst e
        rw [h1] at z
        cases z
        exact ⟨hobj, (by rw [List.length_map]; exact Nat.le_trans (by omega) (show (63 : Nat) ≤ sizeLine by decide)), vs, _, vi, hobj⟩
      · rw [h2 b e] at z
        by_cases h : t b
        · rw [if_pos h] at z
          cases z
          obtain ⟨x, hx⟩ := h
          exact (TH.mt b x hx).1
        · rw [if_neg h] at z
          cases z
end DL

set_option autoImplicit false
set_option maxRecDepth 100000
set_option maxHeartbeats 4000000
/-! more of dicts: pop(k), sorted(d), a walk of d.values(); any() -/
namespace DL
open PySem PySem.Spec PyProof.Rows L2
section
variable {X : CxZ} {K : KZ}
/-! any(list of truths) -/
/-! d.pop(k), k there -/
def isDc (M : Mem) : D → Prop
  | .cel a => ∃ kvs, M a = some (.dct kvs)
  | _ => False
/-! a dict that nobody changes while a statement runs; for x in d.values() -/
/-! sorted(d): keys all whole numbers, or all texts -/
end
end DL

set_option autoImplicit false
set_option maxRecDepth 100000
set_option maxHeartbeats 2000000
namespace DL
open PySem PySem.Spec PyProof.Rows L2
open Sem (wp)
/-! zip of a list and a tuple -/
structure Apl (z tI tO j1 j2 a b : Addr) : Prop where
  S : ZipSep2 z tI tO j1 j2 [j1, a] [j2, b]
  na : a ≠ j1
  nb : b ≠ j2
end DL
namespace DL
open PySem PySem.Spec PyProof.Rows L2
section
variable {X : CxZ} {e e2 : Expr} {elts : List Expr} {kk : Nat} {tpos p pos : Pos} {wa : WA}
end
end DL

set_option autoImplicit false
set_option maxRecDepth 100000
set_option maxHeartbeats 4000000
/-! zip of three tuples -/
namespace DL
open PySem PySem.Spec PyProof.Rows L2
open Sem (wp)
structure Ap3 (z tI tO j1 j2 j3 a b c : Addr) : Prop where
  S : ZipSep3 z tI tO j1 j2 j3 [j1, a] [j2, b] [j3, c]
  na : a ≠ j1
  nb : b ≠ j2
  nc : c ≠ j3
section
variable {X : CxZ} {e e2 e3 : Expr} {elts : List Expr} {kk : Nat} {tpos p pos : Pos} {wa : WA}
end
end DL

set_option autoImplicit false
set_option maxRecDepth 100000
set_option maxHeartbeats 4000000
/-! dicts: setdefault; get and in where the key may be None; setdefault, items, list of those keyed by tuples -/
namespace DL
open PySem PySem.Spec PyProof.Rows L2
section
variable {X : CxZ} {K : KZ}
/-! d.setdefault(k, z), plain keys -/
/-! the key may be None -/
/-! keyed by tuples: setdefault -/
end
end DL

set_option autoImplicit false
set_option maxRecDepth 100000
set_option maxHeartbeats 4000000
/-! dicts keyed by tuples: a walk of d.items(), list(d) -/
namespace DL
open PySem PySem.Spec PyProof.Rows L2
section
variable {X : CxZ} {K : KZ}
/-! list(d) -/
end
end DL

set_option autoImplicit false
set_option maxRecDepth 100000
set_option maxHeartbeats 4000000
/-! sum; min and max with default=None; xs.insert(i, y); < of data -/
namespace DL
open PySem PySem.Spec PyProof.Rows L2
section
variable {X : CxZ} {K : KZ}
/-! sum of whole numbers -/
/-! min, max with default=None, of data that are alike -/
/-! xs.insert(i, y) -/
/-! < of data -/
end
end DL

set_option autoImplicit false
set_option maxRecDepth 100000
set_option maxHeartbeats 4000000
/-! a walk of a tuple or a list; sorted(.., key=def) of either -/
namespace DL
open PySem PySem.Spec PyProof.Rows L2
section
variable {X : CxZ} {f : Addr} {fd : FuncData} {F : FD} {kk j : Nat} {q g : Str} {st : Stmt}
end
end DL

set_option autoImplicit false
set_option maxRecDepth 100000
set_option maxHeartbeats 4000000
/-! a if c else b, as a test -/
namespace DL
open PySem PySem.Spec PyProof.Rows L2
section
variable {X : CxZ} {a b c : Expr} {pos : Pos}
end
end DL

set_option autoImplicit false
set_option maxRecDepth 100000
set_option maxHeartbeats 4000000
/-! a dict written with two whole numbers and what a local holds -/
namespace DL
open PySem PySem.Spec PyProof.Rows L2
section
variable {X : CxZ}
end
end DL

set_option autoImplicit false
set_option maxRecDepth 100000
set_option maxHeartbeats 4000000
/-! list(x) of a text, or of what else list(x) takes -/
namespace DL
open PySem PySem.Spec PyProof.Rows L2
section
variable {X : CxZ}
end
end DL

set_option autoImplicit false
set_option maxRecDepth 100000
set_option maxHeartbeats 4000000
/-! instances: attributes, methods, making one -/
namespace DG
open PySem PySem.Spec PyProof.Rows L2
section
variable {X : Cx} {CX : CXT} {k : Nat} {f C : Addr} {fd : FuncData} {ps : List Str} {sp : Sp} {E : XK} {x m : Str}
variable {p pos apos : Pos} {e o : Expr} {es : List Expr} {ta : TE} {t : TA}
theorem RoomG.make {A : Around} (r : RoomG (k + 1) A) (C : Addr) (us : List Value) (kw : List (Str × Value)) : RoomG k (A.under (.builtin "type.__call__" ⟨.ref C :: us, kw⟩)) := ⟨r.r.make C us kw, r.g⟩
end
end DG
namespace DL
open PySem PySem.Spec PyProof.Rows L2
section
variable {X : CxZ} {C : Addr} {e o v : Expr} {es : List Expr} {f m x : Str} {pos pos' tpos apos p : Pos} {we wo wv : WE} {wa : WA}
/-- a method of a class: its def, its place -/
structure MDef (K : PySem.W.Frag) (C : Addr) (m qual : Str) (st : Stmt) (ps : List Str) (f : Addr) (fd : FuncData) : Prop where
  F : Fun K m qual st f fd
  at_ : Meth K C m f
  b : Binds K fd ps []
/-- a class that can be made -/
structure CDef (K : PySem.W.Frag) (mg : Str → Option Value) (x : Str) (C f : Addr) : Prop where
  cl : Cls K C
  made : Mk K C f
  at_ : mg x = some (.ref C)
end
/-! texts: split, startswith, int of one -/
section
variable {X : CxZ} {o e : Expr} {wo we : WE} {apos pos p : Pos}
/-! list(d) of a module's dict -/
end
end DL

set_option autoImplicit false
set_option maxRecDepth 100000
set_option maxHeartbeats 4000000
/-! what the top tells of classes stays so behind a mark -/
namespace DL
open PySem PySem.Spec PyProof.Rows L2
section
variable {K : PySem.W.Frag} {xs : List Str}
end
end DL

set_option autoImplicit false
set_option maxRecDepth 100000
set_option maxHeartbeats 4000000
/-! d.update(other dict); a dict of one pair, its key and value made on the spot -/
namespace DL
open PySem PySem.Spec PyProof.Rows L2
section
variable {X : CxZ}
def rdUpd (x y : D) (M : Mem) (k : KD) : Prop := match x, y with
  | .cel a, .cel b => (match M a, M b with | some (.dct kvs), some (.dct more) => a ≠ b ∧ kvs.length + more.length ≤ sizeLine ∧ k .non (setM M a (.dct (mergeD kvs more))) | _, _ => False)
  | _, _ => False
def wUpd (wa wi : WE) : WE := fun Γ M k => wa Γ M fun x M1 => isDc M1 x ∧ wi Γ M1 fun y M2 => rdUpd x y M2 k
def wDisp1 (wk wv : WE) : WE := fun Γ M k => ∀ p, M p = none → wk Γ (setM M p (.dct [])) fun y M1 => wv Γ M1 fun z M2 => M2 p = some (.dct []) ∧ (match keyD y with | some κ => k (.cel p) (setM M2 p (.dct [(κ, z)])) | none => False)
theorem de_disp1 {ek ev : Expr} {wk wv : WE} {pos : Pos} (hk : DE X ek wk) (hv : DE X ev wv) : DE X (.Dict [some ek] [ev] pos) (wDisp1 wk wv) := by
  refine de_of (pe_disp (pps_cons hk.run hv.run pps_nil) rfl rfl (by simp) (by simp)) fun σ H Q Γ Fr H0 M k h1 h2 h3 h4 => ?_
  intro p hp
  refine ⟨Γ, Fr, H0, setM M p (.dct []), _, h1, h2.newM hp (.dct .nil), h3 p (h2.freshM hp), fun yv H2 H'' dy M2 e2 w2 r2 q2 => ?_⟩
  refine ⟨Γ, Fr, H2, M2, _, h1.mono e2, w2, q2, fun zv H3 H''' dz M3 e3 w3 r3 q3 => ?_⟩
  obtain ⟨em, q3⟩ := q3
  obtain ⟨_, o, ho, ck⟩ := w3.mem p _ em
  cases ck with
  | dct hk0 =>
    cases hk0
    cases ek' : keyD dy with
    | none => rw [ek'] at q3; exact q3.elim
    | some κ =>
      rw [ek'] at q3
      have := keyD_ok (r2.mono e3) ek'
      subst this
      refine ⟨ho, [(κ, zv)], rfl, by simp, ?_⟩
      exact h4 _ H3 _ _ _ (e2.trans e3) (w3.set em (.dct (.cons ⟨rfl, r3⟩ .nil))) (.cel p) q3
end
end DL

set_option autoImplicit false
set_option maxRecDepth 100000
set_option maxHeartbeats 4000000
/-! xs.extend(tuple) -/
namespace PySem.AutoSeq1
end PySem.AutoSeq1
namespace DL
open PySem PySem.Spec PyProof.Rows L2
section
variable {X : CxZ}
end
end DL

set_option autoImplicit false
set_option maxRecDepth 100000
set_option maxHeartbeats 4000000
/-! len(d) of a dict -/
namespace DL
open PySem PySem.Spec PyProof.Rows L2
section
variable {X : CxZ}
end
end DL

set_option autoImplicit false
set_option maxRecDepth 100000
set_option maxHeartbeats 2000000
/-! an own exception whose __init__ says super().__init__(text) and keeps one thing: how it is made -/
namespace DX
open PySem PySem.Spec PyProof.Rows PySem.W PySem.HandSPX PySem.Calls
/-- the scope of such an __init__ -/
abbrev sScope (ns : List (Str × NameKind)) (more : List (Str × Const)) : Scope := ⟨.function, ns, false, false, more⟩
structure SuperScope (ns : List (Str × NameKind)) (f : Str) : Prop where
  sup : ns.lookup ("super" : Str) = some .globalImplicit
  cls : ns.lookup ("__class__" : Str) = some .free
  self : ns.lookup ("self" : Str) = some .local
  fld : ns.lookup f = some .local
  nocell : ∀ x ∈ ns, x.2 ≠ .cell
  ne : (f == ("self" : Str)) = false
  dbg : (f == ("__debug__" : Str)) = false
/-- its positions, its text, its scope .. -/
structure IArgs where
  (p0 p1 p2 p3 p4 p5 p6 p7 p8 p9 : Pos)
  (m f qual : Str)
  j : Nat
  ps : Arguments
  ns : List (Str × NameKind)
  more : List (Str × Const)
  (cc cda : Addr)
  (dV kV doc pm ct : Value)
  an : Option Addr
/-- super().__init__(..) -/
abbrev IArgs.call (a : IArgs) : PySem.Expr := .Call (.Attribute (.Call (.Name "super" a.p0) [] [] a.p1) "__init__" a.p2) [.Constant (.str a.m) a.j a.p3] [] a.p4
/-- self.f = f -/
abbrev IArgs.keep (a : IArgs) : Stmt := .Assign [.Attribute (.Name "self" a.p6) a.f a.p7] (.Name a.f a.p8) a.p9
abbrev IArgs.fd (a : IArgs) : FuncData := fnX "__init__" a.qual a.ps [.Expr a.call a.p5, a.keep] (sScope a.ns a.more) [("__class__", a.cc)] a.dV a.kV a.doc a.pm a.an (.ref a.cda) a.ct
def clsTail : List Value := [.type "ValueError", .type "Exception", .type "BaseException", .type "object"]
/-- an own exception class, with its __init__ -/
structure EDef (P : Program) (K : Frag) (mg : Str → Option Value) (x f : Str) where
  C : Addr
  fI : Addr
  a : IArgs
  f_is : a.f = f
  at_ : mg x = some (.ref C)
  T : L2.OexC K C
  ie : L2.ExcC K C
  iC : findIn K (.ref C) ("__init__" : Str) = some (some (.ref fI))
  tI : typeIn K (.ref fI) = some (.type "function")
  S : SuperScope a.ns a.f
  lk : ∃ oc od osl, K.lookup fI = some ⟨oc, od, .func a.fd, osl⟩
  cd : codeIn K (.ref a.cda) a.qual = true
  self : ∃ ar, (a.ps.posonlyargs ++ a.ps.args).head? = some ar ∧ ar.arg = "self"
  code : ∃ ccl cdd us ccs file tf, K.lookup a.cda = some ⟨ccl, cdd, .fields us, ccs⟩ ∧ us[2]? = some (.str file tf) ∧ ((P.main.file : Str) == file) = true
  cell : ∃ cl cld csl, K.lookup a.cc = some ⟨cl, cld, .cell (some (.ref C)), csl⟩
  sup : mg "super" = none
  top : (P.main.scope.names.lookup ("super" : Str)).isSome = false
  op : nsIn K cStatics "thirdparty.any" = some none
  sIn : ks_superIn K C C "__init__" = some (some (.builtin "ValueError.__init__"))
  isV : subIn K (.ref C) (.type "ValueError") = some true
  isC : mroIn K C (.ref C) = some true
  ok : excInitIn K C clsTail "ValueError.__new__" = true
  no : findIn K (.ref C) a.f = some none
  b : ∀ (s : Shared) (e v : Value), BindsTo s a.fd ⟨[e, v], []⟩ [("self", e), (a.f, v)]
  ev : ∃ pl : Sem Bool, ∀ L : Addr, eval a.call (callEnv a.fd L fI) = (do
      let ov ← attributeBase (.Call (.Name "super" a.p0) [] [] a.p1) "__init__" (callEnv a.fd L fI) (eval (.Call (.Name "super" a.p0) [] [] a.p1) (callEnv a.fd L fI))
      standAt a.p2.atName
      let (g, me) ← holding [ov] (getMethod ov "__init__" pl)
      callWith a.p4 g me (backTo a.p4 (starEach [.Constant (.str a.m) a.j a.p3] (callEnv a.fd L fI))) [])
section
variable {prog : Program} {w : World} {A : Around} {R : Result → Shared → Prop} {h : Heap} {g : Array GenState} {d : Drawn} {t : Nat} {os : OsState}
variable {K : Frag} {mg mb : Str → Option Value} {x f : Str} {e t0 : Addr} {v : Value}
end
open L2
section
variable {X : Cx} {x f : Str} {k : Nat} {e : PySem.Expr} {te : TE} {p pos : Pos}
end
end DX

set_option autoImplicit false
set_option maxRecDepth 100000
set_option maxHeartbeats 4000000
/-! try: body, except C as n: suite, where the exception that is caught is told as a thing of the heap -/
namespace DX
open PySem PySem.Spec PyProof.Rows PySem.Calls L2 DL
section
variable {X : Cx} {pins : List (Addr × Obj)} {σ : L2.St} {H : Hp} {s sI : Shared} {B : Heap} {a C : Addr} {d : Option Addr} {o : Obj} {vs : Array Value}
end
section
variable {X : Cx} {x n : Str} {c : Value} {i : Nat} {body suite : List Stmt} {b₀ : Stmt} {np pos pos' : Pos} {tb : WX → TS} {ts : Addr → TS} {Wo : WX}
end
end DX

set_option autoImplicit false
set_option maxRecDepth 100000
set_option maxHeartbeats 4000000
/-! exceptions: raise, try, calls that may raise -/
namespace DG
open PySem PySem.Spec PyProof.Rows L2
end DG
namespace DL
open PySem PySem.Spec PyProof.Rows L2 DX
/-- what is wished of an exception: its class, what it keeps -/
abbrev KX := Addr → List (Str × D) → Mem → Prop
/-- and what the locals were -/
abbrev KXE := Addr → List (Str × D) → Env → Mem → Prop
/-- an exception may go out from here, if kx is true -/
structure Out (X : CxZ) (kx : KXE) : Prop where
  ex : ∃ W : WX, Takes X.X W ∧ ∀ C d σ Γ Fr H0 M H fds, Slots X.K H0 σ Γ → Wd X.K Fr H0 M H → XFlds X.K H0 d fds → kx C fds Γ M → W (.ref C) d σ H
section
variable {P : Program} {w : World} {K : PySem.W.Frag} {mg : Str → Option Value} {base : Heap}
end
section
variable {X : CxZ} {kx : KXE} {x f : Str} {e : PySem.Expr} {es : List PySem.Expr} {we : WE} {wa : WA} {p pos pos' : Pos} {j : Nat}
/-! ### isinstance of an exception, what it keeps -/
end
/-! ### try -/
section
variable {X : CxZ} {kx : KXE} {x n : Str} {c : Value} {i : Nat} {body suite : List Stmt} {b₀ : Stmt} {np pos pos' : Pos} {tb : KXE → WS} {ts : WS}
end
end DL
namespace DL
open PySem PySem.Spec PyProof.Rows L2 DX
end DL
namespace DX
open PySem PySem.Spec PyProof.Rows PySem.W
/-- all that is asked of such a class, looked up -/
def exB (K : Frag) (C fI cda : Addr) (f qual : Str) : Bool :=
  (match K.lookup C with
   | some ⟨.type "type", _, .cls cd, sl⟩ => (match cd.mro, sl.toList with
     | .ref C' :: bm, [_, _, _, _, some (.builtin n), _] => decide (C' = C) && (decide (n = "ValueError.__new__") && (decide (cd.hasDel = false) && (decide (cd.hasDict = true) && HandSPX.refsVE bm)))
     | _, _ => false)
   | _ => false) &&
  [decide (findIn K (.ref C) "__setattr__" = some (some (.builtin "object.__setattr__"))), decide (subIn K (.ref C) (.type "BaseException") = some true), decide (typeIn K (.ref C) = some (.type "type")), keepIn K (.ref C),
   decide (findIn K (.ref C) "__getattribute__" = some (some (.builtin "BaseException.__getattribute__"))), decide (findIn K (.ref C) "__getattr__" = some none), hasDictIn K C,
   decide (findIn K (.ref C) "__class__" = some (some (.builtin "object.__class__"))), decide (specialIn K (.builtin "object.__class__") "__get__" = some (some (.builtin "getset_descriptor.__get__"))), decide (takesIn K (.builtin "object.__class__") = some true),
   decide (mroIn K C (.type "object") = some true), decide (typeIn K (.ref fI) = some (.type "function")), codeIn K (.ref cda) qual, decide (nsIn K cStatics "thirdparty.any" = some none),
   decide (ks_superIn K C C "__init__" = some (some (.builtin "ValueError.__init__"))), decide (subIn K (.ref C) (.type "ValueError") = some true), decide (mroIn K C (.ref C) = some true), excInitIn K C clsTail "ValueError.__new__",
   decide (findIn K (.ref C) f = some none), decide (findIn K (.ref C) "__init__" = some (some (.ref fI)))].all id
theorem exB_cls {K : Frag} {C fI cda : Addr} {f qual : Str} (h : exB K C fI cda f qual = true) :
    ∃ nm q N bs bm sn sub ab col dd k0 k1 k2 k3 k5, K.lookup C = some (excClassObj nm q C N bs bm true sn sub ab col dd k0 k1 k2 k3 k5 "ValueError.__new__") ∧ HandSPX.refsVE bm = true := by
  unfold exB at h
  have h := (Bool.and_eq_true_iff.mp h).1
  split at h
  · rename_i dd cd sl ho
    split at h
    · rename_i C' bm k0 k1 k2 k3 n k5 hm hs
      simp only [Bool.and_eq_true, decide_eq_true_eq] at h
      obtain ⟨rfl, rfl, hdel, hdct, hb⟩ := h
      obtain ⟨nm, bs, mro, ns, qn, hd, sn, sub, ab, col, del⟩ := cd
      dsimp only at hm hdel hdct
      subst hm hdel hdct
      obtain ⟨l⟩ := sl
      dsimp only at hs
      subst hs
      exact ⟨nm, qn, ns, bs, bm, sn, sub, ab, col, dd, k0, k1, k2, k3, k5, ho, hb⟩
    · cases h
  · cases h
theorem exB_all {K : Frag} {C fI cda : Addr} {f qual : Str} (h : exB K C fI cda f qual = true) : (L2.OexC K C ∧ L2.ExcC K C) ∧ (findIn K (.ref C) ("__init__" : Str) = some (some (.ref fI)) ∧ typeIn K (.ref fI) = some (.type "function") ∧ codeIn K (.ref cda) qual = true ∧ nsIn K cStatics "thirdparty.any" = some none) ∧
    (ks_superIn K C C "__init__" = some (some (.builtin "ValueError.__init__")) ∧ subIn K (.ref C) (.type "ValueError") = some true ∧ mroIn K C (.ref C) = some true) ∧ excInitIn K C clsTail "ValueError.__new__" = true ∧ findIn K (.ref C) f = some none := by
  have hc := exB_cls h
  unfold exB at h
  have h := (Bool.and_eq_true_iff.mp h).2
  simp only [List.all_cons, List.all_nil, Bool.and_eq_true, decide_eq_true_eq, id, and_true] at h
  obtain ⟨h1, h2, h3, h4, h5, h6, h7, h8, h9, h10, h11, h12, h13, h14, h15, h16, h17, h18, h19, h20⟩ := h
  exact ⟨⟨⟨hc, h1, h2, h3, h4⟩, ⟨h5, h6, h2, h7, h8, h9, h10, h11⟩⟩, ⟨h20, h12, h13, h14⟩, ⟨h15, h16, h17⟩, h18, h19⟩
/-- the class, by one check -/
def EDef.of {P : Program} {K : Frag} {mg : Str → Option Value} {x f : Str} {C fI : Addr} {a : IArgs} (hf : a.f = f) (at_ : mg x = some (.ref C)) (h : exB K C fI a.cda a.f a.qual = true) (S : SuperScope a.ns a.f) (lk : ∃ oc od osl, K.lookup fI = some ⟨oc, od, .func a.fd, osl⟩)
    (self : ∃ ar, (a.ps.posonlyargs ++ a.ps.args).head? = some ar ∧ ar.arg = "self") (code : ∃ ccl cdd us ccs file tf, K.lookup a.cda = some ⟨ccl, cdd, .fields us, ccs⟩ ∧ us[2]? = some (.str file tf) ∧ ((P.main.file : Str) == file) = true)
    (cell : ∃ cl cld csl, K.lookup a.cc = some ⟨cl, cld, .cell (some (.ref C)), csl⟩) (sup : mg "super" = none) (top : (P.main.scope.names.lookup ("super" : Str)).isSome = false) (b : ∀ (s : Shared) (e v : Value), BindsTo s a.fd ⟨[e, v], []⟩ [("self", e), (a.f, v)])
    (ev : ∃ pl : Sem Bool, ∀ L : Addr, eval a.call (callEnv a.fd L fI) = (do
      let ov ← attributeBase (.Call (.Name "super" a.p0) [] [] a.p1) "__init__" (callEnv a.fd L fI) (eval (.Call (.Name "super" a.p0) [] [] a.p1) (callEnv a.fd L fI))
      standAt a.p2.atName
      let (g, me) ← holding [ov] (getMethod ov "__init__" pl)
      callWith a.p4 g me (backTo a.p4 (starEach [.Constant (.str a.m) a.j a.p3] (callEnv a.fd L fI))) [])) : EDef P K mg x f where
  C := C
  fI := fI
  a := a
  f_is := hf
  at_ := at_
  T := (exB_all h).1.1
  ie := (exB_all h).1.2
  iC := (exB_all h).2.1.1
  tI := (exB_all h).2.1.2.1
  S := S
  lk := lk
  cd := (exB_all h).2.1.2.2.1
  self := self
  code := code
  cell := cell
  sup := sup
  top := top
  op := (exB_all h).2.1.2.2.2
  sIn := (exB_all h).2.2.1.1
  isV := (exB_all h).2.2.1.2.1
  isC := (exB_all h).2.2.1.2.2
  ok := (exB_all h).2.2.2.1
  no := (exB_all h).2.2.2.2
  b := b
  ev := ev
end DX

set_option autoImplicit false
set_option maxRecDepth 100000
set_option maxHeartbeats 2000000
/-! repr of things in which dicts stand: bare ones, and such of one entry -/
namespace DL
open PySem PySem.Spec PyProof.Rows L2
mutual
/-- how d is shown -/
inductive Sh (M : Mem) : D → PyData → Prop
  | non : Sh M .non .none
  | bl (b : Bool) : Sh M (.bl b) (.bool b)
  | int (i : Int) : Sh M (.int i) (.int i)
  | str (s : Str) : Sh M (.str s) (.str s)
  | tup {ds : List D} {ps : List PyData} : Shs M ds ps → Sh M (.tup ds) (.tuple ps)
  | lst {ds : List D} {ps : List PyData} : Shs M ds ps → Sh M (.lst ds) (.list ps)
  | bare {a : Addr} : M a = some (.dct []) → Sh M (.cel a) (.dict [])
  | one {a : Addr} {x : Str} {d : D} {p : PyData} : M a = some (.dct [(.inr x, d)]) → Sh M d p → Sh M (.cel a) (.dict [(.str x, p)])
inductive Shs (M : Mem) : List D → List PyData → Prop
  | nil : Shs M [] []
  | cons {d : D} {p : PyData} {ds : List D} {ps : List PyData} : Sh M d p → Shs M ds ps → Shs M (d :: ds) (p :: ps)
end
/-- the dicts stay -/
def GrowD (M M' : Mem) : Prop := ∀ a kvs, M a = some (.dct kvs) → M' a = some (.dct kvs)
mutual
theorem Sh.mono {M M' : Mem} (g : GrowD M M') : ∀ {d : D} {p : PyData}, Sh M d p → Sh M' d p
  | _, _, .non => .non
  | _, _, .bl b => .bl b
  | _, _, .int i => .int i
  | _, _, .str s => .str s
  | _, _, .tup h => .tup (Shs.mono g h)
  | _, _, .lst h => .lst (Shs.mono g h)
  | _, _, .bare e => .bare (g _ _ e)
  | _, _, .one e h => .one (g _ _ e) (Sh.mono g h)
theorem Shs.mono {M M' : Mem} (g : GrowD M M') : ∀ {d : List D} {p : List PyData}, Shs M d p → Shs M' d p
  | _, _, .nil => .nil
  | _, _, .cons h t => .cons (Sh.mono g h) (Shs.mono g t)
end
section
variable {K : KZ} {Fr H0 H : Hp} {M : Mem}
mutual
theorem Sh.ok (w : Wd K Fr H0 M H) : ∀ {d : D} {p : PyData} {v : V}, Sh M d p → Dat K H0 v d → RP.DR K H v p
  | _, _, _, .non, r => by cases r; exact .non
  | _, _, _, .bl _, r => by cases r; exact .bl _
  | _, _, _, .int _, r => by cases r; exact .int _
  | _, _, _, .str _, r => by cases r; exact .str _
  | _, _, _, .tup h, r => by cases r with | tup hs hd => exact .tup (same_t w.ex hs) (Shs.ok w h hd)
  | _, _, _, .lst h, r => by cases r with | lst hs hd => exact .lst (.of (w.ex _ _ hs)) (Shs.ok w h hd)
  | _, _, _, .bare e, r => by
    cases r
    obtain ⟨_, o, ho, hc⟩ := w.mem _ _ e
    cases hc with
    | dct r => cases r; exact .bare (.inl ho)
  | _, _, _, .one e h, r => by
    cases r
    obtain ⟨_, o, ho, hc⟩ := w.mem _ _ e
    cases hc with
    | dct r =>
      cases r with
      | @cons q _ _ _ hq rr =>
        cases rr
        obtain ⟨κ, v⟩ := q
        obtain ⟨ek, rv⟩ := hq
        have ek : κ = _ := ek
        subst ek
        exact .one (.inl ho) (Sh.ok w h rv)
theorem Shs.ok (w : Wd K Fr H0 M H) : ∀ {d : List D} {p : List PyData} {v : List V}, Shs M d p → Dats K H0 v d → RP.DRs K H v p
  | _, _, _, .nil, r => by cases r; exact .nil
  | _, _, _, .cons h t, r => by cases r with | cons r1 r2 => exact .cons (Sh.ok w h r1) (Shs.ok w t r2)
end
def rdReprS : FD := fun ds M k => ∃ d p, ds = [d] ∧ Sh M d p ∧ p.showable = true ∧ p.shown.length ≤ sizeLine ∧ p.depth ≤ 64 ∧ k (.str p.shown) M
theorem calld_reprS : CallD K (RP.rRepr K) rdReprS := fun Fr H0 M H vs ds k Q w r h c => by
  obtain ⟨d, p, rfl, sh, h1, h2, h3, q⟩ := h
  obtain ⟨v, rfl, rv⟩ := dats1 r
  exact ⟨v, p, rfl, sh.ok w rv, h1, h2, h3, c _ H0 H _ M (Same.refl _) w (.str _) q⟩
end
theorem de_reprS {X : CxZ} {k : Nat} {e : PySem.Expr} {we : WE} {p pos : Pos} (hr : DG.RoomG k X.X.A) (hm : X.mg "repr" = none) (he : DE X e we) (hs : starEach [e] X.env = (false, eval e X.env) :: starEach [] X.env := by rfl) (hg : Gl X "repr" := by rfl)
    (hpl : (backTo pos (starEach [] X.env)).any (·.1) = false := by rfl) : DE X (.Call (.Name "repr" p) [e] [] pos) (wCall rdReprS (wCons we wNil)) :=
  de_callB (RP.call_repr hr) calld_reprS hm boot_repr (da_cons he da_nil hs) hg (by decide) (by decide) hs hpl
/-! ### things: how great they are -/
mutual
/-- a: weight; b: depth; c: width; whole numbers below N -/
inductive Tg (N : Nat) (M : Mem) : Nat → Nat → Nat → D → Prop
  | non {a b c : Nat} : Tg N M a b c .non
  | bl {a b c : Nat} (x : Bool) : Tg N M a b c (.bl x)
  | int {a b c : Nat} {i : Int} : i.natAbs < N → 41 ≤ a → Tg N M a b c (.int i)
  | str {a b c : Nat} {s : Str} : plain s = true → s.length ≤ a → Tg N M a b c (.str s)
  | tup {a b c : Nat} {ds : List D} : Tgs N M a b c ds → ds.length ≤ c → Tg N M a (b + 1) c (.tup ds)
  | lst {a b c : Nat} {ds : List D} : Tgs N M a b c ds → Tg N M a (b + 1) c (.lst ds)
  | bare {a b c : Nat} {x : Addr} : M x = some (.dct []) → Tg N M a (b + 1) c (.cel x)
  | one {a a0 b c : Nat} {x : Addr} {k : Str} {d : D} : M x = some (.dct [(.inr k, d)]) → plain k = true → Tg N M a0 b c d → k.length + a0 + 2 ≤ a → Tg N M a (b + 1) c (.cel x)
inductive Tgs (N : Nat) (M : Mem) : Nat → Nat → Nat → List D → Prop
  | nil {a b c : Nat} : Tgs N M a b c []
  | cons {a a1 a2 b c : Nat} {d : D} {ds : List D} : Tg N M a1 b c d → Tgs N M a2 b c ds → a1 + 1 + a2 ≤ a → Tgs N M a b c (d :: ds)
end
section
variable {N N' : Nat} {M M' : Mem}
mutual
theorem Tg.up (hN : N ≤ N') (g : GrowD M M') : ∀ {a a' b b' c c' : Nat} {d : D}, Tg N M a b c d → a ≤ a' → b ≤ b' → c ≤ c' → Tg N' M' a' b' c' d
  | _, _, _, _, _, _, _, .non, _, _, _ => .non
  | _, _, _, _, _, _, _, .bl x, _, _, _ => .bl x
  | _, _, _, _, _, _, _, .int h h2, ha, _, _ => .int (Nat.lt_of_lt_of_le h hN) (by omega)
  | _, _, _, _, _, _, _, .str h h2, ha, _, _ => .str h (by omega)
  | _, _, _, 0, _, _, _, .tup h h2, ha, hb, hc => absurd hb (by omega)
  | _, _, _, b' + 1, _, _, _, .tup h h2, ha, hb, hc => .tup (Tgs.up hN g h ha (by omega) hc) (by omega)
  | _, _, _, 0, _, _, _, .lst h, ha, hb, hc => absurd hb (by omega)
  | _, _, _, b' + 1, _, _, _, .lst h, ha, hb, hc => .lst (Tgs.up hN g h ha (by omega) hc)
  | _, _, _, 0, _, _, _, .bare h, ha, hb, hc => absurd hb (by omega)
  | _, _, _, b' + 1, _, _, _, .bare h, ha, hb, hc => .bare (g _ _ h)
  | _, _, _, 0, _, _, _, .one h _ _ _, ha, hb, hc => absurd hb (by omega)
  | _, _, _, b' + 1, _, _, _, .one h h1 h2 h3, ha, hb, hc => .one (g _ _ h) h1 (Tg.up hN g h2 (Nat.le_refl _) (by omega) hc) (by omega)
theorem Tgs.up (hN : N ≤ N') (g : GrowD M M') : ∀ {a a' b b' c c' : Nat} {d : List D}, Tgs N M a b c d → a ≤ a' → b ≤ b' → c ≤ c' → Tgs N' M' a' b' c' d
  | _, _, _, _, _, _, _, .nil, _, _, _ => .nil
  | _, _, _, _, _, _, _, .cons h t h2, ha, hb, hc => .cons (Tg.up hN g h (Nat.le_refl _) hb hc) (Tgs.up hN g t (Nat.le_refl _) hb hc) (by omega)
end
theorem growD_refl : GrowD M M := fun _ _ e => e
theorem GrowD.trans {M2 : Mem} (a : GrowD M M') (b : GrowD M' M2) : GrowD M M2 := fun x k e => b x k (a x k e)
theorem Tg.le {a a' b b' c c' : Nat} {d : D} (h : Tg N M a b c d) (ha : a ≤ a') (hb : b ≤ b') (hc : c ≤ c') : Tg N M a' b' c' d := h.up (Nat.le_refl _) growD_refl ha hb hc
theorem Tgs.le {a a' b b' c c' : Nat} {d : List D} (h : Tgs N M a b c d) (ha : a ≤ a') (hb : b ≤ b') (hc : c ≤ c') : Tgs N M a' b' c' d := h.up (Nat.le_refl _) growD_refl ha hb hc
theorem Tgs.app {b c : Nat} : ∀ {a1 a2 : Nat} {ds es : List D}, Tgs N M a1 b c ds → Tgs N M a2 b c es → Tgs N M (a1 + a2) b c (ds ++ es)
  | _, _, _, _, .nil, s => s.le (by omega) (Nat.le_refl _) (Nat.le_refl _)
  | _, _, _, _, .cons h t e, s => .cons h (Tgs.app t s) (by omega)
theorem Tgs.take {b c : Nat} : ∀ {a : Nat} {ds : List D} (n : Nat), Tgs N M a b c ds → Tgs N M a b c (ds.take n)
  | _, _, 0, _ => by rw [List.take_zero]; exact .nil
  | _, _, n + 1, .nil => by rw [List.take_nil]; exact .nil
  | _, _, n + 1, .cons h t e => by rw [List.take_succ_cons]; exact .cons h (Tgs.take n t) e
theorem Tgs.drop {b c : Nat} : ∀ {a : Nat} {ds : List D} (n : Nat), Tgs N M a b c ds → Tgs N M a b c (ds.drop n)
  | _, _, 0, h => h
  | _, _, n + 1, .nil => by rw [List.drop_nil]; exact .nil
  | _, _, n + 1, .cons h t e => by rw [List.drop_succ_cons]; exact (Tgs.drop n t).le (by omega) (Nat.le_refl _) (Nat.le_refl _)
theorem Tgs.at {b c : Nat} : ∀ {a : Nat} {ds : List D} {d : D}, Tgs N M a b c ds → d ∈ ds → Tg N M a b c d
  | _, _, d, .cons h t e, m => by
    rcases List.mem_cons.mp m with rfl | m
    · exact h.le (by omega) (Nat.le_refl _) (Nat.le_refl _)
    · exact (Tgs.at t m).le (by omega) (Nat.le_refl _) (Nat.le_refl _)
theorem Tgs.cut {a b c : Nat} {ds : List D} (h : Tgs N M a b c ds) (lo hi : Option Int) : Tgs N M a b c (cutD ds lo hi) := by
  unfold cutD
  exact (h.drop _).take _
theorem Tg.one1 {a b c : Nat} {d : D} (h : Tg N M a b c d) : Tgs N M (a + 1) b c [d] := .cons h (.nil (a := 0)) (by omega)
theorem Tgs.rev {b c : Nat} : ∀ {a : Nat} {ds : List D}, Tgs N M a b c ds → Tgs N M a b c ds.reverse
  | _, _, .nil => .nil
  | _, _, .cons h t e => by
    rw [List.reverse_cons]
    exact (Tgs.app (Tgs.rev t) h.one1).le (by omega) (Nat.le_refl _) (Nat.le_refl _)
theorem Tgs.all {b c n : Nat} : ∀ {ds : List D}, (∀ d ∈ ds, Tg N M n b c d) → Tgs N M (ds.length * (n + 1)) b c ds
  | [], _ => .nil
  | d :: ds, h => .cons (h d List.mem_cons_self) (Tgs.all fun x hx => h x (List.mem_cons_of_mem _ hx)) (by rw [List.length_cons, Nat.succ_mul]; omega)
mutual
theorem Tg.sh (hN : N ≤ 10 ^ 12) : ∀ {a b c : Nat} {d : D}, Tg N M a b c d → ∃ p, Sh M d p ∧ p.showable = true ∧ p.leavesShort 13 = true ∧ p.weight ≤ a ∧ p.depth ≤ b
  | _, _, _, _, .non => ⟨_, .non, by simp [PyData.showable], by simp [PyData.leavesShort], by simp [PyData.weight], by simp [PyData.depth]⟩
  | _, _, _, _, .bl x => ⟨_, .bl x, by simp [PyData.showable], by simp [PyData.leavesShort], by simp [PyData.weight], by simp [PyData.depth]⟩
  | _, _, _, _, .int (i := i) h h2 => by
    have h := Nat.lt_of_lt_of_le h hN
    have lg := log_small h
    refine ⟨_, .int i, by unfold PyData.showable; exact decide_eq_true (by omega), by unfold PyData.leavesShort; exact decide_eq_true (PyData.shown_int_le h), ?_, by simp [PyData.depth]⟩
    unfold PyData.weight
    split <;> omega
  | _, _, _, _, .str (s := s) h h2 => by
    unfold plain at h
    refine ⟨_, .str s, by simp [PyData.showable], ?_, by unfold PyData.weight; exact h2, by simp [PyData.depth]⟩
    unfold PyData.leavesShort
    rw [List.all_eq_true] at h ⊢
    exact fun x hx => decide_eq_true (by have := of_decide_eq_true (h x hx); omega)
  | _, _, _, _, .tup h _ => by
    obtain ⟨ps, e, q1, q2, q3, q4⟩ := Tgs.sh hN h
    exact ⟨_, .tup e, by unfold PyData.showable; exact q1, by unfold PyData.leavesShort; exact q2, by unfold PyData.weight; exact q3, by unfold PyData.depth; omega⟩
  | _, _, _, _, .lst h => by
    obtain ⟨ps, e, q1, q2, q3, q4⟩ := Tgs.sh hN h
    exact ⟨_, .lst e, by unfold PyData.showable; exact q1, by unfold PyData.leavesShort; exact q2, by unfold PyData.weight; exact q3, by unfold PyData.depth; omega⟩
  | _, _, _, _, .bare e => ⟨_, .bare e, by simp [PyData.showable, PyData.showableKv], by simp [PyData.leavesShort, PyData.leavesShortKv], by simp [PyData.weight, PyData.weightKv], by simp [PyData.depth, PyData.depthKv]⟩
  | _, _, _, _, .one e h1 h2 h3 => by
    obtain ⟨p, s, q1, q2, q3, q4⟩ := Tg.sh hN h2
    unfold plain at h1
    refine ⟨_, .one e s, by simp [PyData.showable, PyData.showableKv, q1], ?_, ?_, ?_⟩
    · simp only [PyData.leavesShort, PyData.leavesShortKv, q2, Bool.and_true]
      rw [List.all_eq_true] at h1 ⊢
      exact fun x hx => decide_eq_true (by have := of_decide_eq_true (h1 x hx); omega)
    · simp only [PyData.weight, PyData.weightKv]
      have : ∀ s : Str, s.cps.size = s.length := fun _ => rfl
      rw [this]; omega
    · simp only [PyData.depth, PyData.depthKv]; omega
theorem Tgs.sh (hN : N ≤ 10 ^ 12) : ∀ {a b c : Nat} {d : List D}, Tgs N M a b c d → ∃ p, Shs M d p ∧ PyData.showableAll p = true ∧ PyData.leavesShortAll 13 p = true ∧ PyData.weightAll p ≤ a ∧ PyData.depthAll p ≤ b
  | _, _, _, _, .nil => ⟨[], .nil, by simp [PyData.showableAll], by simp [PyData.leavesShortAll], by simp [PyData.weightAll], by simp [PyData.depthAll]⟩
  | _, _, _, _, .cons h t e => by
    obtain ⟨p, s, q1, q2, q3, q4⟩ := Tg.sh hN h
    obtain ⟨ps, s', r1, r2, r3, r4⟩ := Tgs.sh hN t
    refine ⟨p :: ps, .cons s s', by simp [PyData.showableAll, q1, r1], by simp [PyData.leavesShortAll, q2, r2], ?_, ?_⟩
    · simp only [PyData.weightAll]; omega
    · simp only [PyData.depthAll]; omega
end
/-- what such a thing is shown as, wherever it is asked -/
theorem Tg.shown (hN : N ≤ 10 ^ 12) {a b c : Nat} {d : D} (h : Tg N M a b c d) (ha : a ≤ 1000000) (hb : b ≤ 64) : ∃ s : Str, ∀ (M' : Mem) (k : KD), GrowD M M' → k (.str s) M' → rdReprS [d] M' k := by
  obtain ⟨p, s, q1, q2, q3, q4⟩ := h.sh hN
  exact ⟨p.shown, fun M' k g hk => ⟨d, p, rfl, s.mono g, q1, PyData.shown_fits (by decide) (by decide) q2 (by omega), by omega, hk⟩⟩
end
end DL

set_option autoImplicit false
set_option maxRecDepth 100000
set_option maxHeartbeats 4000000
/-! a number or a text held against a list, a tuple, a dict; a tuple of one against (None,) -/
namespace EQ
open PySem PySem.Spec PyProof.Rows L2
section
variable {A : Around} {s : Shared} {l : Addr} {o : Obj} {es : Array DictEntry} {n : Nat}
end
section
variable {X : Cx} {pins : List (Addr × Obj)} {σ : List (Option V)} {H : Hp} {s : Shared}
end
end EQ
namespace DL
open PySem PySem.Spec PyProof.Rows L2
section
variable {K : KZ} {X : CxZ}
end
end DL

set_option autoImplicit false
set_option maxRecDepth 100000
/-! the minus of a number or a truth -/
namespace DL
open PySem PySem.Spec PyProof.Rows L2
section
variable {X : CxZ}
end
end DL

set_option autoImplicit false
set_option maxRecDepth 100000
set_option maxHeartbeats 4000000
/-! a tuple times a whole number, 0 and 1 among them -/
namespace RPT
open PySem PySem.Spec PyProof.Rows L2
section
variable (l : Addr) (items : Array Value) (n : Nat) (dd : Option Addr) (sl : Array (Option Value)) (u : Tok)
open PySem.AutoSeq1 (wpAny_loadPart')
end
variable {X : Cx}
end RPT
namespace DL
open PySem L2
section
variable {X : CxZ} {K : KZ} {a b : Expr}
end
end DL

set_option autoImplicit false
set_option maxRecDepth 100000
/-! s.strip(signs) -/
namespace DL
open PySem L2
section
variable {X : CxZ} {o e : Expr} {wo we : WE} {apos pos : Pos}
def rdStrip (x y : D) (M : Mem) (k : KD) : Prop := ∃ a b, x = .str a ∧ y = .str b ∧ a.length ≤ sizeLine ∧ k (.str (Txt.stripChars a b)) M
def wStrip (wo we : WE) : WE := fun Γ M k => wo Γ M fun x M1 => (∃ a, x = .str a) ∧ we Γ M1 fun y M2 => rdStrip x y M2 k
theorem de_strip (ho : DE X o wo) (he : DE X e we) (hs : starEach [e] X.env = [(false, eval e X.env)] := by rfl) (hb : attributeBase o "strip" X.env (eval o X.env) = eval o X.env := by rfl)
    (hl : (apos.endLine == pos.line) = true := by rfl) : DE X (.Call (.Attribute o "strip" apos) [e] [] pos) (wStrip wo we) :=
  de_of (pe_m1 PySem.F.slot_str_strip PySem.F.type_str_strip mt_stripChars ho.run he.run hs hb hl) fun σ H Q Γ Fr H0 M k h1 h2 h3 h4 => ⟨Γ, Fr, H0, M, _, h1, h2, h3, fun u H1 H' d M' e1 w1 r1 q1 => by
    obtain ⟨⟨a0, rfl⟩, q1⟩ := q1
    cases r1
    refine ⟨⟨_, rfl⟩, Γ, Fr, H1, M', _, h1.mono e1, w1, q1, fun v H2 H'' d2 M2 e2 w2 r2 q2 => ?_⟩
    obtain ⟨a, b, ea, rfl, hz, q⟩ := q2
    cases ea
    cases r2
    exact ⟨_, _, rfl, rfl, hz, h4 _ H2 _ _ _ (e1.trans e2) w2 (.str _) q⟩⟩
end
end DL

set_option autoImplicit false
set_option maxRecDepth 100000
/-! d.get(k) -/
namespace DL
open PySem L2
section
variable {X : CxZ}
def rdGet1 : D → D → Mem → KD → Prop := fun x y M k => match x, y with
  | .cel a, .str s => (match M a with | some (.dct kvs) => k ((lookD kvs (.inr s)).getD .non) M | _ => False)
  | _, _ => False
def wGet1 (wa wb : WE) : WE := fun Γ M k => wa Γ M fun x M1 => isDct M1 x ∧ wb Γ M1 fun y M2 => rdGet1 x y M2 k
theorem de_get1 {o : Expr} {apos cpos : Pos} {e : Expr} {wo we : WE} (hu : X.A.units + 1 < cLine) (ho : DE X o wo) (he : DE X e we) (m : M1 X o "get" apos e cpos := by exact ⟨rfl, rfl, rfl, rfl⟩) : DE X (.Call (.Attribute o "get" apos) [e] [] cpos) (wGet1 wo we) :=
  de_of (pe_dget1 hu ho.run he.run m) fun σ H Q Γ Fr H0 M k h1 h2 h3 h4 => by
    refine ⟨Γ, Fr, H0, M, _, h1, h2, h3, fun v H1 Ha d Ma e1 w1 r1 q1 => ?_⟩
    obtain ⟨q0, q1⟩ := q1
    cases d with
    | cel a =>
      cases r1
      obtain ⟨kvs, qa⟩ := q0
      obtain ⟨_, o', ho', hc'⟩ := w1.mem a _ qa
      cases hc' with
      | dct rd =>
        refine ⟨a, rfl, .inl ⟨_, .inl ho'⟩, ?_⟩
        refine ⟨Γ, Fr, H1, Ma, _, h1.mono e1, w1, q1, fun u H2 Hb d' Mb e2 w2 r2 q2 => ?_⟩
        cases d' with
        | str s =>
          have q3 : match Mb a with | some (.dct kvs) => k ((lookD kvs (.inr s)).getD .non) Mb | _ => False := q2
          split at q3
          · rename_i kvs2 qb
            obtain ⟨_, o2, ho2, hc2⟩ := w2.mem _ _ qb
            cases hc2 with
            | dct rd2 =>
              cases r2
              obtain ⟨i1, i2⟩ := look_ok (κ := .inr s) rd2
              cases ql : lookD kvs2 (.inr s) with
              | some dd =>
                obtain ⟨v2, j1, j2⟩ := i1 dd ql
                rw [ql] at q3
                exact ⟨some v2, .inl ⟨_, .inr s, .inl ho2, rfl, j1.symm⟩, h4 v2 H2 Hb dd Mb (e1.trans e2) w2 j2 q3⟩
              | none =>
                have j := i2 ql
                rw [ql] at q3
                exact ⟨none, .inl ⟨_, .inr s, .inl ho2, rfl, j.symm⟩, h4 .non H2 Hb .non Mb (e1.trans e2) w2 .non q3⟩
          · exact q3.elim
        | _ => exact q2.elim
    | _ => exact q0.elim
end
end DL

set_option autoImplicit false
set_option maxRecDepth 100000
set_option maxHeartbeats 4000000
/-! exceptions made as values -/
namespace DX
open PySem PySem.Spec PyProof.Rows PySem.Calls L2 DL
section
variable {X : Cx} {e : PySem.Expr} {t : L2.St → Hp → XK → Prop}
end
section
variable {X : CxZ} {e : PySem.Expr} {we : WE} {x f : Str} {p pos : Pos}
/-- what is asked of such a class, looked up -/
def exN (K : PySem.W.Frag) (C : Addr) : Bool := PySem.W.excIn K C clsTail "ValueError.__new__" && [PySem.W.keepIn K (.ref C), decide (PySem.W.typeIn K (.ref C) = some (.type "type")),
  decide (PySem.W.findIn K (.ref C) "__getattribute__" = some (some (.builtin "BaseException.__getattribute__"))), decide (PySem.W.findIn K (.ref C) "__getattr__" = some none), decide (PySem.W.subIn K (.ref C) (.type "BaseException") = some true), PySem.W.hasDictIn K C,
  decide (PySem.W.findIn K (.ref C) "__class__" = some (some (.builtin "object.__class__"))), decide (PySem.W.specialIn K (.builtin "object.__class__") "__get__" = some (some (.builtin "getset_descriptor.__get__"))),
  decide (PySem.W.takesIn K (.builtin "object.__class__") = some true), decide (PySem.W.mroIn K C (.type "object") = some true)].all id
theorem exN_all {K : PySem.W.Frag} {C : Addr} (h : exN K C = true) : PySem.W.excIn K C clsTail "ValueError.__new__" = true ∧ (PySem.W.keepIn K (.ref C) = true ∧ PySem.W.typeIn K (.ref C) = some (.type "type")) ∧ ExcC K C := by
  unfold exN at h
  obtain ⟨q, h⟩ := Bool.and_eq_true_iff.mp h
  simp only [List.all_cons, List.all_nil, Bool.and_eq_true, decide_eq_true_eq, id, and_true] at h
  obtain ⟨h1, h2, h3, h4, h5, h6, h7, h8, h9, h10⟩ := h
  exact ⟨q, ⟨h1, h2⟩, h3, h4, h5, h6, h7, h8, h9, h10⟩
/-- an own exception class without __init__ -/
structure NDef (K : PySem.W.Frag) (mg : Str → Option Value) (x : Str) where
  C : Addr
  at_ : mg x = some (.ref C)
  q : exN K C = true
theorem NDef.ie {K : PySem.W.Frag} {mg : Str → Option Value} {x : Str} (D : NDef K mg x) : ExcC K D.C := (exN_all D.q).2.2
end
end DX

set_option autoImplicit false
set_option maxRecDepth 100000
set_option maxHeartbeats 4000000
/-! tuples known to be plain: what dict tells of them -/
namespace FT
open PySem PySem.Spec PyProof.Rows L2
section
variable {X : Cx}
/-- tuple(list): a plain one -/
theorem call_tupleF : CallR X (.type "tuple") (fun xs H Q => ∃ p ys, xs = [.ref p] ∧ SqL X.K H p ys ∧ ∀ (o : Obj) (l : Addr), o.dict = none → H l = none → Q (.ref l) (upd H l (.frz o (.tup ys)))) := by
  intro pins s σ H xs us Q I r h
  obtain ⟨p, ys, rfl, hq, q⟩ := h
  obtain ⟨u, rfl, rx⟩ := vals1 r
  cases rx
  obtain ⟨its, r', pl, hz⟩ := I.list hq
  have hlen := r'.length
  refine call_tuple_list pl.isList (fun h' kp => ?_) (by simp only [List.size_toArray] <;> omega)
  have I1 : Inv X pins σ H { s with heap := h' } := I.kept (t' := s.toks) kp
  have I2 : Inv X pins σ (upd H h'.objs.size (.frz { cls := .type "tuple", data := .seq its.toArray } (.tup ys))) { s with heap := h'.push { cls := .type "tuple", data := .seq its.toArray } } :=
    I1.laid (t' := s.toks) (fun b o e => Heap.get?_push_of_some _ e) (Nat.le_refl _) (show ObjOk X.prog X.w _ _ _ (.frz _ (.tup ys)) from ⟨Heap.get?_push_size _ rfl, hz, its, r', IsTup.new _ _⟩)
  exact ⟨.ref h'.objs.size, _, I2, rfl, q _ _ rfl (I1.hok.fresh (Nat.le_refl _))⟩
/-- dict(t), t a plain tuple of pairs -/
theorem call_dictT (hcalm : X.calm = true) : CallR X (.type "dict") (fun xs H Q => ∃ (a : Addr) (o : Obj) (ps : List Addr) (kvs : List (Key × V)), xs = [.ref a] ∧ H a = some (.frz o (.tup (ps.map V.ref))) ∧ o.dict = none ∧ Paired (fun p kv => SqT X.K H p [kV kv.1, kv.2]) ps kvs ∧
    ∀ p, H p = none → Q (.ref p) (upd H p (.dK (mergeK [] kvs)))) := by
  intro pins s σ H xs us Q I r q
  obtain ⟨a, o, ps, kvs, ex, hq, hd, hp, q⟩ := q
  subst ex
  obtain ⟨u, eu, rx⟩ := vals1 r
  subst eu
  cases rx
  obtain ⟨ho, hz, its, rv, it⟩ := (show ObjOk X.prog X.w H s.heap a (.frz o (.tup (ps.map V.ref))) from I.hok a _ hq)
  have ei := refs_at rv
  subst ei
  rw [List.length_map] at hz
  obtain ⟨prs, rel, hl, hpr⟩ := pairs_of I hp
  obtain ⟨U, hU⟩ := Classical.axiomOfChoice (r := fun (j : Nat) (u : Value) => ∀ q, prs[j]? = some q → ∃ b : Addr, ps[j]? = some b ∧ IsTup s.heap b #[u, q.2] ∧ keyIs q.1 u = true) fun j => by
    cases e : prs[j]? with
    | none => exact ⟨.none, fun q z => by cases z⟩
    | some q0 =>
      obtain ⟨b, u, e1, e2, e3⟩ := hpr j q0 e
      exact ⟨u, fun q z => by cases z; exact ⟨b, e1, e2, e3⟩⟩
  obtain ⟨o', ho', hc, n, hdat⟩ := it
  have eo : o' = o := by rw [ho] at ho'; exact (Option.some.inj ho').symm
  subst eo
  let vs : List (Value × Value) := (List.range prs.length).map fun j => (U j, ((prs[j]?).map (·.2)).getD .none)
  have vl : vs.length = ps.length := by simp [vs, hl]
  have vat : ∀ j k v, vs[j]? = some (k, v) → ∃ q, prs[j]? = some q ∧ k = U j ∧ v = q.2 := fun j k v e => by
    have hj : j < prs.length := by
      have := (List.getElem?_eq_some_iff.mp e).1
      omega
    rw [List.getElem?_map, List.getElem?_range hj] at e
    cases e
    refine ⟨prs[j], List.getElem?_eq_getElem hj, rfl, ?_⟩
    rw [List.getElem?_eq_getElem hj]; rfl
  refine PySem.call_dict_pairs (knd := mixKind X.prog X.w) (kvs := prs) (PairArg.tuple a (ps.map Value.ref).toArray (fun j => (ps[j]?).getD 0) vs) (I.ok.hd hcalm) ⟨⟨o', n, ho, hc, hd, hdat⟩, by simp [vl], fun j k v e => ?_⟩ ⟨by rw [hl, vl], fun j k v e => ?_⟩ (by rw [vl]; exact hz) fun h' tk hd' k => ?_
  · obtain ⟨q0, e1, rfl, rfl⟩ := vat j k v e
    obtain ⟨b, e2, e3, e4⟩ := hU j q0 e1
    exact ⟨by simp [e2], .inl (by show s.heap.IsTuple ((ps[j]?).getD 0) _; rw [e2]; exact e3)⟩
  · obtain ⟨q0, e1, rfl, rfl⟩ := vat j k v e
    obtain ⟨b, e2, e3, e4⟩ := hU j q0 e1
    exact ⟨q0.1, e1, e4⟩
  · have hm : (s.heap.objs.size == sysModules) = false := beq_eq_false_iff_ne.mpr (Nat.ne_of_gt I.big)
    have hlen : (mergeK [] kvs).length ≤ sizeLine := by
      refine Nat.le_trans (length_mergeK kvs []) ?_
      rw [List.length_nil, Nat.zero_add, rel.length, hl]
      exact hz
    exact ⟨.ref s.heap.objs.size, upd H s.heap.objs.size (.dK (mergeK [] kvs)), I.laid (t' := tk) (fun b o e => k b o (fun z => nomatch z) e) (Nat.le_refl _) (show ObjOk X.prog X.w _ _ _ (.dK (mergeK [] kvs)) from ⟨hlen, hm, merged [] prs, KV.merge rel .nil, hd'⟩), rfl, q _ (I.hok.fresh (Nat.le_refl _))⟩
end
end FT
namespace DL
open PySem PySem.Spec PyProof.Rows L2
mutual
/-- d may be read as e: tuples known to be plain as tuples -/
inductive Thaw : D → D → Prop
  | refl (d : D) : Thaw d d
  | ftp {ds es : List D} : Thaws ds es → Thaw (.ftp ds) (.tup es)
  | tup {ds es : List D} : Thaws ds es → Thaw (.tup ds) (.tup es)
  | lst {ds es : List D} : Thaws ds es → Thaw (.lst ds) (.lst es)
inductive Thaws : List D → List D → Prop
  | nil : Thaws [] []
  | cons {d e : D} {ds es : List D} : Thaw d e → Thaws ds es → Thaws (d :: ds) (e :: es)
end
section
variable {K : KZ} {H : Hp}
mutual
theorem Thaw.ok : ∀ {d e : D} {v : V}, Thaw d e → Dat K H v d → Dat K H v e
  | _, _, _, .refl _, r => r
  | _, _, _, .ftp h, r => by cases r with | ftp h1 _ hd => exact .tup (.inl (.inr ⟨_, h1⟩)) (Thaws.ok h hd)
  | _, _, _, .tup h, r => by cases r with | tup h1 hd => exact .tup h1 (Thaws.ok h hd)
  | _, _, _, .lst h, r => by cases r with | lst h1 hd => exact .lst h1 (Thaws.ok h hd)
theorem Thaws.ok : ∀ {ds es : List D} {vs : List V}, Thaws ds es → Dats K H vs ds → Dats K H vs es
  | _, _, _, .nil, r => by cases r; exact .nil
  | _, _, _, .cons h t, r => by cases r with | cons r1 r2 => exact .cons (Thaw.ok h r1) (Thaws.ok t r2)
end
theorem Thaws.refl : ∀ ds : List D, Thaws ds ds
  | [] => .nil
  | d :: ds => .cons (.refl d) (Thaws.refl ds)
theorem Thaw.top (ds : List D) : Thaw (.ftp ds) (.tup ds) := .ftp (Thaws.refl ds)
theorem Thaws.map {α : Type} {f g : α → D} : ∀ {l : List α}, (∀ x ∈ l, Thaw (f x) (g x)) → Thaws (l.map f) (l.map g)
  | [], _ => .nil
  | x :: l, h => .cons (h x List.mem_cons_self) (Thaws.map fun y hy => h y (List.mem_cons_of_mem _ hy))
end
section
variable {X : CxZ} {e : Expr} {we : WE} {p pos : Pos}
def wThaw (we : WE) : WE := fun Γ M k => we Γ M fun d M1 => ∃ e, Thaw d e ∧ k e M1
theorem de_thaw (he : DE X e we) : DE X e (wThaw we) :=
  de_of he.run fun σ H Q Γ Fr H0 M k h1 h2 h3 h4 => ⟨Γ, Fr, H0, M, _, h1, h2, h3, fun v H1 H' d M' e1 w1 r1 q1 => by
    obtain ⟨e, t, q⟩ := q1
    exact h4 v H1 H' e M' e1 w1 (t.ok r1) q⟩
/-- tuple(list), a plain one -/
def rdTupF : FD := fun ds M k => match ds with
  | [x] => (match asR M x with | some xs => k (.ftp xs) M | none => False)
  | _ => False
theorem calld_tupF {K : KZ} : CallD K (fun xs H Q => ∃ p ys, xs = [.ref p] ∧ SqL K H p ys ∧ ∀ (o : Obj) (l : Addr), o.dict = none → H l = none → Q (.ref l) (upd H l (.frz o (.tup ys)))) rdTupF := fun Fr H0 M H vs ds k Q w r h c => by
  unfold rdTupF at h
  split at h
  · obtain ⟨v, rfl, rv⟩ := dats1 r
    split at h
    · rename_i xs e
      obtain ⟨a, ws, rfl, hs, hd⟩ := asR_ok w rv e
      exact ⟨a, ws, rfl, hs, fun o l ho hl => c _ _ _ _ M (same_new (w.fresh hl)) (w.new hl) (.ftp upd_same ho (hd.mono (same_new (w.fresh hl)))) h⟩
    · exact h.elim
  · exact h.elim
theorem de_tupleF (hm : X.mg "tuple" = none) (he : DE X e we) (hs : starEach [e] X.env = (false, eval e X.env) :: starEach [] X.env := by rfl) (hg : Gl X "tuple" := by rfl) (hpl : (backTo pos (starEach [] X.env)).any (·.1) = false := by rfl) :
    DE X (.Call (.Name "tuple" p) [e] [] pos) (wCall rdTupF (wCons we wNil)) :=
  de_callTy FT.call_tupleF calld_tupF hm PyProof.Rows.boot_tuple (da_cons he da_nil hs) hg (by decide) (by decide) hs hpl
/-- dict(t), t a plain tuple of pairs -/
def rdDictF : FD := fun ds M k => match ds with
  | [.ftp xs] => (match pairsD xs with | some l => ∀ p, M p = none → k (.cel p) (setM M p (.dct (mergeD [] l))) | none => False)
  | _ => False
theorem calld_dictF {K : KZ} : CallD K (fun xs H Q => ∃ (a : Addr) (o : Obj) (ps : List Addr) (kvs : List (Key × V)), xs = [.ref a] ∧ H a = some (.frz o (.tup (ps.map V.ref))) ∧ o.dict = none ∧ Paired (fun p kv => SqT K H p [kV kv.1, kv.2]) ps kvs ∧
    ∀ p, H p = none → Q (.ref p) (upd H p (.dK (mergeK [] kvs)))) rdDictF := fun Fr H0 M H vs ds k Q w r h c => by
  unfold rdDictF at h
  split at h
  · obtain ⟨v, rfl, rv⟩ := dats1 r
    split at h
    · rename_i l el
      cases rv with
      | ftp hs ho hd =>
        obtain ⟨ps, kvs, rfl, h1, h2⟩ := pairsD_ok hd el
        refine ⟨_, _, ps, kvs, rfl, w.ex _ _ hs, ho, paired_mono w.ex h1, fun p hp => ?_⟩
        exact c _ H0 _ _ _ (Same.refl _) (w.newM hp (.dct (paired_merge h2 .nil))) (.cel p) (h p (w.freshM hp))
    · exact h.elim
  · exact h.elim
theorem de_dictF (hc : X.calm = true) (hm : X.mg "dict" = none) (he : DE X e we) (hs : starEach [e] X.env = (false, eval e X.env) :: starEach [] X.env := by rfl) (hg : Gl X "dict" := by rfl) (hpl : (backTo pos (starEach [] X.env)).any (·.1) = false := by rfl) :
    DE X (.Call (.Name "dict" p) [e] [] pos) (wCall rdDictF (wCons we wNil)) :=
  de_callTy (FT.call_dictT hc) calld_dictF hm PyProof.Rows.boot_dict (da_cons he da_nil hs) hg (by decide) (by decide) hs hpl
end
/-! rules -/
theorem r_tupFL {ds : List D} {M : Mem} {k : KD} (hk : k (.ftp ds) M) : rdTupF [.lst ds] M k := hk
theorem r_tupFC {a : Addr} {ds : List D} {M : Mem} {k : KD} (e : M a = some (.lst ds)) (hk : k (.ftp ds) M) : rdTupF [.cel a] M k := by
  unfold rdTupF asR; simp only [e]; exact hk
end DL

set_option autoImplicit false
set_option maxRecDepth 100000
set_option maxHeartbeats 4000000
namespace K04
open PySem L2 DL
def topS (i : Nat) : Stmt := PySem.Challenge.pw_standviews_k15_what_is_a_right.main.body.getD i (.Pass ⟨0, 0, 0, 0⟩)
abbrev s_is_whole : Stmt := topS 3
abbrev N_is_whole : List Str := ["thing"]
abbrev p_is_whole : List Str := ["thing"]
theorem sc_is_whole : FnScope N_is_whole p_is_whole (defScope s_is_whole) := ⟨rfl, rfl, rfl, by decide +kernel, rfl, by decide +kernel, by decide +kernel⟩
abbrev s_is_number : Stmt := topS 4
abbrev N_is_number : List Str := ["thing"]
abbrev p_is_number : List Str := ["thing"]
theorem sc_is_number : FnScope N_is_number p_is_number (defScope s_is_number) := ⟨rfl, rfl, rfl, by decide +kernel, rfl, by decide +kernel, by decide +kernel⟩
abbrev s_is_name : Stmt := topS 5
abbrev N_is_name : List Str := ["thing", "letter"]
abbrev p_is_name : List Str := ["thing"]
theorem sc_is_name : FnScope N_is_name p_is_name (defScope s_is_name) := ⟨rfl, rfl, rfl, by decide +kernel, rfl, by decide +kernel, by decide +kernel⟩
abbrev s_fits : Stmt := topS 7
abbrev N_fits : List Str := ["kind", "worth"]
abbrev p_fits : List Str := ["kind", "worth"]
theorem sc_fits : FnScope N_fits p_fits (defScope s_fits) := ⟨rfl, rfl, rfl, by decide +kernel, rfl, by decide +kernel, by decide +kernel⟩
abbrev s_place_of : Stmt := topS 8
abbrev N_place_of : List Str := ["named", "name", "place", "other", "_"]
abbrev p_place_of : List Str := ["named", "name"]
theorem sc_place_of : FnScope N_place_of p_place_of (defScope s_place_of) := ⟨rfl, rfl, rfl, by decide +kernel, rfl, by decide +kernel, by decide +kernel⟩
abbrev s_places_of : Stmt := topS 9
abbrev N_places_of : List Str := ["named", "names", "name"]
abbrev p_places_of : List Str := ["named", "names"]
theorem sc_places_of : FnScope N_places_of p_places_of (defScope s_places_of) := ⟨rfl, rfl, rfl, by decide +kernel, rfl, by decide +kernel, by decide +kernel⟩
abbrev s_kind_of : Stmt := topS 10
abbrev N_kind_of : List Str := ["columns", "name", "place"]
abbrev p_kind_of : List Str := ["columns", "name"]
theorem sc_kind_of : FnScope N_kind_of p_kind_of (defScope s_kind_of) := ⟨rfl, rfl, rfl, by decide +kernel, rfl, by decide +kernel, by decide +kernel⟩
abbrev s_has_word : Stmt := topS 13
abbrev N_has_word : List Str := ["thing"]
abbrev p_has_word : List Str := ["thing"]
theorem sc_has_word : FnScope N_has_word p_has_word (defScope s_has_word) := ⟨rfl, rfl, rfl, by decide +kernel, rfl, by decide +kernel, by decide +kernel⟩
abbrev s_has_form : Stmt := topS 14
abbrev N_has_form : List Str := ["thing"]
abbrev p_has_form : List Str := ["thing"]
theorem sc_has_form : FnScope N_has_form p_has_form (defScope s_has_form) := ⟨rfl, rfl, rfl, by decide +kernel, rfl, by decide +kernel, by decide +kernel⟩
abbrev s_is_check : Stmt := topS 15
abbrev N_is_check : List Str := ["columns", "thing", "word", "part", "kind"]
abbrev p_is_check : List Str := ["columns", "thing"]
theorem sc_is_check : FnScope N_is_check p_is_check (defScope s_is_check) := ⟨rfl, rfl, rfl, by decide +kernel, rfl, by decide +kernel, by decide +kernel⟩
abbrev s_is_right : Stmt := topS 17
abbrev N_is_right : List Str := ["plan", "table", "thing", "place", "check", "names", "columns", "places"]
abbrev p_is_right : List Str := ["plan", "table", "thing"]
theorem sc_is_right : FnScope N_is_right p_is_right (defScope s_is_right) := ⟨rfl, rfl, rfl, by decide +kernel, rfl, by decide +kernel, by decide +kernel⟩
abbrev s_law_hand : Stmt := topS 19
abbrev N_law_hand : List Str := ["script", "k", "cell", "mixed"]
abbrev p_law_hand : List Str := ["script", "k"]
theorem sc_law_hand : FnScope N_law_hand p_law_hand (defScope s_law_hand) := ⟨rfl, rfl, rfl, by decide +kernel, rfl, by decide +kernel, by decide +kernel⟩
abbrev s_law_take : Stmt := topS 20
abbrev N_law_take : List Str := ["hand", "many", "digit", "mixed"]
abbrev p_law_take : List Str := ["hand", "many"]
theorem sc_law_take : FnScope N_law_take p_law_take (defScope s_law_take) := ⟨rfl, rfl, rfl, by decide +kernel, rfl, by decide +kernel, by decide +kernel⟩
abbrev s_law_pick : Stmt := topS 21
abbrev N_law_pick : List Str := ["hand", "some"]
abbrev p_law_pick : List Str := ["hand", "some"]
theorem sc_law_pick : FnScope N_law_pick p_law_pick (defScope s_law_pick) := ⟨rfl, rfl, rfl, by decide +kernel, rfl, by decide +kernel, by decide +kernel⟩
abbrev s_law_columns : Stmt := topS 22
abbrev N_law_columns : List Str := ["hand", "kinds", "found", "name"]
abbrev p_law_columns : List Str := ["hand"]
theorem sc_law_columns : FnScope N_law_columns p_law_columns (defScope s_law_columns) := ⟨rfl, rfl, rfl, by decide +kernel, rfl, by decide +kernel, by decide +kernel⟩
abbrev s_law_plan : Stmt := topS 23
abbrev N_law_plan : List Str := ["hand", "many", "names", "at", "some", "turn", "name"]
abbrev p_law_plan : List Str := ["hand", "many"]
theorem sc_law_plan : FnScope N_law_plan p_law_plan (defScope s_law_plan) := ⟨rfl, rfl, rfl, by decide +kernel, rfl, by decide +kernel, by decide +kernel⟩
abbrev s_law_worth : Stmt := topS 24
abbrev N_law_worth : List Str := ["hand", "kind", "is_key", "some"]
abbrev p_law_worth : List Str := ["hand", "kind", "is_key"]
theorem sc_law_worth : FnScope N_law_worth p_law_worth (defScope s_law_worth) := ⟨rfl, rfl, rfl, by decide +kernel, rfl, by decide +kernel, by decide +kernel⟩
abbrev s_law_check : Stmt := topS 25
abbrev N_law_check : List Str := ["hand", "columns", "deep", "way", "name", "kind", "other", "its", "one", "two"]
abbrev p_law_check : List Str := ["hand", "columns", "deep"]
theorem sc_law_check : FnScope N_law_check p_law_check (defScope s_law_check) := ⟨rfl, rfl, rfl, by decide +kernel, rfl, by decide +kernel, by decide +kernel⟩
abbrev s_law_right : Stmt := topS 26
abbrev N_law_right : List Str := ["hand", "columns", "way", "names", "name", "kind", "some", "check"]
abbrev p_law_right : List Str := ["hand", "columns"]
theorem sc_law_right : FnScope N_law_right p_law_right (defScope s_law_right) := ⟨rfl, rfl, rfl, by decide +kernel, rfl, by decide +kernel, by decide +kernel⟩
abbrev s_law_fits : Stmt := topS 27
abbrev N_law_fits : List Str := ["worth", "kind"]
abbrev p_law_fits : List Str := ["worth", "kind"]
theorem sc_law_fits : FnScope N_law_fits p_law_fits (defScope s_law_fits) := ⟨rfl, rfl, rfl, by decide +kernel, rfl, by decide +kernel, by decide +kernel⟩
abbrev s_law_is_check : Stmt := topS 28
abbrev N_law_is_check : List Str := ["columns", "thing", "word", "parts", "kinds", "part", "kind", "worth"]
abbrev p_law_is_check : List Str := ["columns", "thing"]
theorem sc_law_is_check : FnScope N_law_is_check p_law_is_check (defScope s_law_is_check) := ⟨rfl, rfl, rfl, by decide +kernel, rfl, by decide +kernel, by decide +kernel⟩
abbrev s_law_is_right : Stmt := topS 29
abbrev N_law_is_right : List Str := ["plan", "table", "thing", "columns", "names", "name", "kind", "one", "spots"]
abbrev p_law_is_right : List Str := ["plan", "table", "thing"]
theorem sc_law_is_right : FnScope N_law_is_right p_law_is_right (defScope s_law_is_right) := ⟨rfl, rfl, rfl, by decide +kernel, rfl, by decide +kernel, by decide +kernel⟩
abbrev s_law_odd : Stmt := topS 30
abbrev N_law_odd : List Str := ["hand", "some", "thing", "turn"]
abbrev p_law_odd : List Str := ["hand"]
theorem sc_law_odd : FnScope N_law_odd p_law_odd (defScope s_law_odd) := ⟨rfl, rfl, rfl, by decide +kernel, rfl, by decide +kernel, by decide +kernel⟩
abbrev s_law_bent : Stmt := topS 31
abbrev N_law_bent : List Str := ["hand", "right", "check", "names", "at", "odd", "some", "one", "checks"]
abbrev p_law_bent : List Str := ["hand", "right"]
theorem sc_law_bent : FnScope N_law_bent p_law_bent (defScope s_law_bent) := ⟨rfl, rfl, rfl, by decide +kernel, rfl, by decide +kernel, by decide +kernel⟩
abbrev s_law : Stmt := topS 32
abbrev N_law : List Str := ["script", "k", "hand", "plan", "kept", "turn", "name", "columns", "right", "table", "thing", "where", "heard"]
abbrev p_law : List Str := ["script"]
theorem sc_law : FnScope N_law p_law (defScope s_law) := ⟨rfl, rfl, rfl, by decide +kernel, rfl, by decide +kernel, by decide +kernel⟩
structure DD (K : PySem.W.Frag) (mg : Str → Option Value) where
  f_is_whole : Addr
  fd_is_whole : FuncData
  d_is_whole : Def K mg "is_whole" s_is_whole p_is_whole f_is_whole fd_is_whole
  f_is_number : Addr
  fd_is_number : FuncData
  d_is_number : Def K mg "is_number" s_is_number p_is_number f_is_number fd_is_number
  f_is_name : Addr
  fd_is_name : FuncData
  d_is_name : Def K mg "is_name" s_is_name p_is_name f_is_name fd_is_name
  f_fits : Addr
  fd_fits : FuncData
  d_fits : Def K mg "fits" s_fits p_fits f_fits fd_fits
  f_place_of : Addr
  fd_place_of : FuncData
  d_place_of : Def K mg "place_of" s_place_of p_place_of f_place_of fd_place_of
  f_places_of : Addr
  fd_places_of : FuncData
  d_places_of : Def K mg "places_of" s_places_of p_places_of f_places_of fd_places_of
  f_kind_of : Addr
  fd_kind_of : FuncData
  d_kind_of : Def K mg "kind_of" s_kind_of p_kind_of f_kind_of fd_kind_of
  f_has_word : Addr
  fd_has_word : FuncData
  d_has_word : Def K mg "has_word" s_has_word p_has_word f_has_word fd_has_word
  f_has_form : Addr
  fd_has_form : FuncData
  d_has_form : Def K mg "has_form" s_has_form p_has_form f_has_form fd_has_form
  f_is_check : Addr
  fd_is_check : FuncData
  d_is_check : Def K mg "is_check" s_is_check p_is_check f_is_check fd_is_check
  f_is_right : Addr
  fd_is_right : FuncData
  d_is_right : Def K mg "is_right" s_is_right p_is_right f_is_right fd_is_right
  f_law_hand : Addr
  fd_law_hand : FuncData
  d_law_hand : Def K mg "_law_hand" s_law_hand p_law_hand f_law_hand fd_law_hand
  f_law_take : Addr
  fd_law_take : FuncData
  d_law_take : Def K mg "_law_take" s_law_take p_law_take f_law_take fd_law_take
  f_law_pick : Addr
  fd_law_pick : FuncData
  d_law_pick : Def K mg "_law_pick" s_law_pick p_law_pick f_law_pick fd_law_pick
  f_law_columns : Addr
  fd_law_columns : FuncData
  d_law_columns : Def K mg "_law_columns" s_law_columns p_law_columns f_law_columns fd_law_columns
  f_law_plan : Addr
  fd_law_plan : FuncData
  d_law_plan : Def K mg "_law_plan" s_law_plan p_law_plan f_law_plan fd_law_plan
  f_law_worth : Addr
  fd_law_worth : FuncData
  d_law_worth : Def K mg "_law_worth" s_law_worth p_law_worth f_law_worth fd_law_worth
  f_law_check : Addr
  fd_law_check : FuncData
  d_law_check : Def K mg "_law_check" s_law_check p_law_check f_law_check fd_law_check
  f_law_right : Addr
  fd_law_right : FuncData
  d_law_right : Def K mg "_law_right" s_law_right p_law_right f_law_right fd_law_right
  f_law_fits : Addr
  fd_law_fits : FuncData
  d_law_fits : Def K mg "_law_fits" s_law_fits p_law_fits f_law_fits fd_law_fits
  f_law_is_check : Addr
  fd_law_is_check : FuncData
  d_law_is_check : Def K mg "_law_is_check" s_law_is_check p_law_is_check f_law_is_check fd_law_is_check
  f_law_is_right : Addr
  fd_law_is_right : FuncData
  d_law_is_right : Def K mg "_law_is_right" s_law_is_right p_law_is_right f_law_is_right fd_law_is_right
  f_law_odd : Addr
  fd_law_odd : FuncData
  d_law_odd : Def K mg "_law_odd" s_law_odd p_law_odd f_law_odd fd_law_odd
  f_law_bent : Addr
  fd_law_bent : FuncData
  d_law_bent : Def K mg "_law_bent" s_law_bent p_law_bent f_law_bent fd_law_bent
  f_law : Addr
  fd_law : FuncData
  d_law : Def K mg "law" s_law p_law f_law fd_law
def kvs_LENGTHS : List (Str × D) := [(Str.ofString "is", .int (3)), (Str.ofString "below", .int (3)), (Str.ofString "like", .int (3)), (Str.ofString "not", .int (2)), (Str.ofString "and", .int (3)), (Str.ofString "or", .int (3))]
structure TxtW (K : PySem.W.Frag) (w : World) (mg : Str → Option Value) (B : DD K mg) : Prop where
  c_LENGTHS : MDictD K w mg "LENGTHS" kvs_LENGTHS
structure Txt (K : PySem.W.Frag) (mg : Str → Option Value) : Prop where
  b_abs : mg "abs" = none
  b_all : mg "all" = none
  b_bool : mg "bool" = none
  b_dict : mg "dict" = none
  b_enumerate : mg "enumerate" = none
  b_int : mg "int" = none
  b_isinstance : mg "isinstance" = none
  b_len : mg "len" = none
  b_list : mg "list" = none
  b_min : mg "min" = none
  b_range : mg "range" = none
  b_repr : mg "repr" = none
  b_set : mg "set" = none
  b_sorted : mg "sorted" = none
  b_str : mg "str" = none
  b_tuple : mg "tuple" = none
  b_type : mg "type" = none
  c_GREATEST : ∃ t, mg "GREATEST" = some (.int 1000000000 t)
  c_LONGEST : ∃ t, mg "LONGEST" = some (.int 8 t)
theorem Txt.e_GREATEST {X : CxZ} {pos : Pos} (T : Txt X.K X.mg) (hg : Gl X "GREATEST" := by rfl) : DE X (.Name "GREATEST" pos) (wC (.int 1000000000)) := by
  obtain ⟨t, h⟩ := T.c_GREATEST
  exact de_gint h hg
theorem Txt.e_LONGEST {X : CxZ} {pos : Pos} (T : Txt X.K X.mg) (hg : Gl X "LONGEST" := by rfl) : DE X (.Name "LONGEST" pos) (wC (.int 8)) := by
  obtain ⟨t, h⟩ := T.c_LONGEST
  exact de_gint h hg
end K04

set_option autoImplicit false
set_option maxRecDepth 100000
set_option maxHeartbeats 4000000
namespace K04
open PySem L2 DL
section
variable {P : Program} {w : World} {K : PySem.W.Frag} {mg : Str → Option Value} {base : Heap}
def letter (c : Nat) : Bool := decide (97 ≤ c) && decide (c ≤ 122)
def isNm (s : Str) : Bool := decide (1 ≤ s.length) && decide (s.length ≤ 8) && s.cps.toList.all letter
def isNameB : D → Bool
  | .str s => isNm s
  | _ => false
def okD (M : Mem) (d : D) : Prop := (tyD M d).isSome = true ∧ ∀ s, d = .str s → s.length ≤ sizeLine
def F_is_name : FD := fun ds M k => match ds with
  | [d] => okD M d ∧ k (.bl (isNameB d)) M
  | _ => False
def sgn : D → D
  | .str z => .bl ((!decide (z.cps.toList < [97])) && (!decide ([122] < z.cps.toList)))
  | d => d
theorem sgn_one (c : Nat) : sgn (.str ⟨#[c]⟩) = .bl (letter c) := by
  show D.bl ((!decide ([c] < [97])) && (!decide ([122] < [c]))) = _
  congr 1
  unfold letter
  have h1 : decide ([c] < [97]) = decide (c < 97) := by
    rw [decide_eq_decide]
    refine ⟨fun h => ?_, fun h => List.cons_lt_cons_iff.mpr (.inl h)⟩
    rcases List.cons_lt_cons_iff.mp h with h | ⟨_, h⟩
    · exact h
    · simp at h
  have h2 : decide ([122] < [c]) = decide (122 < c) := by
    rw [decide_eq_decide]
    refine ⟨fun h => ?_, fun h => List.cons_lt_cons_iff.mpr (.inl h)⟩
    rcases List.cons_lt_cons_iff.mp h with h | ⟨_, h⟩
    · exact h
    · simp at h
  rw [h1, h2, Bool.eq_iff_iff]
  simp
theorem bools_signs (s : Str) : boolsD ((signs s).map sgn) = some (s.cps.toList.map letter) := by
  unfold signs
  induction s.cps.toList with
  | nil => rfl
  | cons c r ih =>
    rw [List.map_cons, List.map_cons, sgn_one]
    unfold boolsD
    rw [ih]
    rfl
theorem ok_is_name {f : Addr} {fd : FuncData} (T : Txt K mg) (d_is_name : Def K mg "is_name" s_is_name p_is_name f fd) : DFn P w K mg base 1 f fd p_is_name F_is_name := by
  refine Fun.okD d_is_name.F sc_is_name (fun cdv A outer s H E hr => (dss_cons (ds_if (dw_pt (dw_or (dt_cmpA c_isn (de_type T.b_type (dv 0)) (de_ty (n := "str") T.b_str (by decide +kernel))) (dw_or1 (dt_not (dt_chainA c_le c_le de_int (de_len T.b_len (dv 0)) T.e_LONGEST))))) (dss_one (ds_ret de_bl)) dss_nil) (dss_one (ds_ret (de_all rfl T.b_all (de_lc rfl sc_is_name.nd (di_str (dv 0)) (blkOk_by (own := [("letter", 1)]) (N := N_is_name) (sc := defScope s_is_name) (by decide +kernel)) (fun _ _ _ _ _ => (dg_name (i := 1) sc_is_name.nd)) gd_name (fun _ _ _ _ _ => dts_nil) (fun _ _ _ _ _ => (de_chainA c_le c_le de_str (dv 1) de_str)))))))) (fun ds M k h => ?_)
  unfold F_is_name at h
  split at h
  · rename_i d
    obtain ⟨⟨h1, h2⟩, h3⟩ := h
    refine ⟨rfl, ?_⟩
    rw [show startD N_is_name [d] = [some d, none] from rfl]
    cases d with
    | str s =>
      have h2 := h2 s rfl
      have fin2 : isNm s = (decide (1 ≤ s.length) && decide (s.length ≤ 8) && s.cps.toList.all letter) := rfl
      have main : lcD (gN 1) wYes (wChain rdLe rdLe (wC (D.str (Str.ofString "a"))) (wVar 1) (wC (D.str (Str.ofString "z")))) gAny (wipeD [some (D.str s), none] [1]) (signs s) [] M
          (fun xs M1 => match boolsD xs with | some l => k (D.bl (l.all id)) M1 | none => False) ∨ ¬ (1 ≤ s.length ∧ s.length ≤ 8) := by
        by_cases hb : 1 ≤ s.length ∧ s.length ≤ 8
        · left
          refine lc_map sgn (M := M) (by trivial) _ _ _ (fun d hd => ⟨_, rfl, fun k hk => ?_⟩) ?_ ?_
          · unfold signs at hd
            obtain ⟨c, _, rfl⟩ := List.mem_map.mp hd
            simp only [wNext, wSeq, wBreak, wContinue, wExpr, wRet, wRetN, wIfS, wSet, wAsg, wPar, wPar3, wFor, wSub, wTst, wOp, wChain, wNotT, wAndT, wOrT, wAndV, wOrV, wNotV, wIf, wNil, wCons, wTup, wLst, wLstM, wCall, wCall0, wVar, wC, wLc, wLcM, wYes, wiL, wiT, wiS, wiR, wiEnT, wiEnL, wiZip, wSl, woNone, woSome, wMt, wJoin, wGet, wUn, wTru, wDNew, fin, List.getElem?_cons_zero, List.getElem?_cons_succ, List.set_cons_zero, List.set_cons_succ, rdAdd, rdI, rdI0, rdU, rdOrd, rdIs, rdIn, rdIx, rdGet, rdSl, rdLen, rdType, rdIsiA, rdAll, rdInt, rdTuple, rdDict, rdSortD, rdAppend, rdPop, rdPopAt, wipeD]
            have ea : (Str.ofString "a").cps.toList = [97] := by decide
            have ez : (Str.ofString "z").cps.toList = [122] := by decide
            simp only [sgn] at hk
            simp only [ea, ez]
            cases q : decide ([c] < [97])
            · rw [q] at hk; simpa using hk
            · rw [q] at hk; simpa using hk
          · have : (signs s).length = s.length := by unfold signs; simp; rfl
            rw [this]; simpa using h2
          · simp only [List.nil_append, bools_signs]
            rw [show isNameB (.str s) = isNm s from rfl, fin2] at h3
            simp only [hb.1, hb.2, decide_true, Bool.true_and] at h3
            simpa using h3
        · exact .inr hb
      by_cases b1 : 1 ≤ s.length
      · by_cases b2 : s.length ≤ 8
        · have c1 : (1 : Int) ≤ (s.length : Int) := by omega
          have c2 : (s.length : Int) ≤ 8 := by omega
          rcases main with main | main
          · simp only [wNext, wSeq, wBreak, wContinue, wExpr, wRet, wRetN, wIfS, wSet, wAsg, wPar, wPar3, wFor, wSub, wTst, wOp, wChain, wNotT, wAndT, wOrT, wAndV, wOrV, wNotV, wIf, wNil, wCons, wTup, wLst, wLstM, wCall, wCall0, wVar, wC, wLc, wLcM, wYes, wiL, wiT, wiS, wiR, wiEnT, wiEnL, wiZip, wSl, woNone, woSome, wMt, wJoin, wGet, wUn, wTru, wDNew, fin, List.getElem?_cons_zero, List.getElem?_cons_succ, List.set_cons_zero, List.set_cons_succ, rdAdd, rdI, rdI0, rdU, rdOrd, rdIs, rdIn, rdIx, rdGet, rdSl, rdLen, rdType, rdIsiA, rdAll, rdInt, rdTuple, rdDict, rdSortD, rdAppend, rdPop, rdPopAt, tyD, c1, c2, decide_true, Bool.not_true, Bool.false_eq_true, if_false, asR]
            exact ⟨h2, main⟩
          · exact absurd ⟨b1, b2⟩ main
        · have c1 : (1 : Int) ≤ (s.length : Int) := by omega
          have c2 : ¬ (s.length : Int) ≤ 8 := by omega
          simp only [wNext, wSeq, wBreak, wContinue, wExpr, wRet, wRetN, wIfS, wSet, wAsg, wPar, wPar3, wFor, wSub, wTst, wOp, wChain, wNotT, wAndT, wOrT, wAndV, wOrV, wNotV, wIf, wNil, wCons, wTup, wLst, wLstM, wCall, wCall0, wVar, wC, wLc, wLcM, wYes, wiL, wiT, wiS, wiR, wiEnT, wiEnL, wiZip, wSl, woNone, woSome, wMt, wJoin, wGet, wUn, wTru, wDNew, fin, List.getElem?_cons_zero, List.getElem?_cons_succ, List.set_cons_zero, List.set_cons_succ, rdAdd, rdI, rdI0, rdU, rdOrd, rdIs, rdIn, rdIx, rdGet, rdSl, rdLen, rdType, rdIsiA, rdAll, rdInt, rdTuple, rdDict, rdSortD, rdAppend, rdPop, rdPopAt, tyD, c1, c2, decide_true, decide_false, Bool.not_true, Bool.not_false, Bool.false_eq_true, if_false, if_true]
          rw [show isNameB (.str s) = isNm s from rfl, fin2] at h3
          simp only [b2, decide_false, Bool.and_false, Bool.false_and] at h3
          exact ⟨h2, h3⟩
      · have c1 : ¬ (1 : Int) ≤ (s.length : Int) := by omega
        simp only [wNext, wSeq, wBreak, wContinue, wExpr, wRet, wRetN, wIfS, wSet, wAsg, wPar, wPar3, wFor, wSub, wTst, wOp, wChain, wNotT, wAndT, wOrT, wAndV, wOrV, wNotV, wIf, wNil, wCons, wTup, wLst, wLstM, wCall, wCall0, wVar, wC, wLc, wLcM, wYes, wiL, wiT, wiS, wiR, wiEnT, wiEnL, wiZip, wSl, woNone, woSome, wMt, wJoin, wGet, wUn, wTru, wDNew, fin, List.getElem?_cons_zero, List.getElem?_cons_succ, List.set_cons_zero, List.set_cons_succ, rdAdd, rdI, rdI0, rdU, rdOrd, rdIs, rdIn, rdIx, rdGet, rdSl, rdLen, rdType, rdIsiA, rdAll, rdInt, rdTuple, rdDict, rdSortD, rdAppend, rdPop, rdPopAt, tyD, c1, decide_true, decide_false, Bool.not_true, Bool.not_false, Bool.false_eq_true, if_false, if_true]
        rw [show isNameB (.str s) = isNm s from rfl, fin2] at h3
        simp only [b1, decide_false, Bool.and_false, Bool.false_and] at h3
        exact ⟨h2, h3⟩
    | cel a => 
      simp only [wNext, wSeq, wBreak, wContinue, wExpr, wRet, wRetN, wIfS, wSet, wAsg, wPar, wPar3, wFor, wSub, wTst, wOp, wChain, wNotT, wAndT, wOrT, wAndV, wOrV, wNotV, wIf, wNil, wCons, wTup, wLst, wLstM, wCall, wCall0, wVar, wC, wLc, wLcM, wYes, wiL, wiT, wiS, wiR, wiEnT, wiEnL, wiZip, wSl, woNone, woSome, wMt, wJoin, wGet, wUn, wTru, wDNew, fin, List.getElem?_cons_zero, List.getElem?_cons_succ, List.set_cons_zero, List.set_cons_succ, rdAdd, rdI, rdI0, rdU, rdOrd, rdIs, rdIn, rdIx, rdGet, rdSl, rdLen, rdType, rdIsiA, rdAll, rdInt, rdTuple, rdDict, rdSortD, rdAppend, rdPop, rdPopAt]
      cases q : tyD M (.cel a) with
      | none => rw [q] at h1; cases h1
      | some t =>
        have : t = "list" ∨ t = "dict" := by
          unfold tyD at q
          simp only at q
          split at q <;> cases q <;> simp
        rcases this with e | e <;> subst e <;> simpa [isNameB] using h3
    | ty n => cases h1
    | ftp n => cases h1
    | _ => 
      simp only [wNext, wSeq, wBreak, wContinue, wExpr, wRet, wRetN, wIfS, wSet, wAsg, wPar, wPar3, wFor, wSub, wTst, wOp, wChain, wNotT, wAndT, wOrT, wAndV, wOrV, wNotV, wIf, wNil, wCons, wTup, wLst, wLstM, wCall, wCall0, wVar, wC, wLc, wLcM, wYes, wiL, wiT, wiS, wiR, wiEnT, wiEnL, wiZip, wSl, woNone, woSome, wMt, wJoin, wGet, wUn, wTru, wDNew, fin, List.getElem?_cons_zero, List.getElem?_cons_succ, List.set_cons_zero, List.set_cons_succ, rdAdd, rdI, rdI0, rdU, rdOrd, rdIs, rdIn, rdIx, rdGet, rdSl, rdLen, rdType, rdIsiA, rdAll, rdInt, rdTuple, rdDict, rdSortD, rdAppend, rdPop, rdPopAt, tyD]
      simpa [isNameB] using h3
  · exact h.elim
end
end K04

set_option autoImplicit false
set_option maxRecDepth 100000
set_option maxHeartbeats 4000000
namespace K04
open PySem L2 DL
theorem ok_kd {s : Str} (h : s = Str.ofString "number" ∨ s = Str.ofString "name") : PyData.strOk s = true := by
  rcases h with rfl | rfl <;> decide +kernel
/-! what is asked of a value that anything may be -/
mutual
def okR (M : Mem) : D → Prop
  | .non => True
  | .bl _ => True
  | .int _ => True
  | .str s => s.length ≤ 1000000
  | .tup ds => ds.length ≤ 1000 ∧ okRs M ds
  | .lst _ => True
  | .cel a => (tyD M (.cel a)).isSome = true
  | _ => False
def okRs (M : Mem) : List D → Prop
  | [] => True
  | d :: ds => okR M d ∧ okRs M ds
end
theorem okRs_mem {M : Mem} : ∀ {ds : List D} {d : D}, okRs M ds → d ∈ ds → okR M d
  | x :: ds, d, h, hd => by
    unfold okRs at h
    rcases List.mem_cons.mp hd with e | e
    · rw [e]; exact h.1
    · exact okRs_mem h.2 e
theorem okR_ty {M : Mem} {d : D} (h : okR M d) : ∃ t, tyD M d = some t ∧ ((t = "int") = ∃ i, d = .int i) ∧ ((t = "str") = ∃ s, d = .str s) ∧ ((t = "tuple") = ∃ ds, d = .tup ds) ∧ ((t = "bool") = ∃ b, d = .bl b) := by
  cases d with
  | cel a =>
    unfold okR at h
    cases q : tyD M (.cel a) with
    | none => rw [q] at h; cases h
    | some t =>
      refine ⟨t, rfl, ?_⟩
      unfold tyD at q
      simp only at q
      split at q <;> cases q <;> simp
  | scr _ => unfold okR at h; exact h.elim
  | ty _ => unfold okR at h; exact h.elim
  | ftp _ => unfold okR at h; exact h.elim
  | _ => exact ⟨_, rfl, by simp⟩
theorem okR_D {M : Mem} {d : D} (h : okR M d) : okD M d := by
  obtain ⟨t, e, _⟩ := okR_ty h
  refine ⟨by rw [e]; rfl, fun s z => ?_⟩
  subst z
  unfold okR at h
  exact z1 h
def isInt : D → Bool
  | .int _ => true
  | _ => false
def isStr : D → Bool
  | .str _ => true
  | _ => false
def isTup : D → Bool
  | .tup _ => true
  | _ => false
theorem r_type {M : Mem} {d : D} {k : KD} {t : String} (e : tyD M d = some t) (hk : k (.ty t) M) : rdType [d] M k := by
  unfold rdType; simp only [e]; exact hk
theorem ty_int {M : Mem} {d : D} {k : KD} {f : Bool → Bool} (h : okR M d) (hk : k (.bl (f (isInt d))) M) : rdType [d] M fun x M1 => rdIs f x (.ty "int") M1 k := by
  obtain ⟨t, e, e1, _⟩ := okR_ty h
  refine r_type e ?_
  have : decide (t = "int") = isInt d := by
    rw [Bool.eq_iff_iff, decide_eq_true_eq, e1]
    cases d <;> simp [isInt]
  show k (.bl (f (decide (t = "int")))) M
  rw [this]; exact hk
theorem ty_str {M : Mem} {d : D} {k : KD} {f : Bool → Bool} (h : okR M d) (hk : k (.bl (f (isStr d))) M) : rdType [d] M fun x M1 => rdIs f x (.ty "str") M1 k := by
  obtain ⟨t, e, _, e1, _⟩ := okR_ty h
  refine r_type e ?_
  have : decide (t = "str") = isStr d := by
    rw [Bool.eq_iff_iff, decide_eq_true_eq, e1]
    cases d <;> simp [isStr]
  show k (.bl (f (decide (t = "str")))) M
  rw [this]; exact hk
theorem ty_tup {M : Mem} {d : D} {k : KD} {f : Bool → Bool} (h : okR M d) (hk : k (.bl (f (isTup d))) M) : rdType [d] M fun x M1 => rdIs f x (.ty "tuple") M1 k := by
  obtain ⟨t, e, _, _, e1, _⟩ := okR_ty h
  refine r_type e ?_
  have : decide (t = "tuple") = isTup d := by
    rw [Bool.eq_iff_iff, decide_eq_true_eq, e1]
    cases d <;> simp [isTup]
  show k (.bl (f (decide (t = "tuple")))) M
  rw [this]; exact hk
theorem isn_ok {M : Mem} {d : D} {k : KD} {f : Bool → Bool} (h : okR M d) (hk : k (.bl (f (isNon d))) M) : rdIs f d .non M k := by
  cases d with
  | scr _ => unfold okR at h; exact h.elim
  | ty _ => unfold okR at h; exact h.elim
  | ftp _ => unfold okR at h; exact h.elim
  | _ => exact hk
theorem tyD_cel {M : Mem} {a : Addr} : (tyD M (.cel a)).isSome = (M a).any oldC := by
  unfold tyD
  simp only
  cases M a with
  | none => rfl
  | some c => cases c <;> rfl
end K04

set_option autoImplicit false
set_option maxRecDepth 100000
set_option maxHeartbeats 4000000
namespace K04
open PySem L2 DL
abbrev Cols := List (Str × Str)
def colD (c : Str × Str) : D := .tup [.str c.1, .str c.2]
def colsD (cs : Cols) : D := .tup (cs.map colD)
def tabD (t : Str × Cols) : D := .tup [.str t.1, colsD t.2]
def Kd (s : Str) : Prop := s = Str.ofString "number" ∨ s = Str.ofString "name"
end K04

set_option autoImplicit false
set_option maxRecDepth 100000
set_option maxHeartbeats 4000000
namespace K04
open PySem L2 DL
section
variable {P : Program} {w : World} {K : PySem.W.Frag} {mg : Str → Option Value} {base : Heap}
def pr (p : Str × D) : D := .tup [.str p.1, p.2]
def findP (l : List (Str × D)) (s : Str) : Option Nat := l.findIdx? fun p => decide (p.1 = s)
def placeD (l : List (Str × D)) : D → D
  | .str s => if isNm s = true then (match findP l s with | some i => .int (i : Nat) | none => .non) else .non
  | _ => .non
def F_place_of : FD := fun ds M k => ∃ (l : List (Str × D)) (x : D), ds = [.tup (l.map pr), x] ∧ okR M x ∧ k (placeD l x) M
theorem place_loop {s : Str} {M : Mem} {a : Option D} {kk : KS} : ∀ (l : List (Str × D)) (i : Nat) (x2 x3 x4 : Option D),
    (match findP l s with | some j => kk.rt (.int ((i + j : Nat) : Int)) M | none => ∀ Γ, kk.nx Γ M) →
    loopD (gT (gsCons (gN 2) (gsCons (gT (gsCons (gN 3) (gsCons (gN 4) gsNil))) gsNil))) (wIfS (wTst (wOp (rdEq id) (wVar 3) (wVar 1))) (wRet (wVar 2)) wNext) gAny
      (((l.map pr).zipIdx i).map fun (d, i) => .tup [.int (i : Nat), d]) kk [a, some (.str s), x2, x3, x4] M
  | [], i, x2, x3, x4, h => ⟨trivial, h _⟩
  | p :: l, i, x2, x3, x4, h => by
    refine ⟨trivial, ?_⟩
    simp only [pr, gT, gsCons, gN, gsNil, wNext, wSeq, wBreak, wContinue, wExpr, wRet, wRetN, wIfS, wSet, wAsg, wPar, wPar3, wFor, wSub, wTst, wOp, wChain, wNotT, wAndT, wOrT, wAndV, wOrV, wNotV, wIf, wNil, wCons, wTup, wLst, wLstM, wCall, wCall0, wVar, wC, wLc, wLcM, wYes, wiL, wiT, wiS, wiR, wiEnT, wiEnL, wiZip, wSl, woNone, woSome, wMt, wJoin, wGet, wUn, wTru, wDNew, fin, List.getElem?_cons_zero, List.getElem?_cons_succ, List.set_cons_zero, List.set_cons_succ, rdAdd, rdI, rdI0, rdU, rdOrd, rdIs, rdIn, rdIx, rdGet, rdSl, rdLen, rdType, rdIsiA, rdAll, rdInt, rdTuple, rdDict, rdSortD, rdAppend, rdPop, rdPopAt]
    refine eq_strA ?_
    by_cases e : p.1 = s
    · have : findP (p :: l) s = some 0 := by unfold findP; rw [List.findIdx?_cons]; simp [e]
      rw [this] at h
      simp only [id, e, decide_true, if_true]
      simpa using h
    · have : findP (p :: l) s = (findP l s).map (· + 1) := by unfold findP; rw [List.findIdx?_cons]; simp [e]
      rw [this] at h
      simp only [id, e, decide_false, Bool.false_eq_true, if_false]
      refine place_loop (a := a) l (i + 1) _ _ _ ?_
      cases q : findP l s with
      | none => rw [q] at h; exact h
      | some j => rw [q] at h; simp only [Option.map_some] at h; show kk.rt (.int ((i + 1 + j : Nat) : Int)) M; rw [show i + 1 + j = i + (j + 1) by omega]; exact h
theorem ok_place_of (T : Txt K mg) (B : DD K mg) : DFn P w K mg base 2 B.f_place_of B.fd_place_of p_place_of F_place_of := by
  have G_is_name : DFn P w K mg base 1 B.f_is_name B.fd_is_name p_is_name F_is_name := ok_is_name T B.d_is_name
  refine Fun.okD B.d_place_of.F sc_place_of (fun cdv A outer s H E hr => (dss_cons (ds_if (dt_not (dt_val (de_own B.d_is_name G_is_name hr (by first | decide | omega) (da_cons (dv 1) da_nil)))) (dss_one (ds_ret de_non)) dss_nil) (dss_cons (ds_for rfl (di_enumT T.b_enumerate (da_cons (dv 0) da_nil)) (dg_tup rfl (dgs_cons (dg_name (i := 2) sc_place_of.nd) (dgs_cons (dg_tup rfl (dgs_cons (dg_name (i := 3) sc_place_of.nd) (dgs_cons (dg_name (i := 4) sc_place_of.nd) dgs_nil)) (gsCons_len (gsCons_len gsNil_len))) dgs_nil)) (gsCons_len (gsCons_len gsNil_len))) (dss_one (ds_if (dt_cmpA (c_eq hr) (dv 3) (dv 1)) (dss_one (ds_ret (dv 2))) dss_nil))) (dss_one (ds_ret de_non))))) (fun ds M k h => ?_)
  obtain ⟨l, x, rfl, hx, h⟩ := h
  (refine ⟨rfl, ?_⟩; rw [show startD N_place_of [.tup (l.map pr), x] = [some (.tup (l.map pr)), some (x), none, none, none] from rfl])
  simp only [wNext, wSeq, wBreak, wContinue, wExpr, wRet, wRetN, wIfS, wSet, wAsg, wPar, wPar3, wFor, wSub, wTst, wOp, wChain, wNotT, wAndT, wOrT, wAndV, wOrV, wNotV, wIf, wNil, wCons, wTup, wLst, wLstM, wCall, wCall0, wVar, wC, wLc, wLcM, wYes, wiL, wiT, wiS, wiR, wiEnT, wiEnL, wiZip, wSl, woNone, woSome, wMt, wJoin, wGet, wUn, wTru, wDNew, fin, List.getElem?_cons_zero, List.getElem?_cons_succ, List.set_cons_zero, List.set_cons_succ, rdAdd, rdI, rdI0, rdU, rdOrd, rdIs, rdIn, rdIx, rdGet, rdSl, rdLen, rdType, rdIsiA, rdAll, rdInt, rdTuple, rdDict, rdSortD, rdAppend, rdPop, rdPopAt]
  refine ⟨okR_D hx, ?_⟩
  cases x with
  | str s =>
    simp only [isNameB]
    simp only [placeD] at h
    by_cases q : isNm s = true
    · simp only [q, Bool.not_true, Bool.false_eq_true, if_false, if_true] at h ⊢
      refine place_loop l 0 _ _ _ ?_
      cases q2 : findP l s with
      | none => rw [q2] at h; exact fun _ => h
      | some j => rw [q2] at h; simpa using h
    · have q' : isNm s = false := by simpa using q
      simp only [q'] at h ⊢
      simpa using h
  | _ => simpa [isNameB, placeD] using h
end
end K04

set_option autoImplicit false
set_option maxRecDepth 100000
set_option maxHeartbeats 4000000
namespace K04
open PySem L2 DL
section
variable {P : Program} {w : World} {K : PySem.W.Frag} {mg : Str → Option Value} {base : Heap}
def F_is_whole : FD := fun ds M k => ∃ d, ds = [d] ∧ okR M d ∧ k (.bl (isInt d)) M
theorem ok_is_whole {f : Addr} {fd : FuncData} (T : Txt K mg) (d_is_whole : Def K mg "is_whole" s_is_whole p_is_whole f fd) : DFn P w K mg base 1 f fd p_is_whole F_is_whole := by
  refine Fun.okD d_is_whole.F sc_is_whole (fun cdv A outer s H E hr => (dss_one (ds_ret (de_cmpA c_is (de_type T.b_type (dv 0)) (de_ty (n := "int") T.b_int (by decide +kernel)))))) (fun ds M k h => ?_)
  obtain ⟨d, rfl, hd, hk⟩ := h
  refine ⟨rfl, ?_⟩
  rw [show startD N_is_whole [d] = [some d] from rfl]
  simp only [wNext, wSeq, wBreak, wContinue, wExpr, wRet, wRetN, wIfS, wSet, wAsg, wPar, wPar3, wFor, wSub, wTst, wOp, wChain, wNotT, wAndT, wOrT, wAndV, wOrV, wNotV, wIf, wNil, wCons, wTup, wLst, wLstM, wCall, wCall0, wVar, wC, wLc, wLcM, wYes, wiL, wiT, wiS, wiR, wiEnT, wiEnL, wiZip, wSl, woNone, woSome, wMt, wJoin, wGet, wUn, wTru, wDNew, fin, List.getElem?_cons_zero, List.getElem?_cons_succ, List.set_cons_zero, List.set_cons_succ]
  exact ty_int hd hk
def isNumB : D → Bool
  | .int i => decide (-(1000000000 : Int) ≤ i) && decide (i ≤ 1000000000)
  | _ => false
def F_is_number : FD := fun ds M k => ∃ d, ds = [d] ∧ okR M d ∧ k (.bl (isNumB d)) M
theorem ok_is_number {f f1 : Addr} {fd fd1 : FuncData} (T : Txt K mg) (d_is_whole : Def K mg "is_whole" s_is_whole p_is_whole f1 fd1) (d_is_number : Def K mg "is_number" s_is_number p_is_number f fd) : DFn P w K mg base 2 f fd p_is_number F_is_number := by
  have G_is_whole : DFn P w K mg base 1 f1 fd1 p_is_whole F_is_whole := ok_is_whole T d_is_whole
  refine Fun.okD d_is_number.F sc_is_number (fun cdv A outer s H E hr => (dss_one (ds_ret (de_and (de_own d_is_whole G_is_whole hr (by first | decide | omega) (da_cons (dv 0) da_nil)) (de_one (de_chainA c_le c_le (de_neg T.e_GREATEST) (dv 0) T.e_GREATEST)))))) (fun ds M k h => ?_)
  obtain ⟨d, rfl, hd, hk⟩ := h
  refine ⟨rfl, ?_⟩
  rw [show startD N_is_number [d] = [some d] from rfl]
  simp only [wNext, wSeq, wBreak, wContinue, wExpr, wRet, wRetN, wIfS, wSet, wAsg, wPar, wPar3, wFor, wSub, wTst, wOp, wChain, wNotT, wAndT, wOrT, wAndV, wOrV, wNotV, wIf, wNil, wCons, wTup, wLst, wLstM, wCall, wCall0, wVar, wC, wLc, wLcM, wYes, wiL, wiT, wiS, wiR, wiEnT, wiEnL, wiZip, wSl, woNone, woSome, wMt, wJoin, wGet, wUn, wTru, wDNew, fin, List.getElem?_cons_zero, List.getElem?_cons_succ, List.set_cons_zero, List.set_cons_succ]
  refine ⟨d, rfl, hd, ?_⟩
  cases d with
  | int i =>
    refine r_U (r_ordI ?_)
    by_cases h1 : -(1000000000 : Int) ≤ i
    · simp only [h1, decide_true]
      refine r_ordI ?_
      simpa [isNumB, h1] using hk
    · simp only [h1, decide_false]
      simpa [isNumB, h1] using hk
  | _ => exact hk
def fitsB (kd : Str) (d : D) : Bool := isNon d || (if kd = Str.ofString "number" then isNumB d else isNameB d)
def F_fits : FD := fun ds M k => ∃ kd d, ds = [.str kd, d] ∧ PyData.strOk kd = true ∧ okR M d ∧ k (.bl (fitsB kd d)) M
theorem ok_fits {f f1 f2 f3 : Addr} {fd fd1 fd2 fd3 : FuncData} (T : Txt K mg) (d_is_whole : Def K mg "is_whole" s_is_whole p_is_whole f1 fd1) (d_is_number : Def K mg "is_number" s_is_number p_is_number f2 fd2)
    (d_is_name : Def K mg "is_name" s_is_name p_is_name f3 fd3) (d_fits : Def K mg "fits" s_fits p_fits f fd) : DFn P w K mg base 3 f fd p_fits F_fits := by
  have G_is_number : DFn P w K mg base 2 f2 fd2 p_is_number F_is_number := ok_is_number T d_is_whole d_is_number
  have G_is_name : DFn P w K mg base 1 f3 fd3 p_is_name F_is_name := ok_is_name T d_is_name
  refine Fun.okD d_fits.F sc_fits (fun cdv A outer s H E hr => (dss_cons (ds_if (dt_cmpA c_is (dv 1) de_non) (dss_one (ds_ret de_bl)) dss_nil) (dss_cons (ds_if (dt_cmpA (c_eq hr) (dv 0) de_str) (dss_one (ds_ret (de_own d_is_number G_is_number hr (by first | decide | omega) (da_cons (dv 1) da_nil)))) dss_nil) (dss_one (ds_ret (de_own d_is_name G_is_name hr (by first | decide | omega) (da_cons (dv 1) da_nil))))))) (fun ds M k h => ?_)
  obtain ⟨kd, d, rfl, hkd, hd, hk⟩ := h
  refine ⟨rfl, ?_⟩
  rw [show startD N_fits [.str kd, d] = [some (.str kd), some d] from rfl]
  simp only [wNext, wSeq, wBreak, wContinue, wExpr, wRet, wRetN, wIfS, wSet, wAsg, wPar, wPar3, wFor, wSub, wTst, wOp, wChain, wNotT, wAndT, wOrT, wAndV, wOrV, wNotV, wIf, wNil, wCons, wTup, wLst, wLstM, wCall, wCall0, wVar, wC, wLc, wLcM, wYes, wiL, wiT, wiS, wiR, wiEnT, wiEnL, wiZip, wSl, woNone, woSome, wMt, wJoin, wGet, wUn, wTru, wDNew, fin, List.getElem?_cons_zero, List.getElem?_cons_succ, List.set_cons_zero, List.set_cons_succ]
  refine isn_ok hd ?_
  unfold fitsB at hk
  refine bb (fun e => ?_) (fun e => ?_)
  · have e : isNon d = true := e
    rw [e] at hk; exact hk
  · have e : isNon d = false := e
    rw [e, Bool.false_or] at hk
    refine eq_str hkd (by decide +kernel) (bb (fun e2 => ?_) (fun e2 => ?_))
    · rw [if_pos (of_decide_eq_true e2)] at hk
      exact ⟨d, rfl, hd, hk⟩
    · rw [if_neg (of_decide_eq_false e2)] at hk
      exact ⟨okR_D hd, hk⟩
end
end K04

set_option autoImplicit false
set_option maxRecDepth 100000
set_option maxHeartbeats 4000000
namespace K04
open PySem L2 DL
section
variable {P : Program} {w : World} {K : PySem.W.Frag} {mg : Str → Option Value} {base : Heap}
/-! the kind of a column -/
def lst (cs : Cols) : List (Str × D) := cs.map fun c => (c.1, D.str c.2)
theorem lst_pr (cs : Cols) : colsD cs = .tup ((lst cs).map pr) := by
  unfold colsD lst
  rw [List.map_map]; rfl
def kindOf (cs : Cols) : D → Option Str
  | .str s => if isNm s = true then (cs.find? fun c => decide (c.1 = s)).map (·.2) else none
  | _ => none
def kindD (cs : Cols) (x : D) : D := match kindOf cs x with | some k => .str k | none => .non
theorem findP_lst : ∀ (cs : Cols) (s : Str), (findP (lst cs) s = none ∧ cs.find? (fun c => decide (c.1 = s)) = none) ∨ ∃ i c, findP (lst cs) s = some i ∧ cs.find? (fun c => decide (c.1 = s)) = some c ∧ cs[i]? = some c
  | [], s => .inl ⟨rfl, rfl⟩
  | c :: cs, s => by
    have e : findP (lst (c :: cs)) s = if c.1 = s then some 0 else (findP (lst cs) s).map (· + 1) := by
      unfold findP lst
      rw [List.map_cons, List.findIdx?_cons]
      by_cases q : c.1 = s <;> simp [q]
    rw [e, List.find?_cons]
    by_cases q : c.1 = s
    · simp only [q, if_true, decide_true]
      exact .inr ⟨0, c, rfl, rfl, rfl⟩
    · simp only [q, if_false, decide_false]
      rcases findP_lst cs s with ⟨h1, h2⟩ | ⟨i, c', h1, h2, h3⟩
      · exact .inl ⟨by rw [h1]; rfl, h2⟩
      · exact .inr ⟨i + 1, c', by rw [h1]; rfl, h2, by simpa using h3⟩
theorem place_kind (cs : Cols) (x : D) : (placeD (lst cs) x = .non ∧ kindOf cs x = none) ∨ ∃ i c, placeD (lst cs) x = .int ((i : Nat) : Int) ∧ cs[i]? = some c ∧ kindOf cs x = some c.2 ∧ i < cs.length := by
  cases x with
  | str s =>
    simp only [placeD, kindOf]
    by_cases q : isNm s = true
    · simp only [q, if_true]
      rcases findP_lst cs s with ⟨h1, h2⟩ | ⟨i, c, h1, h2, h3⟩
      · rw [h1, h2]; exact .inl ⟨rfl, rfl⟩
      · rw [h1, h2]; exact .inr ⟨i, c, rfl, h3, rfl, (List.getElem?_eq_some_iff.mp h3).1⟩
    · simp only [q]; exact .inl ⟨rfl, rfl⟩
  | _ => exact .inl ⟨rfl, rfl⟩
def F_kind_of : FD := fun ds M k => ∃ (cs : Cols) (x : D), ds = [colsD cs, x] ∧ okR M x ∧ k (kindD cs x) M
theorem ok_kind_of (T : Txt K mg) (B : DD K mg) : DFn P w K mg base 3 B.f_kind_of B.fd_kind_of p_kind_of F_kind_of := by
  have G_place_of : DFn P w K mg base 2 B.f_place_of B.fd_place_of p_place_of F_place_of := ok_place_of T B
  refine Fun.okD B.d_kind_of.F sc_kind_of (fun cdv A outer s H E hr => (dss_cons (ds_set (i := 2) sc_kind_of.nd (de_own B.d_place_of G_place_of hr (by first | decide | omega) (da_cons (dv 0) (da_cons (dv 1) da_nil)))) (dss_cons (ds_if (dt_cmpA c_is (dv 2) de_non) (dss_one (ds_ret de_non)) dss_nil) (dss_one (ds_ret (de_ix (de_ix (dv 0) (dv 2)) de_int)))))) (fun ds M k h => ?_)
  obtain ⟨cs, x, rfl, hx, hk⟩ := h
  (refine ⟨rfl, ?_⟩; rw [show startD N_kind_of [colsD cs, x] = [some (colsD cs), some (x), none] from rfl])
  simp only [wNext, wSeq, wBreak, wContinue, wExpr, wRet, wRetN, wIfS, wSet, wAsg, wPar, wPar3, wFor, wSub, wTst, wOp, wChain, wNotT, wAndT, wOrT, wAndV, wOrV, wNotV, wIf, wNil, wCons, wTup, wLst, wLstM, wCall, wCall0, wVar, wC, wLc, wLcM, wYes, wiL, wiT, wiS, wiR, wiEnT, wiEnL, wiZip, wSl, woNone, woSome, wMt, wJoin, wGet, wUn, wTru, wDNew, fin, List.getElem?_cons_zero, List.getElem?_cons_succ, List.set_cons_zero, List.set_cons_succ]
  refine ⟨lst cs, x, by rw [lst_pr], hx, ?_⟩
  unfold kindD at hk
  rcases place_kind cs x with ⟨h1, h2⟩ | ⟨i, c, h1, h2, h3, h4⟩
  · rw [h1]; rw [h2] at hk
    exact r_isN (tt hk)
  · rw [h1]; rw [h3] at hk
    refine r_isI (ff (ix_tup (d := colD c) (atI_nat ?_) (ix_tup (at1 _ _ _) hk)))
    rw [List.getElem?_map, h2]; rfl
end
end K04

set_option autoImplicit false
set_option maxRecDepth 100000
set_option maxHeartbeats 4000000
namespace K04
open PySem L2 DL
/-! the measure of what is spoilt -/
mutual
def wide : D → Nat
  | .tup ds => max ds.length (wides ds)
  | .lst ds => wides ds
  | _ => 0
def wides : List D → Nat
  | [] => 0
  | d :: ds => max (wide d) (wides ds)
end
theorem fars_le {n : Nat} : ∀ {a : List D}, fars a ≤ n ↔ ∀ d ∈ a, far d ≤ n
  | [] => by simp [fars]
  | d :: a => by
    have e : fars (d :: a) = max (far d) (fars a) := by rw [fars]
    rw [e, Nat.max_le, fars_le (a := a)]
    simp
theorem wides_le {n : Nat} : ∀ {a : List D}, wides a ≤ n ↔ ∀ d ∈ a, wide d ≤ n
  | [] => by simp [wides]
  | d :: a => by
    have e : wides (d :: a) = max (wide d) (wides a) := by rw [wides]
    rw [e, Nat.max_le, wides_le (a := a)]
    simp
theorem fits_all {N : Nat} {M : Mem} : ∀ {a : List D}, fits N M a = true ↔ ∀ d ∈ a, fit N M d = true
  | [] => by simp [fits]
  | d :: a => by
    have e : fits N M (d :: a) = (fit N M d && fits N M a) := by rw [fits]
    rw [e, Bool.and_eq_true, fits_all (a := a)]
    simp
theorem heavy_mem : ∀ {a : List D} {d : D}, d ∈ a → heavy d + 1 ≤ heavies a
  | x :: a, d, h => by
    have e : heavies (x :: a) = heavy x + 1 + heavies a := by rw [heavies]
    rcases List.mem_cons.mp h with z | z
    · rw [z]; omega
    · have := heavy_mem z; omega
structure Good (N : Nat) (M : Mem) (a b c : Nat) (d : D) : Prop where
  ok : fit N M d = true
  hv : heavy d ≤ a
  fr : far d ≤ b
  wd : wide d ≤ c
theorem heavy_tup (ds : List D) : heavy (.tup ds) = heavies ds := by rw [heavy]
theorem far_tup (ds : List D) : far (.tup ds) = fars ds + 1 := by rw [far]
theorem wide_tup (ds : List D) : wide (.tup ds) = max ds.length (wides ds) := by rw [wide]
theorem fit_tup (N : Nat) (M : Mem) (ds : List D) : fit N M (.tup ds) = fits N M ds := by rw [fit]
/-- a part of such a thing -/
theorem Good.at {N : Nat} {M : Mem} {a b c : Nat} {ds : List D} {d : D} (h : Good N M a b c (.tup ds)) (hd : d ∈ ds) : Good N M a (b - 1) c d := by
  obtain ⟨h1, h2, h3, h4⟩ := h
  rw [fit_tup] at h1
  rw [heavy_tup] at h2
  rw [far_tup] at h3
  rw [wide_tup] at h4
  have := heavy_mem hd
  have f := fars_le.mp (show fars ds ≤ b - 1 by omega) d hd
  have g := wides_le.mp (show wides ds ≤ c by omega) d hd
  exact ⟨fits_all.mp h1 d hd, by omega, f, g⟩
/-! what is asked of anything follows -/
end K04

set_option autoImplicit false
set_option maxRecDepth 100000
set_option maxHeartbeats 4000000
namespace K04
open PySem L2 DL
theorem cut_le (ds : List D) (lo hi : Option Int) : (cutD ds lo hi).length ≤ ds.length := by
  unfold cutD; rw [List.length_take, List.length_drop]; omega
theorem Good.up {N : Nat} {M : Mem} {a b c a' b' c' : Nat} {d : D} (h : Good N M a b c d) (h1 : a ≤ a') (h2 : b ≤ b') (h3 : c ≤ c') : Good N M a' b' c' d :=
  ⟨h.ok, Nat.le_trans h.hv h1, Nat.le_trans h.fr h2, Nat.le_trans h.wd h3⟩
end K04

set_option autoImplicit false
set_option maxRecDepth 100000
set_option maxHeartbeats 4000000
namespace K04
open PySem L2 DL
section
variable {P : Program} {w : World} {K : PySem.W.Frag} {mg : Str → Option Value} {base : Heap}
/-! the hand: its digits, its mixing, how often it was asked (at most n times) -/
def Hn (M : Mem) (h : Addr) (n : Nat) : Prop := ∃ a b c : Int, M h = some (.lst [.int a, .int b, .int c]) ∧ 0 ≤ a ∧ 0 ≤ b ∧ b < 2305843009213693951 ∧ 0 ≤ c ∧ c ≤ n
def Ex (h : Addr) (M M' : Mem) : Prop := ∀ a c, a ≠ h → M a = some c → M' a = some c
theorem Ex.refl (h : Addr) (M : Mem) : Ex h M M := fun _ _ _ e => e
theorem Ex.trans {h : Addr} {M M1 M2 : Mem} (a : Ex h M M1) (b : Ex h M1 M2) : Ex h M M2 := fun x c n e => b x c n (a x c n e)
theorem Hn.up {M : Mem} {h : Addr} {n m : Nat} (q : Hn M h n) (l : n ≤ m) : Hn M h m := by
  obtain ⟨a, b, c, e, h1, h2, h3, h4, h5⟩ := q
  exact ⟨a, b, c, e, h1, h2, h3, h4, by omega⟩
theorem Hn.fresh {M : Mem} {h p : Addr} {n : Nat} (q : Hn M h n) (hp : M p = none) : p ≠ h := by
  obtain ⟨a, b, c, e, _⟩ := q
  exact Ne.symm (neM e hp)
theorem Hn.set {M : Mem} {h p : Addr} {n : Nat} {c : Cell} (q : Hn M h n) (hp : p ≠ h) : Hn (setM M p c) h n := by
  obtain ⟨a, b, d, e, r⟩ := q
  exact ⟨a, b, d, by rw [setM_ne (Ne.symm hp)]; exact e, r⟩
theorem Ex.new {h p : Addr} {M M' : Mem} {c : Cell} (e : Ex h M M') (hp : M p = none) : Ex h M (setM M' p c) := fun a x na q => by
  rw [setM_ne (neM q hp)]; exact e a x na q
theorem Ex.none {h p : Addr} {M M' : Mem} (e : Ex h M M') (n1 : p ≠ h) (hp : M' p = none) : M p = none := by
  cases q : M p with
  | none => rfl
  | some c => rw [e p c n1 q] at hp; cases hp
/-- a list that stands, or has a cell that isn't the hand's -/
def Lt (h : Addr) (M : Mem) (x : D) (ds : List D) : Prop := x = .lst ds ∨ ∃ a, x = .cel a ∧ a ≠ h ∧ M a = some (.lst ds)
theorem Lt.ext {h : Addr} {M M' : Mem} {x : D} {ds : List D} (e : Ex h M M') (q : Lt h M x ds) : Lt h M' x ds := by
  rcases q with q | ⟨a, q, n1, q4⟩
  · exact .inl q
  · exact .inr ⟨a, q, n1, e a _ n1 q4⟩
theorem Lt.asR {h : Addr} {M : Mem} {x : D} {ds : List D} (q : Lt h M x ds) : asR M x = some ds := by
  rcases q with q | ⟨a, q, n1, q4⟩ <;> subst q
  · rfl
  · unfold DL.asR; simp only [q4]
/-- a tuple, or such a list -/
def Sq (h : Addr) (M : Mem) (x : D) (ds : List D) : Prop := x = .tup ds ∨ Lt h M x ds
theorem Sq.len {h : Addr} {M : Mem} {x : D} {ds : List D} (q : Sq h M x ds) {k : KD} (hk : k (.int ds.length) M) : rdLen [x] M k := by
  rcases q with rfl | rfl | ⟨a, rfl, n1, q4⟩
  · exact r_lenT hk
  · exact r_lenL hk
  · exact r_lenC q4 hk
theorem Sq.ix {h : Addr} {M : Mem} {x : D} {ds : List D} (q : Sq h M x ds) {i : Int} {d : D} (hi : atI ds i = some d) {k : KD} (hk : k d M) : rdIx x (.int i) M k := by
  rcases q with rfl | rfl | ⟨a, rfl, n1, q4⟩
  · exact ix_tup hi hk
  · exact ix_lst hi hk
  · exact ix_cel q4 hi hk
theorem Sq.ext {h : Addr} {M M' : Mem} {x : D} {ds : List D} (e : Ex h M M') (q : Sq h M x ds) : Sq h M' x ds := q.imp id fun q => q.ext e
theorem atI_of {α : Type} {xs : List α} {r : Int} (h0 : 0 ≤ r) (h1 : r < xs.length) : ∃ d, atI xs r = some d ∧ d ∈ xs := by
  have h : r.toNat < xs.length := by omega
  refine ⟨xs[r.toNat], ?_, List.getElem_mem h⟩
  have := atI_nat (xs := xs) (j := r.toNat) (v := xs[r.toNat]) (by simp [h])
  rw [Int.toNat_of_nonneg h0] at this; exact this
def F_take : FD := fun ds M k => ∃ h n many, ds = [.cel h, .int many] ∧ Hn M h n ∧ n + 1 ≤ 1000000000 ∧ 0 < many ∧ many < 1073741824 ∧ ∀ r M', 0 ≤ r → r < many → Hn M' h (n + 1) → Ex h M M' → k (.int r) M'
theorem ok_take (T : Txt K mg) (B : DD K mg) : DFn P w K mg base 1 B.f_law_take B.fd_law_take p_law_take F_take := by
  refine Fun.okD B.d_law_take.F sc_law_take (fun cdv A outer s H E hr => (dss_cons (ds_if (dt_cmpA c_gt (de_ix (dv 0) de_int) de_int) (dss_cons (ds_set (i := 2) sc_law_take.nd (de_mod (de_ix (dv 0) de_int) (dv 1))) (dss_cons (ds_sub (dv 0) de_int (de_div (de_ix (dv 0) de_int) (dv 1))) (dss_one (ds_ret (dv 2))))) dss_nil) (dss_cons (ds_sub (dv 0) de_int (de_add (de_ix (dv 0) de_int) de_int)) (dss_cons (ds_set (i := 3) sc_law_take.nd (de_mod (de_mul (de_add (de_add (de_ix (dv 0) de_int) (de_mul (de_mul de_int (de_ix (dv 0) de_int)) (de_ix (dv 0) de_int))) de_int) de_int) de_int)) (dss_cons (ds_set (i := 3) sc_law_take.nd (de_mod (de_mul (dv 3) (de_add (de_mod (dv 3) de_int) (de_mul de_int (de_ix (dv 0) de_int)))) de_int)) (dss_one (ds_ret (de_mod (de_add (de_div (dv 3) de_int) (de_div (dv 3) de_int)) (dv 1))))))))) (fun ds M k h => ?_)
  obtain ⟨h, n, many, rfl, ⟨a, b, c, e, a0, b0, b1, c0, c1⟩, hn, m0, m1, hk⟩ := h
  (refine ⟨rfl, ?_⟩; rw [show startD N_law_take [.cel h, .int many] = [some (.cel h), some (.int many), none, none] from rfl])
  refine seq_step ?_
  unfold wIfS
  simp only [wNext, wBreak, wContinue, wExpr, wRet, wRetN, wSet, wAsg, wPar, wPar3, wSub, wTst, wOp, wChain, wNotT, wAndV, wOrV, wNotV, wIf, wNil, wCons, wTup, wLst, wLstM, wCall, wCall0, wVar, wC, wLc, wLcM, wYes, wiL, wiT, wiS, wiR, wiEnT, wiEnL, wiZip, wSl, woNone, woSome, wMt, wJoin, wGet, wUn, wTru, wDNew, fin, List.getElem?_cons_zero, List.getElem?_cons_succ, List.set_cons_zero, List.set_cons_succ]
  refine ix_cel e (at0 _ _) (r_ordI (bb (fun q => ?_) (fun q => ?_)))
  · have q := of_decide_eq_true q
    simp only [wNext, wSeq, wBreak, wContinue, wExpr, wRet, wRetN, wIfS, wSet, wAsg, wPar, wPar3, wFor, wSub, wTst, wOp, wChain, wNotT, wAndT, wOrT, wAndV, wOrV, wNotV, wIf, wNil, wCons, wTup, wLst, wLstM, wCall, wCall0, wVar, wC, wLc, wLcM, wYes, wiL, wiT, wiS, wiR, wiEnT, wiEnL, wiZip, wSl, woNone, woSome, wMt, wJoin, wGet, wUn, wTru, wDNew, fin, List.getElem?_cons_zero, List.getElem?_cons_succ, List.set_cons_zero, List.set_cons_succ]
    refine ix_cel e (at0 _ _) (r_mod m0 ?_)
    refine ix_cel e (at0 _ _) (r_div m0 m1 (r_st e (ix_nat (n := 3) (i := 0) (by decide)) ?_))
    simp only [wNext, wSeq, wBreak, wContinue, wExpr, wRet, wRetN, wIfS, wSet, wAsg, wPar, wPar3, wFor, wSub, wTst, wOp, wChain, wNotT, wAndT, wOrT, wAndV, wOrV, wNotV, wIf, wNil, wCons, wTup, wLst, wLstM, wCall, wCall0, wVar, wC, wLc, wLcM, wYes, wiL, wiT, wiS, wiR, wiEnT, wiEnL, wiZip, wSl, woNone, woSome, wMt, wJoin, wGet, wUn, wTru, wDNew, fin, List.getElem?_cons_zero, List.getElem?_cons_succ, List.set_cons_zero, List.set_cons_succ]
    refine hk _ _ (Int.emod_nonneg _ (by omega)) (Int.emod_lt_of_pos _ m0) ⟨a / many, b, c, setM_same, Int.ediv_nonneg a0 (by omega), b0, b1, c0, by omega⟩ fun x y nx q => by rw [setM_ne nx]; exact q
  · simp only [wNext, wSeq, wBreak, wContinue, wExpr, wRet, wRetN, wIfS, wSet, wAsg, wPar, wPar3, wFor, wSub, wTst, wOp, wChain, wNotT, wAndT, wOrT, wAndV, wOrV, wNotV, wIf, wNil, wCons, wTup, wLst, wLstM, wCall, wCall0, wVar, wC, wLc, wLcM, wYes, wiL, wiT, wiS, wiR, wiEnT, wiEnL, wiZip, wSl, woNone, woSome, wMt, wJoin, wGet, wUn, wTru, wDNew, fin, List.getElem?_cons_zero, List.getElem?_cons_succ, List.set_cons_zero, List.set_cons_succ]
    refine ix_cel e (at2 _ _ _ _) (r_add (r_st e (ix_nat (n := 3) (i := 2) (by decide)) ?_))
    have e2 : setM M h (.lst ([.int a, .int b, .int c].set 2 (.int (c + 1)))) h = some (.lst [.int a, .int b, .int (c + 1)]) := setM_same
    have x2 : Ex h M (setM M h (.lst ([.int a, .int b, .int c].set 2 (.int (c + 1))))) := fun x y nx q => by rw [setM_ne nx]; exact q
    generalize setM M h (.lst ([.int a, .int b, .int c].set 2 (.int (c + 1)))) = M2 at e2 x2
    simp only [wNext, wSeq, wBreak, wContinue, wExpr, wRet, wRetN, wIfS, wSet, wAsg, wPar, wPar3, wFor, wSub, wTst, wOp, wChain, wNotT, wAndT, wOrT, wAndV, wOrV, wNotV, wIf, wNil, wCons, wTup, wLst, wLstM, wCall, wCall0, wVar, wC, wLc, wLcM, wYes, wiL, wiT, wiS, wiR, wiEnT, wiEnL, wiZip, wSl, woNone, woSome, wMt, wJoin, wGet, wUn, wTru, wDNew, fin, List.getElem?_cons_zero, List.getElem?_cons_succ, List.set_cons_zero, List.set_cons_succ]
    refine ix_cel e2 (at1 _ _ _) (ix_cel e2 (at2 _ _ _ _) (r_mul (.inl ⟨by decide, by decide⟩) (ix_cel e2 (at2 _ _ _ _) (r_mul (.inr ⟨by omega, by omega⟩) (r_add (r_add (r_mul (.inr ⟨by decide, by decide⟩) (r_mod (by decide) ?_))))))))
    generalize hm : (b + 104729 * (c + 1) * (c + 1) + 13) * 69621 % 2305843009213693921 = m
    have p0 : 0 ≤ m := by rw [← hm]; exact Int.emod_nonneg _ (by decide)
    have p1 : m < 2305843009213693921 := by rw [← hm]; exact Int.emod_lt_of_pos _ (by decide)
    refine r_mod (by decide) (ix_cel e2 (at2 _ _ _ _) (r_mul (.inl ⟨by decide, by decide⟩) (r_add (r_mul (.inl ⟨by omega, by omega⟩) (r_mod (by decide) ?_)))))
    generalize hm2 : m * (m % 999983 + 90001 * (c + 1)) % 2305843009213693907 = m2
    refine r_div (by decide) (by decide) (r_div (by decide) (by decide) (r_add (r_mod m0 ?_)))
    exact hk _ _ (Int.emod_nonneg _ (by omega)) (Int.emod_lt_of_pos _ m0) ⟨a, b, c + 1, e2, a0, b0, b1, by omega, by omega⟩ x2
def F_pick : FD := fun ds M k => ∃ h n x xs, ds = [.cel h, x] ∧ Hn M h n ∧ n + 1 ≤ 1000000000 ∧ Sq h M x xs ∧ 0 < xs.length ∧ xs.length < 1000000 ∧ ∀ d M', d ∈ xs → Hn M' h (n + 1) → Ex h M M' → k d M'
theorem ok_pick (T : Txt K mg) (B : DD K mg) : DFn P w K mg base 2 B.f_law_pick B.fd_law_pick p_law_pick F_pick := by
  have G_law_take : DFn P w K mg base 1 B.f_law_take B.fd_law_take p_law_take F_take := ok_take T B
  refine Fun.okD B.d_law_pick.F sc_law_pick (fun cdv A outer s H E hr => (dss_one (ds_ret (de_ix (dv 1) (de_own B.d_law_take G_law_take hr (by first | decide | omega) (da_cons (dv 0) (da_cons (de_len T.b_len (dv 1)) da_nil))))))) (fun ds M k h => ?_)
  obtain ⟨h, n, x, xs, rfl, hh, hn, hx, l0, l1, hk⟩ := h
  (refine ⟨rfl, ?_⟩; rw [show startD N_law_pick [.cel h, x] = [some (.cel h), some (x)] from rfl])
  simp only [wNext, wSeq, wBreak, wContinue, wExpr, wRet, wRetN, wIfS, wSet, wAsg, wPar, wPar3, wFor, wSub, wTst, wOp, wChain, wNotT, wAndT, wOrT, wAndV, wOrV, wNotV, wIf, wNil, wCons, wTup, wLst, wLstM, wCall, wCall0, wVar, wC, wLc, wLcM, wYes, wiL, wiT, wiS, wiR, wiEnT, wiEnL, wiZip, wSl, woNone, woSome, wMt, wJoin, wGet, wUn, wTru, wDNew, fin, List.getElem?_cons_zero, List.getElem?_cons_succ, List.set_cons_zero, List.set_cons_succ]
  refine hx.len ⟨h, n, _, rfl, hh, hn, by omega, by omega, fun r M' r0 r1 h' e' => ?_⟩
  obtain ⟨d, a1, a2⟩ := atI_of (xs := xs) r0 r1
  exact (hx.ext e').ix a1 (hk d M' a2 h' e')
end
end K04

set_option autoImplicit false
set_option maxRecDepth 100000
set_option maxHeartbeats 4000000
namespace K04
open PySem PySem.Spec PyProof.Rows L2 DL
section
variable {P : Program} {w : World} {K : PySem.W.Frag} {mg : Str → Option Value} {base : Heap}
structure ColsN (m : Nat) (cs : Cols) : Prop where
  ne : cs ≠ []
  le : cs.length ≤ m
  nm : ∀ c ∈ cs, isNm c.1 = true
  kd : ∀ c ∈ cs, Kd c.2
theorem ColsN.up {m m' : Nat} {cs : Cols} (h : ColsN m cs) (l : m ≤ m') : ColsN m' cs := ⟨h.ne, Nat.le_trans h.le l, h.nm, h.kd⟩
/-- columns, tables: plain tuples -/
def colsF (cs : Cols) : D := .ftp (cs.map colD)
def tabF (t : Str × Cols) : D := .tup [.str t.1, colsF t.2]
theorem thaw_cols (cs : Cols) : Thaw (colsF cs) (colsD cs) := .top _
theorem thaw_tab (t : Str × Cols) : Thaw (tabF t) (tabD t) := .tup (.cons (.refl _) (.cons (thaw_cols _) .nil))
theorem thaw_plan (ts : List (Str × Cols)) : Thaw (.ftp (ts.map tabF)) (.tup (ts.map tabD)) := .ftp (Thaws.map fun t _ => thaw_tab t)
def F_columns : FD := fun ds M k => ∃ h n, ds = [.cel h] ∧ Hn M h n ∧ n + 10 ≤ 1000000000 ∧ ∀ cs M', ColsN 4 cs → (cs.map (·.1)).Nodup → Hn M' h (n + 5) → Ex h M M' → k (colsF cs) M'
theorem kd_of {d : D} (h : d ∈ [D.str (Str.ofString "number"), D.str (Str.ofString "name")]) : ∃ s, d = .str s ∧ Kd s := by
  simp only [List.mem_cons, List.not_mem_nil, or_false] at h
  rcases h with rfl | rfl
  · exact ⟨_, rfl, .inl rfl⟩
  · exact ⟨_, rfl, .inr rfl⟩
theorem nd_str {l : List Str} (h : l.Nodup) : (l.map D.str).Nodup := List.pairwise_map.mpr (h.imp fun hne e => hne (by cases e; rfl))
theorem str_nd {l : List Str} (h : (l.map D.str).Nodup) : l.Nodup := (List.pairwise_map.mp h).imp fun hne e => hne (by rw [e])
theorem four_nd (j : Nat) : ([D.str (Str.ofString "k")] ++ [D.str (Str.ofString "x"), D.str (Str.ofString "y"), D.str (Str.ofString "z")].take j).Nodup := by
  have h : ([Str.ofString "k", Str.ofString "x", Str.ofString "y", Str.ofString "z"].map D.str).Nodup := nd_str (by decide +kernel)
  exact h.sublist (List.Sublist.append (List.Sublist.refl _) (List.take_sublist j _))
theorem ok_columns (T : Txt K mg) (B : DD K mg) : DFn P w K mg base 3 B.f_law_columns B.fd_law_columns p_law_columns F_columns := by
  have G_law_take : DFn P w K mg base 1 B.f_law_take B.fd_law_take p_law_take F_take := ok_take T B
  have G_law_pick : DFn P w K mg base 2 B.f_law_pick B.fd_law_pick p_law_pick F_pick := ok_pick T B
  refine Fun.okD B.d_law_columns.F sc_law_columns (fun cdv A outer s H E hr => (dss_cons (ds_set (i := 1) sc_law_columns.nd (de_lst (da_cons de_str (da_cons de_str da_nil)))) (dss_cons (ds_set (i := 2) sc_law_columns.nd (de_lstM (da_cons (de_tup (da_cons de_str (da_cons (de_own B.d_law_pick G_law_pick hr (by first | decide | omega) (da_cons (dv 0) (da_cons (dv 1) da_nil))) da_nil))) da_nil))) (dss_cons (ds_for rfl (di_list (de_slice (de_lst (da_cons de_str (da_cons de_str (da_cons de_str da_nil)))) do_none (do_some (de_own B.d_law_take G_law_take hr (by first | decide | omega) (da_cons (dv 0) (da_cons de_int da_nil)))))) (dg_name (i := 3) sc_law_columns.nd) (dss_one (ds_expr (de_append (dv 2) (de_tup (da_cons (dv 3) (da_cons (de_own B.d_law_pick G_law_pick hr (by first | decide | omega) (da_cons (dv 0) (da_cons (dv 1) da_nil))) da_nil))))))) (dss_one (ds_ret (de_tupleF T.b_tuple (dv 2)))))))) (fun ds M k h => ?_)
  obtain ⟨h, n, rfl, hh, hn, hk⟩ := h
  (refine ⟨rfl, ?_⟩; rw [show startD N_law_columns [.cel h] = [some (.cel h), none, none, none] from rfl])
  simp only [wNext, wSeq, wBreak, wContinue, wExpr, wRet, wRetN, wIfS, wSet, wAsg, wPar, wPar3, wFor, wSub, wTst, wOp, wChain, wNotT, wAndT, wOrT, wAndV, wOrV, wNotV, wIf, wNil, wCons, wTup, wLst, wLstM, wCall, wCall0, wVar, wC, wLc, wLcM, wYes, wiL, wiT, wiS, wiR, wiEnT, wiEnL, wiZip, wSl, woNone, woSome, wMt, wJoin, wGet, wUn, wTru, wDNew, fin, List.getElem?_cons_zero, List.getElem?_cons_succ, List.set_cons_zero, List.set_cons_succ]
  refine ⟨(show 2 ≤ sizeLine by decide), ⟨h, n, _, _, rfl, hh, by omega, .inr (.inl rfl), by decide, by decide, fun d M1 hd h1 e1 => ?_⟩⟩
  obtain ⟨kd, rfl, hkd⟩ := kd_of hd
  refine ⟨(show 2 ≤ sizeLine by decide), (show 1 ≤ sizeLine by decide), fun p hp => ?_⟩
  have nph := h1.fresh hp
  have hpM : M p = none := e1.none nph hp
  refine ⟨(show 3 ≤ sizeLine by decide), ⟨h, n + 1, 4, rfl, h1.set nph, by omega, by decide, by decide, fun r M2 r0 r1 h2 e2 => ?_⟩⟩
  have p2 : M2 p = some (.lst [colD (Str.ofString "k", kd)]) := e2 p _ nph setM_same
  have e12 : Ex h M M2 := (e1.new hpM).trans e2
  obtain ⟨j, rfl⟩ : ∃ j : Nat, r = (j : Int) := ⟨r.toNat, by omega⟩
  refine r_slL ?_
  rw [cut_take]
  simp only [asR]
  refine loop_inv (fun its Γ M' => ∃ cs : Cols, Hn M' h (n + 2 + (3 - its.length)) ∧ Ex h M M' ∧ M' p = some (.lst (cs.map colD)) ∧ cs ≠ [] ∧ cs.length + its.length ≤ 4 ∧ (∀ c ∈ cs, isNm c.1 = true) ∧ (∀ c ∈ cs, Kd c.2) ∧ (∀ d ∈ its, ∃ s, d = D.str s ∧ isNm s = true) ∧ ((cs.map (·.1)).map D.str ++ its).Nodup ∧
      ∃ x3, Γ = [some (.cel h), some (.lst [D.str (Str.ofString "number"), D.str (Str.ofString "name")]), some (.cel p), x3]) (fun _ _ _ _ => rfl) ?_ ?_ _ _ _
      ⟨[(Str.ofString "k", kd)], ?_, e12, p2, by simp, ?_, ?_, ?_, ?_, four_nd j, _, rfl⟩
  · rintro Γ M3 ⟨cs, h3, e3, p3, c1, c2, c3, c4, _, c6, x3, rfl⟩
    simp only [wNext, wSeq, wBreak, wContinue, wExpr, wRet, wRetN, wIfS, wSet, wAsg, wPar, wPar3, wFor, wSub, wTst, wOp, wChain, wNotT, wAndT, wOrT, wAndV, wOrV, wNotV, wIf, wNil, wCons, wTup, wLst, wLstM, wCall, wCall0, wVar, wC, wLc, wLcM, wYes, wiL, wiT, wiS, wiR, wiEnT, wiEnL, wiZip, wSl, woNone, woSome, wMt, wJoin, wGet, wUn, wTru, wDNew, fin, List.getElem?_cons_zero, List.getElem?_cons_succ, List.set_cons_zero, List.set_cons_succ]
    refine r_tupFC p3 ?_
    exact hk cs M3 ⟨c1, by simpa using c2, c3, c4⟩ (str_nd (by rw [List.append_nil] at c6; exact c6)) (h3.up (by simp)) e3
  · rintro d its Γ M3 ⟨cs, h3, e3, p3, c1, c2, c3, c4, c5, c6, x3, rfl⟩
    obtain ⟨s, rfl, hs⟩ := c5 d List.mem_cons_self
    simp only [List.length_cons] at c2 h3
    have lp : cs.length ≠ 0 := fun z => c1 (List.length_eq_zero_iff.mp z)
    refine ⟨_, rfl, fun k' q1 q2 q3 q4 => ?_⟩
    simp only [wNext, wSeq, wBreak, wContinue, wExpr, wRet, wRetN, wIfS, wSet, wAsg, wPar, wPar3, wFor, wSub, wTst, wOp, wChain, wNotT, wAndT, wOrT, wAndV, wOrV, wNotV, wIf, wNil, wCons, wTup, wLst, wLstM, wCall, wCall0, wVar, wC, wLc, wLcM, wYes, wiL, wiT, wiS, wiR, wiEnT, wiEnL, wiZip, wSl, woNone, woSome, wMt, wJoin, wGet, wUn, wTru, wDNew, fin, List.getElem?_cons_zero, List.getElem?_cons_succ, List.set_cons_zero, List.set_cons_succ]
    refine ⟨isC p3, ⟨h, _, _, _, rfl, h3, by omega, .inr (.inl rfl), by decide, by decide, fun d M4 hd h4 e4 => ?_⟩⟩
    obtain ⟨kd', rfl, hkd'⟩ := kd_of hd
    refine ⟨(show 2 ≤ sizeLine by decide), r_app (e4 p _ nph p3) (z2 (by simp; omega)) ?_⟩
    refine q3 _ _ ⟨cs ++ [(s, kd')], ?_, ?_, ?_, by simp, ?_, ?_, ?_, fun d hd => c5 d (List.mem_cons_of_mem _ hd), by rw [List.map_append, List.map_append, List.append_assoc]; exact c6, _, rfl⟩
    · exact (h4.up (by omega)).set nph
    · exact (e3.trans e4).new hpM
    · rw [setM_same, List.map_append]; rfl
    · simp; omega
    · intro c hc
      rcases List.mem_append.mp hc with z | z
      · exact c3 c z
      · simp at z; subst z; exact hs
    · intro c hc
      rcases List.mem_append.mp hc with z | z
      · exact c4 c z
      · simp at z; subst z; exact hkd'
  · have := List.length_take (i := j) (l := [D.str (Str.ofString "x"), D.str (Str.ofString "y"), D.str (Str.ofString "z")])
    exact h2.up (by omega)
  · rw [List.length_take]; simp; omega
  · intro c hc; simp at hc; subst hc; show isNm (Str.ofString "k") = true; decide +kernel
  · intro c hc; simp at hc; subst hc; exact hkd
  · intro d hd
    have := List.mem_of_mem_take hd
    simp only [List.mem_cons, List.not_mem_nil, or_false] at this
    rcases this with rfl | rfl | rfl <;> exact ⟨_, rfl, by decide +kernel⟩
/-! plans -/
structure PlanN (ts : List (Str × Cols)) : Prop where
  ne : ts ≠ []
  le : ts.length ≤ 3
  nm : ∀ t ∈ ts, isNm t.1 = true
  ok : ∀ t ∈ ts, ColsN 4 t.2
  nd : ∀ t ∈ ts, (t.2.map (·.1)).Nodup
  un : (ts.map (·.1)).Nodup
def F_plan : FD := fun ds M k => ∃ h n, ∃ many : Nat, ds = [.cel h, .int (many : Nat)] ∧ Hn M h n ∧ n + 30 ≤ 1000000000 ∧ 1 ≤ many ∧ many ≤ 3 ∧ ∀ ts M', PlanN ts → Hn M' h (n + 16) → Ex h M M' → k (.ftp (ts.map tabF)) M'
def eight : List Str := [Str.ofString "a", Str.ofString "all", Str.ofString "k", Str.ofString "none", Str.ofString "rows", Str.ofString "see", Str.ofString "t", Str.ofString "zzzzzzzz"]
def nm8 (at_ t : Nat) : Str := eight[(at_ + 3 * t) % 8]'(Nat.mod_lt _ (by decide))
theorem nm8_inj {at_ t t' : Nat} (h : t < 3) (h' : t' < 3) (e : nm8 at_ t = nm8 at_ t') : t = t' := by
  have nd : eight.Nodup := by decide +kernel
  have pw := List.pairwise_iff_getElem.mp nd
  unfold nm8 at e
  have h1 : (at_ + 3 * t) % 8 < eight.length := Nat.mod_lt _ (by decide)
  have h2 : (at_ + 3 * t') % 8 < eight.length := Nat.mod_lt _ (by decide)
  rcases Nat.lt_trichotomy ((at_ + 3 * t) % 8) ((at_ + 3 * t') % 8) with z | z | z
  · exact absurd e (pw _ _ h1 h2 z)
  · omega
  · exact absurd e.symm (pw _ _ h2 h1 z)
theorem nm8_nd {at_ : Nat} : ∀ {l : List Nat}, l.Nodup → (∀ t ∈ l, t < 3) → (l.map (nm8 at_)).Nodup
  | [], _, _ => List.nodup_nil
  | t :: l, h, hl => by
    obtain ⟨h1, h2⟩ := List.nodup_cons.mp h
    rw [List.map_cons, List.nodup_cons]
    refine ⟨fun z => ?_, nm8_nd h2 fun x hx => hl x (List.mem_cons_of_mem _ hx)⟩
    obtain ⟨x, hx, e⟩ := List.mem_map.mp z
    have := nm8_inj (hl x (List.mem_cons_of_mem _ hx)) (hl t List.mem_cons_self) e
    exact h1 (this ▸ hx)
theorem eight_nm : ∀ s ∈ eight, isNm s = true := by decide +kernel
theorem strs_map (l : List Str) : strsD (l.map D.str) = some l := by
  induction l with
  | nil => rfl
  | cons c r ih => rw [List.map_cons]; unfold strsD; rw [ih]
theorem ok_plan (T : Txt K mg) (B : DD K mg) : DFn P w K mg base 4 B.f_law_plan B.fd_law_plan p_law_plan F_plan := by
  have G_law_take : DFn P w K mg base 1 B.f_law_take B.fd_law_take p_law_take F_take := ok_take T B
  have G_law_columns : DFn P w K mg base 3 B.f_law_columns B.fd_law_columns p_law_columns F_columns := ok_columns T B
  refine Fun.okD B.d_law_plan.F sc_law_plan (fun cdv A outer s H E hr => (dss_cons (ds_asg (dg_tup rfl (dgs_cons (dg_name (i := 2) sc_law_plan.nd) (dgs_cons (dg_name (i := 3) sc_law_plan.nd) dgs_nil)) (gsCons_len (gsCons_len gsNil_len))) (de_tup (da_cons (de_lst (da_cons de_str (da_cons de_str (da_cons de_str (da_cons de_str (da_cons de_str (da_cons de_str (da_cons de_str (da_cons de_str da_nil))))))))) (da_cons (de_own B.d_law_take G_law_take hr (by first | decide | omega) (da_cons (dv 0) (da_cons de_int da_nil))) da_nil)))) (dss_cons (ds_set (i := 4) sc_law_plan.nd (de_sortS T.b_sorted (de_lc rfl sc_law_plan.nd (di_range T.b_range (da_cons (dv 1) da_nil)) (blkOk_by (own := [("turn", 5)]) (N := N_law_plan) (sc := defScope s_law_plan) (by decide +kernel)) (fun _ _ _ _ _ => (dg_name (i := 5) sc_law_plan.nd)) gd_name (fun _ _ _ _ _ => dts_nil) (fun _ _ _ _ _ => (de_ix (dv 2) (de_mod (de_add (dv 3) (de_mul de_int (dv 5))) de_int)))))) (dss_one (ds_ret (de_tupleF T.b_tuple (de_lc rfl sc_law_plan.nd (di_list (dv 4)) (blkOk_by (own := [("name", 6)]) (N := N_law_plan) (sc := defScope s_law_plan) (by decide +kernel)) (fun _ _ _ _ _ => (dg_name (i := 6) sc_law_plan.nd)) gd_name (fun _ _ _ _ _ => dts_nil) (fun _ _ _ _ _ => (de_tup (da_cons (dv 6) (da_cons (de_own B.d_law_columns G_law_columns hr (by first | decide | omega) (da_cons (dv 0) da_nil)) da_nil))))))))))) (fun ds M k h => ?_)
  obtain ⟨h, n, many, rfl, hh, hn, m1, m3, hk⟩ := h
  (refine ⟨rfl, ?_⟩; rw [show startD N_law_plan [.cel h, .int (many : Nat)] = [some (.cel h), some (.int (many : Nat)), none, none, none, none, none] from rfl])
  simp only [wNext, wSeq, wBreak, wContinue, wExpr, wRet, wRetN, wIfS, wSet, wAsg, wPar, wPar3, wFor, wSub, wTst, wOp, wChain, wNotT, wAndT, wOrT, wAndV, wOrV, wNotV, wIf, wNil, wCons, wTup, wLst, wLstM, wCall, wCall0, wVar, wC, wLc, wLcM, wYes, wiL, wiT, wiS, wiR, wiEnT, wiEnL, wiZip, wSl, woNone, woSome, wMt, wJoin, wGet, wUn, wTru, wDNew, fin, List.getElem?_cons_zero, List.getElem?_cons_succ, List.set_cons_zero, List.set_cons_succ]
  refine ⟨(show 8 ≤ sizeLine by decide), ⟨h, n, 8, rfl, hh, by omega, by decide, by decide, fun r M1 r0 r1 h1 e1 => ?_⟩⟩
  obtain ⟨at_, rfl⟩ : ∃ j : Nat, r = (j : Int) := ⟨r.toNat, by omega⟩
  refine ⟨(show 2 ≤ sizeLine by decide), ?_⟩
  simp only [gT, gsCons, gN, gsNil, wNext, wSeq, wBreak, wContinue, wExpr, wRet, wRetN, wIfS, wSet, wAsg, wPar, wPar3, wFor, wSub, wTst, wOp, wChain, wNotT, wAndT, wOrT, wAndV, wOrV, wNotV, wIf, wNil, wCons, wTup, wLst, wLstM, wCall, wCall0, wVar, wC, wLc, wLcM, wYes, wiL, wiT, wiS, wiR, wiEnT, wiEnL, wiZip, wSl, woNone, woSome, wMt, wJoin, wGet, wUn, wTru, wDNew, fin, List.getElem?_cons_zero, List.getElem?_cons_succ, List.set_cons_zero, List.set_cons_succ]
  refine ⟨⟨by omega, by omega⟩, ?_⟩
  refine lc_inv (fun ds acc M' => M' = M1 ∧ (∃ l r : List Nat, acc = (l.map (nm8 at_)).map D.str ∧ ds = r.map (fun t => D.int (t : Nat)) ∧ (l ++ r).Nodup ∧ ∀ t ∈ l ++ r, t < 3) ∧ acc.length + ds.length = many) (fun _ _ _ _ => trivial) ?_ ?_ (fun _ _ _ h => z1 (by omega)) _ _ _
    ⟨rfl, ⟨[], List.range many, rfl, by unfold rng; simp, by rw [List.nil_append]; exact List.nodup_range, fun t ht => by have := List.mem_range.mp (by simpa using ht); omega⟩, by simp [rng]⟩
  · rintro acc M2 ⟨rfl, ⟨li, ri, rfl, e0, nd0, hl0⟩, hlen⟩
    have hr0 : ri = [] := List.map_eq_nil_iff.mp e0.symm
    subst hr0
    rw [List.append_nil] at nd0 hl0
    have nl : (li.map (nm8 at_)).Nodup := nm8_nd nd0 hl0
    have hl : ∀ s ∈ li.map (nm8 at_), isNm s = true := fun s hs => by
      obtain ⟨t, _, rfl⟩ := List.mem_map.mp hs
      exact eight_nm _ (List.getElem_mem _)
    generalize li.map (nm8 at_) = l at nl hl hlen
    simp only [List.length_map, List.length_nil, Nat.add_zero] at hlen
    unfold rdSortS
    simp only [asR, strs_map]
    refine ⟨by omega, fun ys hy _ => ?_⟩
    have yl : ys.length = many := by rw [hy.length_eq, hlen]
    have yd : ys.Nodup := hy.nodup_iff.mpr nl
    have yn : ∀ s ∈ ys, isNm s = true := fun s hs => hl s (hy.mem_iff.mp hs)
    refine lc_inv (fun ds acc M' => ∃ ts : List (Str × Cols), acc = ts.map tabF ∧ (∀ t ∈ ts, isNm t.1 = true) ∧ (∀ t ∈ ts, ColsN 4 t.2 ∧ (t.2.map (·.1)).Nodup) ∧ ((ts.map (·.1)).map D.str ++ ds).Nodup ∧ acc.length + ds.length = many ∧ Hn M' h (n + 1 + 5 * acc.length) ∧ Ex h M M' ∧ ∀ d ∈ ds, ∃ s, d = D.str s ∧ isNm s = true) (fun _ _ _ _ => rfl) ?_ ?_ (fun _ _ _ ⟨_, h⟩ => z1 (by omega)) _ _ _
      ⟨[], rfl, fun s hs => (by cases hs), fun s hs => (by cases hs), (by rw [List.map_nil, List.map_nil, List.nil_append]; exact nd_str yd), by simp [yl], h1.up (by omega), e1, fun d hd => ?_⟩
    · rintro acc M3 ⟨ts, rfl, t1, t2, t5, t3, h3, e3, _⟩
      simp only [List.length_map, List.length_nil, Nat.add_zero] at t3 h3
      refine r_tupFL ?_
      exact hk ts M3 ⟨fun z => by rw [z] at t3; simp at t3; omega, by omega, t1, fun t ht => (t2 t ht).1, fun t ht => (t2 t ht).2, str_nd (by rw [List.append_nil] at t5; exact t5)⟩ (h3.up (by omega)) e3
    · rintro d ds acc M3 ⟨ts, rfl, t1, t2, t5, t3, h3, e3, t4⟩
      obtain ⟨s, rfl, hs⟩ := t4 d List.mem_cons_self
      simp only [List.length_map, List.length_cons] at t3 h3
      refine ⟨_, rfl, fun ky kn hy hn' => ?_⟩
      simp only [wNext, wSeq, wBreak, wContinue, wExpr, wRet, wRetN, wIfS, wSet, wAsg, wPar, wPar3, wFor, wSub, wTst, wOp, wChain, wNotT, wAndT, wOrT, wAndV, wOrV, wNotV, wIf, wNil, wCons, wTup, wLst, wLstM, wCall, wCall0, wVar, wC, wLc, wLcM, wYes, wiL, wiT, wiS, wiR, wiEnT, wiEnL, wiZip, wSl, woNone, woSome, wMt, wJoin, wGet, wUn, wTru, wDNew, fin, List.getElem?_cons_zero, List.getElem?_cons_succ, List.set_cons_zero, List.set_cons_succ, wipeD, List.map]
      refine ⟨h, _, rfl, h3, by omega, fun cs M4 hc hcn h4 e4 => ⟨(show 2 ≤ sizeLine by decide), hy _ _ (z2 (by simp; omega)) ⟨ts ++ [(s, cs)], by rw [List.map_append]; rfl, ?_, ?_, (by rw [List.map_append, List.map_append, List.append_assoc]; exact t5), by simp; omega, h4.up (by simp; omega), e3.trans e4, fun d hd => t4 d (List.mem_cons_of_mem _ hd)⟩⟩⟩
      · intro t ht
        rcases List.mem_append.mp ht with z | z
        · exact t1 t z
        · simp at z; subst z; exact hs
      · intro t ht
        rcases List.mem_append.mp ht with z | z
        · exact t2 t z
        · simp at z; subst z; exact ⟨hc, hcn⟩
    · obtain ⟨s, hs, rfl⟩ := List.mem_map.mp hd
      exact ⟨s, rfl, yn s hs⟩
  · rintro d ds acc M2 ⟨rfl, ⟨l, r, rfl, er, nd0, hl0⟩, hlen⟩
    cases r with
    | nil => cases er
    | cons t r =>
    rw [List.map_cons] at er
    cases er
    simp only [List.length_map, List.length_cons] at hlen
    refine ⟨_, rfl, fun ky kn hy hn' => ?_⟩
    simp only [wNext, wSeq, wBreak, wContinue, wExpr, wRet, wRetN, wIfS, wSet, wAsg, wPar, wPar3, wFor, wSub, wTst, wOp, wChain, wNotT, wAndT, wOrT, wAndV, wOrV, wNotV, wIf, wNil, wCons, wTup, wLst, wLstM, wCall, wCall0, wVar, wC, wLc, wLcM, wYes, wiL, wiT, wiS, wiR, wiEnT, wiEnL, wiZip, wSl, woNone, woSome, wMt, wJoin, wGet, wUn, wTru, wDNew, fin, List.getElem?_cons_zero, List.getElem?_cons_succ, List.set_cons_zero, List.set_cons_succ, wipeD, List.map]
    rw [if_pos trivial]
    refine r_mul (.inl ⟨by decide, by decide⟩) (r_add (r_mod (by decide) ?_))
    have e8 : ((at_ : Int) + 3 * (t : Int)) % 8 = (((at_ + 3 * t) % 8 : Nat) : Int) := by omega
    rw [e8]
    have h8 : (at_ + 3 * t) % 8 < eight.length := Nat.mod_lt _ (by decide)
    have en : eight[(at_ + 3 * t) % 8] = nm8 at_ t := rfl
    generalize (at_ + 3 * t) % 8 = j at h8 en
    refine ix_lst (d := .str (eight[j])) (atI_nat ?_) ?_
    · show (eight.map D.str)[j]? = _
      rw [List.getElem?_map, List.getElem?_eq_getElem h8]; rfl
    · rw [en]
      refine hy _ _ (z2 (by simp; omega)) ⟨rfl, ⟨l ++ [t], r, by rw [List.map_append, List.map_append]; rfl, rfl, by rw [List.append_assoc]; exact nd0, by rw [List.append_assoc]; exact hl0⟩, by simp; omega⟩
/-! worths -/
inductive WFit : Str → D → Prop
  | non (kd : Str) : WFit kd .non
  | num (i : Int) : i.natAbs ≤ 1000000000 → WFit (Str.ofString "number") (.int i)
  | nam (s : Str) : isNm s = true → WFit (Str.ofString "name") (.str s)
def F_worth : FD := fun ds M k => ∃ h n kd key, ds = [.cel h, .str kd, .bl key] ∧ Hn M h n ∧ n + 3 ≤ 1000000000 ∧ Kd kd ∧ ∀ d M', WFit kd d → (key = true → d ≠ .non) → Hn M' h (n + 1) → Ex h M M' → k d M'
theorem ok_worth (T : Txt K mg) (B : DD K mg) : DFn P w K mg base 3 B.f_law_worth B.fd_law_worth p_law_worth F_worth := by
  have G_law_pick : DFn P w K mg base 2 B.f_law_pick B.fd_law_pick p_law_pick F_pick := ok_pick T B
  refine Fun.okD B.d_law_worth.F sc_law_worth (fun cdv A outer s H E hr => (dss_cons (ds_set (i := 3) sc_law_worth.nd (de_if (dt_cmpA (c_eq hr) (dv 1) de_str) (de_lst (da_cons de_int (da_cons de_int (da_cons de_int (da_cons (de_neg de_int) (da_cons de_int da_nil)))))) (de_lst (da_cons de_str (da_cons de_str (da_cons de_str (da_cons de_str (da_cons de_str da_nil)))))))) (dss_one (ds_ret (de_own B.d_law_pick G_law_pick hr (by first | decide | omega) (da_cons (dv 0) (da_cons (de_if (dt_val (dv 2)) (de_slice (dv 3) do_none (do_some de_int)) (de_add (dv 3) (de_lst (da_cons de_non da_nil)))) da_nil))))))) (fun ds M k h => ?_)
  obtain ⟨h, n, kd, key, rfl, hh, hn, hkd, hk⟩ := h
  (refine ⟨rfl, ?_⟩; rw [show startD N_law_worth [.cel h, .str kd, .bl key] = [some (.cel h), some (.str kd), some (.bl key), none] from rfl])
  refine seq_step ?_
  simp only [wNext, wBreak, wContinue, wExpr, wRet, wRetN, wSet, wAsg, wPar, wPar3, wSub, wTst, wOp, wChain, wNotT, wAndV, wOrV, wNotV, wIf, wNil, wCons, wTup, wLst, wLstM, wCall, wCall0, wVar, wC, wLc, wLcM, wYes, wiL, wiT, wiS, wiR, wiEnT, wiEnL, wiZip, wSl, woNone, woSome, wMt, wJoin, wGet, wUn, wTru, wDNew, fin, List.getElem?_cons_zero, List.getElem?_cons_succ, List.set_cons_zero, List.set_cons_succ]
  refine eq_str (ok_kd hkd) (by decide +kernel) ?_
  have fin' : ∀ xs : List D, (∀ d ∈ xs, WFit kd d ∧ d ≠ .non) → 0 < xs.length → xs.length < 100 → (wRet (wCall F_pick (wCons (wVar 0) (wCons (wIf (wTst (wVar 2)) (wSl (wVar 3) woNone (woSome (wC (.int 4)))) (wOp rdAdd (wVar 3) (wLst (wCons (wC .non) wNil)))) wNil)))) (fin k) [some (.cel h), some (.str kd), some (.bl key), some (.lst xs)] M := by
    intro xs hx l0 l1
    simp only [wNext, wSeq, wBreak, wContinue, wExpr, wRet, wRetN, wIfS, wSet, wAsg, wPar, wPar3, wFor, wSub, wTst, wOp, wChain, wNotT, wAndT, wOrT, wAndV, wOrV, wNotV, wIf, wNil, wCons, wTup, wLst, wLstM, wCall, wCall0, wVar, wC, wLc, wLcM, wYes, wiL, wiT, wiS, wiR, wiEnT, wiEnL, wiZip, wSl, woNone, woSome, wMt, wJoin, wGet, wUn, wTru, wDNew, fin, List.getElem?_cons_zero, List.getElem?_cons_succ, List.set_cons_zero, List.set_cons_succ]
    cases key with
    | true =>
      refine tt (r_slL ?_)
      rw [show (4 : Int) = ((4 : Nat) : Int) from rfl, cut_take]
      refine ⟨h, n, _, _, rfl, hh, by omega, .inr (.inl rfl), by rw [List.length_take]; omega, by rw [List.length_take]; omega, fun d M1 hd h1 e1 => ?_⟩
      have := hx d (List.mem_of_mem_take hd)
      exact hk d M1 this.1 (fun _ => this.2) h1 e1
    | false =>
      refine ff ⟨(show 1 ≤ sizeLine by decide), r_addL (z1 (by simp; omega)) ?_⟩
      refine ⟨h, n, _, _, rfl, hh, by omega, .inr (.inl rfl), by simp, by simp; omega, fun d M1 hd h1 e1 => ?_⟩
      rcases List.mem_append.mp hd with z | z
      · exact hk d M1 (hx d z).1 (fun q => by cases q) h1 e1
      · simp at z; subst z
        exact hk _ M1 (.non kd) (fun q => by cases q) h1 e1
  rcases hkd with rfl | rfl
  · rw [decide_eq_true rfl]
    refine tt (r_U ⟨(show 5 ≤ sizeLine by decide), ?_⟩)
    refine fin' _ ?_ (by simp) (by simp)
    intro d hd
    simp only [List.mem_cons, List.not_mem_nil, or_false] at hd
    rcases hd with rfl | rfl | rfl | rfl | rfl <;> exact ⟨.num _ (by decide), fun z => by cases z⟩
  · rw [decide_eq_false (by decide)]
    refine ff ⟨(show 5 ≤ sizeLine by decide), ?_⟩
    refine fin' _ ?_ (by simp) (by simp)
    intro d hd
    simp only [List.mem_cons, List.not_mem_nil, or_false] at hd
    rcases hd with rfl | rfl | rfl | rfl | rfl <;> exact ⟨.nam _ (by decide +kernel), fun z => by cases z⟩
end
end K04

set_option autoImplicit false
set_option maxRecDepth 100000
set_option maxHeartbeats 4000000
namespace K04
open PySem PySem.Spec PyProof.Rows L2 DL
section
variable {P : Program} {w : World} {K : PySem.W.Frag} {mg : Str → Option Value} {base : Heap}
inductive Chk (cs : Cols) : Nat → D → Prop
  | is {n : Nat} {a kd : Str} {w : D} : (a, kd) ∈ cs → WFit kd w → Chk cs n (.tup [.str (Str.ofString "is"), .str a, w])
  | lt {n : Nat} {a : Str} {i : Int} : (a, Str.ofString "number") ∈ cs → i.natAbs ≤ 1000000000 → Chk cs n (.tup [.str (Str.ofString "below"), .str a, .int i])
  | like {n : Nat} {a b kd : Str} : (a, kd) ∈ cs → (b, kd) ∈ cs → Chk cs n (.tup [.str (Str.ofString "like"), .str a, .str b])
  | not {n : Nat} {x : D} : Chk cs n x → Chk cs (n + 1) (.tup [.str (Str.ofString "not"), x])
  | and {n : Nat} {x y : D} : Chk cs n x → Chk cs n y → Chk cs (n + 1) (.tup [.str (Str.ofString "and"), x, y])
  | or {n : Nat} {x y : D} : Chk cs n x → Chk cs n y → Chk cs (n + 1) (.tup [.str (Str.ofString "or"), x, y])
theorem Chk.up {cs : Cols} {n : Nat} {d : D} (h : Chk cs n d) : ∀ {m : Nat}, n ≤ m → Chk cs m d := by
  induction h with
  | is a b => intro m _; exact .is a b
  | lt a b => intro m _; exact .lt a b
  | like a b => intro m _; exact .like a b
  | not a ih => intro m l; obtain ⟨m, rfl⟩ : ∃ j, m = j + 1 := ⟨m - 1, by omega⟩; exact .not (ih (by omega))
  | and a b ih1 ih2 => intro m l; obtain ⟨m, rfl⟩ : ∃ j, m = j + 1 := ⟨m - 1, by omega⟩; exact .and (ih1 (by omega)) (ih2 (by omega))
  | or a b ih1 ih2 => intro m l; obtain ⟨m, rfl⟩ : ∃ j, m = j + 1 := ⟨m - 1, by omega⟩; exact .or (ih1 (by omega)) (ih2 (by omega))
def F_check (n : Nat) : FD := fun ds M k => ∃ h c cs, ∃ deep : Nat, ds = [.cel h, colsD cs, .int (deep : Nat)] ∧ Hn M h c ∧ c + 20 + 20 * deep ≤ 1000000000 ∧ ColsN 1000 cs ∧ deep < n ∧ deep ≤ 1 ∧
  ∀ d M', Chk cs deep d → Hn M' h (c + (4 + 7 * deep)) → Ex h M M' → k d M'
theorem ok_check (T : Txt K mg) (B : DD K mg) : ∀ n, DFn P w K mg base (4 + n) B.f_law_check B.fd_law_check p_law_check (F_check n)
  | 0 => DFn.weak DFn.none fun ds M k ⟨h, c, cs, deep, _, _, _, _, h1, _⟩ => by omega
  | n + 1 => by
    have G_law_take : DFn P w K mg base 1 B.f_law_take B.fd_law_take p_law_take F_take := ok_take T B
    have G_law_pick : DFn P w K mg base 2 B.f_law_pick B.fd_law_pick p_law_pick F_pick := ok_pick T B
    have G_law_worth : DFn P w K mg base 3 B.f_law_worth B.fd_law_worth p_law_worth F_worth := ok_worth T B
    have G_law_check : DFn P w K mg base (4 + n) B.f_law_check B.fd_law_check p_law_check (F_check n) := ok_check T B n
    refine Fun.okD (k := 4 + n) B.d_law_check.F sc_law_check (fun cdv A outer s H E hr => (dss_cons (ds_asg (dg_tup rfl (dgs_cons (dg_name (i := 3) sc_law_check.nd) (dgs_cons (dg_tup rfl (dgs_cons (dg_name (i := 4) sc_law_check.nd) (dgs_cons (dg_name (i := 5) sc_law_check.nd) dgs_nil)) (gsCons_len (gsCons_len gsNil_len))) (dgs_cons (dg_tup rfl (dgs_cons (dg_name (i := 6) sc_law_check.nd) (dgs_cons (dg_name (i := 7) sc_law_check.nd) dgs_nil)) (gsCons_len (gsCons_len gsNil_len))) dgs_nil))) (gsCons_len (gsCons_len (gsCons_len gsNil_len)))) (de_tup (da_cons (de_own B.d_law_take G_law_take hr (by first | decide | omega) (da_cons (dv 0) (da_cons de_int da_nil))) (da_cons (de_own B.d_law_pick G_law_pick hr (by first | decide | omega) (da_cons (dv 0) (da_cons (dv 1) da_nil))) (da_cons (de_own B.d_law_pick G_law_pick hr (by first | decide | omega) (da_cons (dv 0) (da_cons (dv 1) da_nil))) da_nil))))) (dss_cons (ds_if (dw_pt (dw_and (dt_cmpA c_gt (dv 2) de_int) (dw_and1 (dt_cmpA c_lt (dv 3) de_int)))) (dss_cons (ds_par (i := 8) (j := 9) rfl sc_law_check.nd (da_cons (de_own B.d_law_check G_law_check hr (by first | decide | omega) (da_cons (dv 0) (da_cons (dv 1) (da_cons (de_sub (dv 2) de_int) da_nil)))) (da_cons (de_own B.d_law_check G_law_check hr (by first | decide | omega) (da_cons (dv 0) (da_cons (dv 1) (da_cons de_int da_nil)))) da_nil)) rfl rfl (by decide) rfl rfl (by rfl)) (dss_one (ds_ret (de_ix (de_lst (da_cons (de_tup (da_cons de_str (da_cons (dv 8) da_nil))) (da_cons (de_tup (da_cons de_str (da_cons (dv 8) (da_cons (dv 9) da_nil)))) (da_cons (de_tup (da_cons de_str (da_cons (dv 9) (da_cons (dv 8) da_nil)))) da_nil)))) (dv 3))))) dss_nil) (dss_cons (ds_if (dw_pt (dw_and (dt_cmpA (c_eq hr) (dv 3) de_int) (dw_and1 (dt_cmpA (c_eq hr) (dv 5) de_str)))) (dss_one (ds_ret (de_tup (da_cons de_str (da_cons (dv 4) (da_cons (de_own B.d_law_pick G_law_pick hr (by first | decide | omega) (da_cons (dv 0) (da_cons (de_lst (da_cons de_int (da_cons de_int (da_cons de_int (da_cons (de_neg de_int) da_nil))))) da_nil))) da_nil)))))) dss_nil) (dss_one (ds_ret (de_if (dw_pt (dw_and (dt_cmpA (c_eq hr) (dv 3) de_int) (dw_and1 (dt_cmpA (c_eq hr) (dv 5) (dv 7))))) (de_tup (da_cons de_str (da_cons (dv 4) (da_cons (dv 6) da_nil)))) (de_tup (da_cons de_str (da_cons (dv 4) (da_cons (de_own B.d_law_worth G_law_worth hr (by first | decide | omega) (da_cons (dv 0) (da_cons (dv 5) (da_cons de_bl da_nil)))) da_nil))))))))))) (fun ds M k h => ?_)
    obtain ⟨h, c, cs, deep, rfl, hh, hc, okc, ln, l1, hk⟩ := h
    (refine ⟨rfl, ?_⟩; rw [show startD N_law_check [.cel h, colsD cs, .int (deep : Nat)] = [some (.cel h), some (colsD cs), some (.int (deep : Nat)), none, none, none, none, none, none, none] from rfl])
    have cl := okc.le
    have cp : 0 < cs.length := List.length_pos_iff.mpr okc.ne
    refine seq_step ?_
    simp only [wNext, wBreak, wContinue, wExpr, wRet, wRetN, wSet, wAsg, wPar, wPar3, wSub, wTst, wOp, wChain, wNotT, wAndV, wOrV, wNotV, wIf, wNil, wCons, wTup, wLst, wLstM, wCall, wCall0, wVar, wC, wLc, wLcM, wYes, wiL, wiT, wiS, wiR, wiEnT, wiEnL, wiZip, wSl, woNone, woSome, wMt, wJoin, wGet, wUn, wTru, wDNew, fin, List.getElem?_cons_zero, List.getElem?_cons_succ, List.set_cons_zero, List.set_cons_succ]
    refine ⟨h, c, 6, rfl, hh, by omega, by decide, by decide, fun way M1 w0 w1 h1 e1 => ?_⟩
    refine ⟨h, _, _, cs.map colD, rfl, h1, by omega, .inl rfl, by rw [List.length_map]; exact cp, by rw [List.length_map]; omega, fun d1 M2 hd1 h2 e2 => ?_⟩
    refine ⟨h, _, _, cs.map colD, rfl, h2, by omega, .inl rfl, by rw [List.length_map]; exact cp, by rw [List.length_map]; omega, fun d2 M3 hd2 h3 e3 => ?_⟩
    obtain ⟨⟨a, ka⟩, ha, rfl⟩ := List.mem_map.mp hd1
    obtain ⟨⟨b, kb⟩, hb, rfl⟩ := List.mem_map.mp hd2
    have e13 := (e1.trans e2).trans e3
    refine ⟨(show 3 ≤ sizeLine by decide), ?_⟩
    simp only [colD, gT, gsCons, gN, gsNil, wNext, wBreak, wContinue, wExpr, wRet, wRetN, wSet, wAsg, wPar, wPar3, wSub, wTst, wOp, wChain, wNotT, wAndV, wOrV, wNotV, wIf, wNil, wCons, wTup, wLst, wLstM, wCall, wCall0, wVar, wC, wLc, wLcM, wYes, wiL, wiT, wiS, wiR, wiEnT, wiEnL, wiZip, wSl, woNone, woSome, wMt, wJoin, wGet, wUn, wTru, wDNew, fin, List.getElem?_cons_zero, List.getElem?_cons_succ, List.set_cons_zero, List.set_cons_succ]
    refine seq_step ?_
    unfold wIfS
    simp only [wNext]
    refine and_pure (b1 := decide ((0 : Int) < deep)) (b2 := decide (way < 3)) (fun k hk => by simp only [wNext, wSeq, wBreak, wContinue, wExpr, wRet, wRetN, wIfS, wSet, wAsg, wPar, wPar3, wFor, wSub, wTst, wOp, wChain, wNotT, wAndT, wOrT, wAndV, wOrV, wNotV, wIf, wNil, wCons, wTup, wLst, wLstM, wCall, wCall0, wVar, wC, wLc, wLcM, wYes, wiL, wiT, wiS, wiR, wiEnT, wiEnL, wiZip, wSl, woNone, woSome, wMt, wJoin, wGet, wUn, wTru, wDNew, fin, List.getElem?_cons_zero, List.getElem?_cons_succ, List.set_cons_zero, List.set_cons_succ]; exact r_ordI hk) (fun _ k hk => by simp only [wNext, wSeq, wBreak, wContinue, wExpr, wRet, wRetN, wIfS, wSet, wAsg, wPar, wPar3, wFor, wSub, wTst, wOp, wChain, wNotT, wAndT, wOrT, wAndV, wOrV, wNotV, wIf, wNil, wCons, wTup, wLst, wLstM, wCall, wCall0, wVar, wC, wLc, wLcM, wYes, wiL, wiT, wiS, wiR, wiEnT, wiEnL, wiZip, wSl, woNone, woSome, wMt, wJoin, wGet, wUn, wTru, wDNew, fin, List.getElem?_cons_zero, List.getElem?_cons_succ, List.set_cons_zero, List.set_cons_succ]; exact r_ordI hk) (bb (fun c1 => ?_) (fun c1 => ?_))
    · simp only [Bool.and_eq_true, decide_eq_true_eq] at c1
      obtain ⟨m, rfl⟩ : ∃ m : Nat, deep = m + 1 := ⟨deep - 1, by omega⟩
      obtain rfl : m = 0 := by omega
      refine seq_step ?_
      simp only [wNext, wBreak, wContinue, wExpr, wRet, wRetN, wSet, wAsg, wPar, wPar3, wSub, wTst, wOp, wChain, wNotT, wAndV, wOrV, wNotV, wIf, wNil, wCons, wTup, wLst, wLstM, wCall, wCall0, wVar, wC, wLc, wLcM, wYes, wiL, wiT, wiS, wiR, wiEnT, wiEnL, wiZip, wSl, woNone, woSome, wMt, wJoin, wGet, wUn, wTru, wDNew, fin, List.getElem?_cons_zero, List.getElem?_cons_succ, List.set_cons_zero, List.set_cons_succ]
      refine r_I0 ⟨h, _, cs, 0, rfl, h3, by omega, okc, by omega, by decide, fun x M4 hx h4 e4 => ?_⟩
      refine ⟨h, _, cs, 0, rfl, h4, by omega, okc, by omega, by decide, fun y M5 hy h5 e5 => ?_⟩
      simp only [wNext, wSeq, wBreak, wContinue, wExpr, wRet, wRetN, wIfS, wSet, wAsg, wPar, wPar3, wFor, wSub, wTst, wOp, wChain, wNotT, wAndT, wOrT, wAndV, wOrV, wNotV, wIf, wNil, wCons, wTup, wLst, wLstM, wCall, wCall0, wVar, wC, wLc, wLcM, wYes, wiL, wiT, wiS, wiR, wiEnT, wiEnL, wiZip, wSl, woNone, woSome, wMt, wJoin, wGet, wUn, wTru, wDNew, fin, List.getElem?_cons_zero, List.getElem?_cons_succ, List.set_cons_zero, List.set_cons_succ]
      refine ⟨(show 2 ≤ sizeLine by decide), (show 3 ≤ sizeLine by decide), (show 3 ≤ sizeLine by decide), (show 3 ≤ sizeLine by decide), ?_⟩
      have e15 := (e13.trans e4).trans e5
      obtain ⟨j, rfl⟩ : ∃ j : Nat, way = (j : Int) := ⟨way.toNat, by omega⟩
      match j, c1 with
      | 0, _ => exact ix_lst (at0 _ _) (hk _ M5 (.not hx) (h5.up (by omega)) e15)
      | 1, _ => exact ix_lst (at1 _ _ _) (hk _ M5 (.and hx hy) (h5.up (by omega)) e15)
      | 2, _ => exact ix_lst (at2 _ _ _ _) (hk _ M5 (.or hy hx) (h5.up (by omega)) e15)
      | j + 3, c1 => omega
    refine seq_step ?_
    refine and_pure (b1 := decide (way = 3)) (b2 := decide (ka = Str.ofString "number")) (fun k hk => by simp only [wNext, wSeq, wBreak, wContinue, wExpr, wRet, wRetN, wIfS, wSet, wAsg, wPar, wPar3, wFor, wSub, wTst, wOp, wChain, wNotT, wAndT, wOrT, wAndV, wOrV, wNotV, wIf, wNil, wCons, wTup, wLst, wLstM, wCall, wCall0, wVar, wC, wLc, wLcM, wYes, wiL, wiT, wiS, wiR, wiEnT, wiEnL, wiZip, wSl, woNone, woSome, wMt, wJoin, wGet, wUn, wTru, wDNew, fin, List.getElem?_cons_zero, List.getElem?_cons_succ, List.set_cons_zero, List.set_cons_succ]; exact eq_int hk) (fun _ k hk => by simp only [wNext, wSeq, wBreak, wContinue, wExpr, wRet, wRetN, wIfS, wSet, wAsg, wPar, wPar3, wFor, wSub, wTst, wOp, wChain, wNotT, wAndT, wOrT, wAndV, wOrV, wNotV, wIf, wNil, wCons, wTup, wLst, wLstM, wCall, wCall0, wVar, wC, wLc, wLcM, wYes, wiL, wiT, wiS, wiR, wiEnT, wiEnL, wiZip, wSl, woNone, woSome, wMt, wJoin, wGet, wUn, wTru, wDNew, fin, List.getElem?_cons_zero, List.getElem?_cons_succ, List.set_cons_zero, List.set_cons_succ]; exact eq_str (ok_kd (okc.kd _ ha)) (by decide +kernel) hk) (bb (fun c2 => ?_) (fun c2 => ?_))
    · simp only [Bool.and_eq_true, decide_eq_true_eq] at c2
      obtain ⟨rfl, rfl⟩ := c2
      simp only [wNext, wSeq, wBreak, wContinue, wExpr, wRet, wRetN, wIfS, wSet, wAsg, wPar, wPar3, wFor, wSub, wTst, wOp, wChain, wNotT, wAndT, wOrT, wAndV, wOrV, wNotV, wIf, wNil, wCons, wTup, wLst, wLstM, wCall, wCall0, wVar, wC, wLc, wLcM, wYes, wiL, wiT, wiS, wiR, wiEnT, wiEnL, wiZip, wSl, woNone, woSome, wMt, wJoin, wGet, wUn, wTru, wDNew, fin, List.getElem?_cons_zero, List.getElem?_cons_succ, List.set_cons_zero, List.set_cons_succ]
      refine r_U ⟨(show 4 ≤ sizeLine by decide), ⟨h, _, _, _, rfl, h3, by omega, .inr (.inl rfl), by decide, by decide, fun d M4 hd h4 e4 => ⟨(show 3 ≤ sizeLine by decide), ?_⟩⟩⟩
      obtain ⟨i, rfl, hi⟩ : ∃ i, d = .int i ∧ i.natAbs ≤ 1000000000 := by
        simp only [List.mem_cons, List.not_mem_nil, or_false] at hd
        rcases hd with rfl | rfl | rfl | rfl <;> exact ⟨_, rfl, by decide⟩
      exact hk _ M4 (.lt ha hi) (h4.up (by omega)) (e13.trans e4)
    simp only [wRet, wIf]
    refine and_pure (b1 := decide (way = 4)) (b2 := decide (ka = kb)) (fun k hk => by simp only [wNext, wSeq, wBreak, wContinue, wExpr, wRet, wRetN, wIfS, wSet, wAsg, wPar, wPar3, wFor, wSub, wTst, wOp, wChain, wNotT, wAndT, wOrT, wAndV, wOrV, wNotV, wIf, wNil, wCons, wTup, wLst, wLstM, wCall, wCall0, wVar, wC, wLc, wLcM, wYes, wiL, wiT, wiS, wiR, wiEnT, wiEnL, wiZip, wSl, woNone, woSome, wMt, wJoin, wGet, wUn, wTru, wDNew, fin, List.getElem?_cons_zero, List.getElem?_cons_succ, List.set_cons_zero, List.set_cons_succ]; exact eq_int hk) (fun _ k hk => by simp only [wNext, wSeq, wBreak, wContinue, wExpr, wRet, wRetN, wIfS, wSet, wAsg, wPar, wPar3, wFor, wSub, wTst, wOp, wChain, wNotT, wAndT, wOrT, wAndV, wOrV, wNotV, wIf, wNil, wCons, wTup, wLst, wLstM, wCall, wCall0, wVar, wC, wLc, wLcM, wYes, wiL, wiT, wiS, wiR, wiEnT, wiEnL, wiZip, wSl, woNone, woSome, wMt, wJoin, wGet, wUn, wTru, wDNew, fin, List.getElem?_cons_zero, List.getElem?_cons_succ, List.set_cons_zero, List.set_cons_succ]; exact eq_str (ok_kd (okc.kd _ ha)) (ok_kd (okc.kd _ hb)) hk) (bb (fun c3 => ?_) (fun c3 => ?_))
    · simp only [Bool.and_eq_true, decide_eq_true_eq] at c3
      obtain ⟨rfl, rfl⟩ := c3
      simp only [wNext, wSeq, wBreak, wContinue, wExpr, wRet, wRetN, wIfS, wSet, wAsg, wPar, wPar3, wFor, wSub, wTst, wOp, wChain, wNotT, wAndT, wOrT, wAndV, wOrV, wNotV, wIf, wNil, wCons, wTup, wLst, wLstM, wCall, wCall0, wVar, wC, wLc, wLcM, wYes, wiL, wiT, wiS, wiR, wiEnT, wiEnL, wiZip, wSl, woNone, woSome, wMt, wJoin, wGet, wUn, wTru, wDNew, fin, List.getElem?_cons_zero, List.getElem?_cons_succ, List.set_cons_zero, List.set_cons_succ]
      exact ⟨(show 3 ≤ sizeLine by decide), hk _ M3 (.like ha hb) (h3.up (by omega)) e13⟩
    · simp only [wNext, wSeq, wBreak, wContinue, wExpr, wRet, wRetN, wIfS, wSet, wAsg, wPar, wPar3, wFor, wSub, wTst, wOp, wChain, wNotT, wAndT, wOrT, wAndV, wOrV, wNotV, wIf, wNil, wCons, wTup, wLst, wLstM, wCall, wCall0, wVar, wC, wLc, wLcM, wYes, wiL, wiT, wiS, wiR, wiEnT, wiEnL, wiZip, wSl, woNone, woSome, wMt, wJoin, wGet, wUn, wTru, wDNew, fin, List.getElem?_cons_zero, List.getElem?_cons_succ, List.set_cons_zero, List.set_cons_succ]
      refine ⟨h, _, ka, false, rfl, h3, by omega, okc.kd _ ha, fun d M4 hd _ h4 e4 => ⟨(show 3 ≤ sizeLine by decide), ?_⟩⟩
      exact hk _ M4 (.is ha hd) (h4.up (by omega)) (e13.trans e4)
/-! rights -/
inductive RightN (cs : Cols) : D → Prop
  | non : RightN cs .non
  | mk (c : D) (ns : List Str) : (c = .non ∨ Chk cs 1 c) → ns.Sublist (cs.map (·.1)) → RightN cs (.tup [c, .tup (ns.map D.str)])
def fstD : D → D
  | .tup [n, _] => n
  | d => d
theorem fst_cols (cs : Cols) : (cs.map colD).map fstD = (cs.map (·.1)).map D.str := by
  rw [List.map_map, List.map_map]; rfl
def F_right : FD := fun ds M k => ∃ h c cs, ds = [.cel h, colsD cs] ∧ Hn M h c ∧ c + 80 ≤ 1000000000 ∧ ColsN 4 cs ∧ ∀ d M', RightN cs d → Hn M' h (c + 16) → Ex h M M' → k d M'
theorem ok_right (T : Txt K mg) (B : DD K mg) : DFn P w K mg base 7 B.f_law_right B.fd_law_right p_law_right F_right := by
  have G_law_take : DFn P w K mg base 1 B.f_law_take B.fd_law_take p_law_take F_take := ok_take T B
  have G_law_check : DFn P w K mg base 6 B.f_law_check B.fd_law_check p_law_check (F_check 2) := ok_check T B 2
  refine Fun.okD (k := 6) B.d_law_right.F sc_law_right (fun cdv A outer s H E hr => (dss_cons (ds_par (i := 2) (j := 3) rfl sc_law_right.nd (da_cons (de_own B.d_law_take G_law_take hr (by first | decide | omega) (da_cons (dv 0) (da_cons de_int da_nil))) (da_cons (de_lc rfl sc_law_right.nd (di_tup (dv 1)) (blkOk_by (own := [("name", 4), ("kind", 5)]) (N := N_law_right) (sc := defScope s_law_right) (by decide +kernel)) (fun _ _ _ _ _ => (dg_tup rfl (dgs_cons (dg_name (i := 4) sc_law_right.nd) (dgs_cons (dg_name (i := 5) sc_law_right.nd) dgs_nil)) (gsCons_len (gsCons_len gsNil_len)))) (gd_tup (gds_cons gd_name (gds_cons gd_name gds_nil)) (gsCons_len (gsCons_len gsNil_len))) (fun _ _ _ _ _ => dts_nil) (fun _ _ _ _ _ => (dv 4))) da_nil)) rfl rfl (by decide) rfl rfl (by rfl)) (dss_cons (ds_if (dt_cmpA (c_eq hr) (dv 2) de_int) (dss_one (ds_ret de_non)) dss_nil) (dss_cons (ds_set (i := 6) sc_law_right.nd (de_tuple T.b_tuple (de_lc rfl sc_law_right.nd (di_list (dv 3)) (blkOk_by (own := [("name", 4)]) (N := N_law_right) (sc := defScope s_law_right) (by decide +kernel)) (fun _ _ _ _ _ => (dg_name (i := 4) sc_law_right.nd)) gd_name (fun _ _ _ _ _ => (dts_one (dt_cmpA c_gt (de_own B.d_law_take G_law_take hr (by first | decide | omega) (da_cons (dv 0) (da_cons de_int da_nil))) de_int))) (fun _ _ _ _ _ => (dv 4))))) (dss_cons (ds_set (i := 7) sc_law_right.nd (de_if (dt_cmpA c_lt (dv 2) de_int) de_non (de_own B.d_law_check G_law_check hr (by first | decide | omega) (da_cons (dv 0) (da_cons (dv 1) (da_cons de_int da_nil)))))) (dss_one (ds_ret (de_tup (da_cons (dv 7) (da_cons (de_if (dw_pt (dw_or (dt_cmpA c_lt (dv 2) de_int) (dw_or1 (dt_cmpA (c_eq hr) (dv 2) de_int)))) (de_tuple T.b_tuple (dv 3)) (dv 6)) da_nil)))))))))) (fun ds M k h => ?_)
  obtain ⟨h, c, cs, rfl, hh, hc, okc, hk⟩ := h
  (refine ⟨rfl, ?_⟩; rw [show startD N_law_right [.cel h, colsD cs] = [some (.cel h), some (colsD cs), none, none, none, none, none, none] from rfl])
  have cl := okc.le
  refine seq_step ?_
  simp only [wNext, wBreak, wContinue, wExpr, wRet, wRetN, wSet, wAsg, wPar, wPar3, wSub, wTst, wOp, wChain, wNotT, wAndV, wOrV, wNotV, wIf, wNil, wCons, wTup, wLst, wLstM, wCall, wCall0, wVar, wC, wLc, wLcM, wYes, wiL, wiT, wiS, wiR, wiEnT, wiEnL, wiZip, wSl, woNone, woSome, wMt, wJoin, wGet, wUn, wTru, wDNew, fin, List.getElem?_cons_zero, List.getElem?_cons_succ, List.set_cons_zero, List.set_cons_succ]
  refine ⟨h, c, 6, rfl, hh, by omega, by decide, by decide, fun way M1 w0 w1 h1 e1 => ?_⟩
  simp only [colsD]
  refine lc_map fstD (G := gAny) (M := M1) trivial _ _ _ (fun d hd => ?_) (z1 (by simp; omega)) ?_
  · obtain ⟨x, hx, rfl⟩ := List.mem_map.mp hd
    exact ⟨_, rfl, fun k' hk' => hk'⟩
  rw [List.nil_append, fst_cols]
  refine seq_step ?_
  simp only [wNext, wBreak, wContinue, wExpr, wRet, wRetN, wSet, wAsg, wPar, wPar3, wSub, wTst, wOp, wChain, wNotT, wAndV, wOrV, wNotV, wIf, wNil, wCons, wTup, wLst, wLstM, wCall, wCall0, wVar, wC, wLc, wLcM, wYes, wiL, wiT, wiS, wiR, wiEnT, wiEnL, wiZip, wSl, woNone, woSome, wMt, wJoin, wGet, wUn, wTru, wDNew, fin, List.getElem?_cons_zero, List.getElem?_cons_succ, List.set_cons_zero, List.set_cons_succ, wIfS]
  refine eq_int (bb (fun c1 => ?_) (fun c1 => ?_))
  · exact hk _ M1 .non (h1.up (by omega)) e1
  have cln : ((cs.map (·.1)).map D.str).length ≤ 4 := by simp; exact cl
  refine seq_step ?_
  simp only [wNext, wBreak, wContinue, wExpr, wRet, wRetN, wSet, wAsg, wPar, wPar3, wSub, wTst, wOp, wChain, wNotT, wAndV, wOrV, wNotV, wIf, wNil, wCons, wTup, wLst, wLstM, wCall, wCall0, wVar, wC, wLc, wLcM, wYes, wiL, wiT, wiS, wiR, wiEnT, wiEnL, wiZip, wSl, woNone, woSome, wMt, wJoin, wGet, wUn, wTru, wDNew, fin, List.getElem?_cons_zero, List.getElem?_cons_succ, List.set_cons_zero, List.set_cons_succ]
  simp only [asR]
  refine lc_inv (fun ds acc M' => ∃ ns : List Str, acc = ns.map D.str ∧ (∃ rest : List Str, ds = rest.map D.str ∧ (ns ++ rest).Sublist (cs.map (·.1)) ∧ ns.length + rest.length ≤ 4 ∧ Hn M' h (c + 1 + (4 - rest.length))) ∧ Ex h M M') (fun _ _ _ _ => rfl) ?_ ?_ (fun _ _ _ ⟨_, e, ⟨_, e2, _, z, _⟩, _⟩ => z1 (by rw [e, e2]; simp; omega)) _ _ _
    ⟨[], rfl, ⟨cs.map (·.1), rfl, List.Sublist.refl _, by simp; exact cl, h1.up (by omega)⟩, e1⟩
  · rintro acc M2 ⟨ns, rfl, ⟨rest, er, hs, hl, h2⟩, e2⟩
    obtain rfl : rest = [] := by cases rest with | nil => rfl | cons _ _ => cases er
    rw [List.append_nil] at hs
    simp only [List.length_nil] at h2
    refine r_tupL ?_
    refine seq_join (fun Γ' M' => ∃ x4 x5 x6, (x4 = D.non ∨ Chk cs 1 x4) ∧ Hn M' h (c + 16) ∧ Ex h M M' ∧ Γ' = [some (.cel h), some (.tup (cs.map colD)), some (.int way), some (.lst ((cs.map (·.1)).map D.str)), x5, x6, some (.tup (ns.map D.str)), some x4]) ?_ ?_
    · rintro Γ' M3 ⟨x4, x5, x6, hx, h3, e3, rfl⟩
      simp only [wNext, wBreak, wContinue, wExpr, wRet, wRetN, wSet, wAsg, wPar, wPar3, wSub, wTst, wOp, wChain, wNotT, wAndV, wOrV, wNotV, wIf, wNil, wCons, wTup, wLst, wLstM, wCall, wCall0, wVar, wC, wLc, wLcM, wYes, wiL, wiT, wiS, wiR, wiEnT, wiEnL, wiZip, wSl, woNone, woSome, wMt, wJoin, wGet, wUn, wTru, wDNew, fin, List.getElem?_cons_zero, List.getElem?_cons_succ, List.set_cons_zero, List.set_cons_succ]
      refine or_pure (b1 := decide (way < 3)) (b2 := decide (way = 5)) (fun k hk => by simp only [wNext, wSeq, wBreak, wContinue, wExpr, wRet, wRetN, wIfS, wSet, wAsg, wPar, wPar3, wFor, wSub, wTst, wOp, wChain, wNotT, wAndT, wOrT, wAndV, wOrV, wNotV, wIf, wNil, wCons, wTup, wLst, wLstM, wCall, wCall0, wVar, wC, wLc, wLcM, wYes, wiL, wiT, wiS, wiR, wiEnT, wiEnL, wiZip, wSl, woNone, woSome, wMt, wJoin, wGet, wUn, wTru, wDNew, fin, List.getElem?_cons_zero, List.getElem?_cons_succ, List.set_cons_zero, List.set_cons_succ]; exact r_ordI hk) (fun _ k hk => by simp only [wNext, wSeq, wBreak, wContinue, wExpr, wRet, wRetN, wIfS, wSet, wAsg, wPar, wPar3, wFor, wSub, wTst, wOp, wChain, wNotT, wAndT, wOrT, wAndV, wOrV, wNotV, wIf, wNil, wCons, wTup, wLst, wLstM, wCall, wCall0, wVar, wC, wLc, wLcM, wYes, wiL, wiT, wiS, wiR, wiEnT, wiEnL, wiZip, wSl, woNone, woSome, wMt, wJoin, wGet, wUn, wTru, wDNew, fin, List.getElem?_cons_zero, List.getElem?_cons_succ, List.set_cons_zero, List.set_cons_succ]; exact eq_int hk) (bb (fun c2 => ?_) (fun c2 => ?_))
      · refine r_tupL ⟨(show 2 ≤ sizeLine by decide), ?_⟩
        exact hk _ M3 (.mk x4 _ hx (List.Sublist.refl _)) h3 e3
      · refine ⟨(show 2 ≤ sizeLine by decide), ?_⟩
        exact hk _ M3 (.mk x4 _ hx hs) h3 e3
    · intro nx hnx
      simp only [wNext, wBreak, wContinue, wExpr, wRet, wRetN, wSet, wAsg, wPar, wPar3, wSub, wTst, wOp, wChain, wNotT, wAndV, wOrV, wNotV, wIf, wNil, wCons, wTup, wLst, wLstM, wCall, wCall0, wVar, wC, wLc, wLcM, wYes, wiL, wiT, wiS, wiR, wiEnT, wiEnL, wiZip, wSl, woNone, woSome, wMt, wJoin, wGet, wUn, wTru, wDNew, fin, List.getElem?_cons_zero, List.getElem?_cons_succ, List.set_cons_zero, List.set_cons_succ]
      refine r_ordI (bb (fun c2 => ?_) (fun c2 => ?_))
      · exact hnx _ _ ⟨.non, _, _, .inl rfl, h2.up (by omega), e2, rfl⟩
      · refine ⟨h, _, cs, 1, rfl, h2, by omega, okc.up (by decide), by decide, by decide, fun d M3 hd h3 e3 => ?_⟩
        exact hnx _ _ ⟨d, _, _, .inr hd, h3.up (by omega), e2.trans e3, rfl⟩
  · rintro d ds acc M2 ⟨ns, rfl, ⟨rest, er, hs, hl, h2⟩, e2⟩
    cases rest with
    | nil => cases er
    | cons s rest =>
      rw [List.map_cons] at er
      injection er with er1 er2
      subst er1 er2
      simp only [List.length_cons] at hl h2
      refine ⟨_, rfl, fun ky kn hy hn => ?_⟩
      simp only [wNext, wSeq, wBreak, wContinue, wExpr, wRet, wRetN, wIfS, wSet, wAsg, wPar, wPar3, wFor, wSub, wTst, wOp, wChain, wNotT, wAndT, wOrT, wAndV, wOrV, wNotV, wIf, wNil, wCons, wTup, wLst, wLstM, wCall, wCall0, wVar, wC, wLc, wLcM, wYes, wiL, wiT, wiS, wiR, wiEnT, wiEnL, wiZip, wSl, woNone, woSome, wMt, wJoin, wGet, wUn, wTru, wDNew, fin, List.getElem?_cons_zero, List.getElem?_cons_succ, List.set_cons_zero, List.set_cons_succ, wipeD, List.map]
      refine ⟨h, _, 3, rfl, h2, by omega, by decide, by decide, fun r M3 r0 r1 h3 e3 => r_ordI (bb (fun c2 => ?_) (fun c2 => ?_))⟩
      · refine hy _ _ (z2 (by simp; omega)) ⟨ns ++ [s], by rw [List.map_append]; rfl, ⟨rest, rfl, by simpa using hs, by simp; omega, h3.up (by omega)⟩, e2.trans e3⟩
      · exact hn _ ⟨ns, rfl, ⟨rest, rfl, (List.Sublist.append (List.Sublist.refl ns) (List.sublist_cons_self s rest)).trans hs, by omega, h3.up (by omega)⟩, e2.trans e3⟩
/-- rights, one for each table -/
inductive Rts : List (Str × Cols) → List D → Prop
  | nil : Rts [] []
  | cons {t : Str × Cols} {ts : List (Str × Cols)} {d : D} {ds : List D} : RightN t.2 d → Rts ts ds → Rts (t :: ts) (d :: ds)
theorem Rts.length {ts : List (Str × Cols)} {ds : List D} (h : Rts ts ds) : ds.length = ts.length := by
  induction h with
  | nil => rfl
  | cons _ _ ih => simp [ih]
end
end K04

set_option autoImplicit false
set_option maxRecDepth 100000
set_option maxHeartbeats 4000000
namespace K04
open PySem PySem.Spec PyProof.Rows L2 DL
section
variable {P : Program} {w : World} {K : PySem.W.Frag} {mg : Str → Option Value} {base : Heap}
/-! the hand of a script -/
def F_lhand : FD := fun ds M k => ∃ (ns : List Int) (i : Nat), ds = [.scr (ns.map D.int), .int (i : Nat)] ∧ ns.length ≤ 63 ∧ i ≤ 1000 ∧ ∀ h M', M h = none → Hn M' h 0 → ExtA M M' → k (.cel h) M'
theorem ok_lhand (T : Txt K mg) (B : DD K mg) : DFn P w K mg base 1 B.f_law_hand B.fd_law_hand p_law_hand F_lhand := by
  refine Fun.okD B.d_law_hand.F sc_law_hand (fun cdv A outer s H E hr => (dss_cons (ds_set (i := 2) sc_law_hand.nd de_int) (dss_cons (ds_if (dt_cmpA c_lt (dv 1) (de_len T.b_len (dv 0))) (dss_one (ds_set (i := 2) sc_law_hand.nd (de_ix (dv 0) (dv 1)))) dss_nil) (dss_cons (ds_set (i := 3) sc_law_hand.nd (de_mod (de_mul (de_add (de_add (de_mod (dv 2) de_int) (de_mul (de_mul de_int (dv 1)) (dv 1))) de_int) de_int) de_int)) (dss_one (ds_ret (de_lstM (da_cons (de_mul (de_abs T.b_abs (dv 2)) (de_intof T.b_int (de_cmpA c_ge (de_abs T.b_abs (dv 2)) (de_pow de_int de_int)))) (da_cons (dv 3) (da_cons de_int da_nil)))))))))) (fun ds M k h => ?_)
  obtain ⟨ns, i, rfl, hn, hi, hk⟩ := h
  (refine ⟨rfl, ?_⟩; rw [show startD N_law_hand [.scr (ns.map D.int), .int (i : Nat)] = [some (.scr (ns.map D.int)), some (.int (i : Nat)), none, none] from rfl])
  refine seq_step ?_
  simp only [wNext, wBreak, wContinue, wExpr, wRet, wRetN, wSet, wAsg, wPar, wPar3, wSub, wTst, wOp, wChain, wNotT, wAndV, wOrV, wNotV, wIf, wNil, wCons, wTup, wLst, wLstM, wCall, wCall0, wVar, wC, wLc, wLcM, wYes, wiL, wiT, wiS, wiR, wiEnT, wiEnL, wiZip, wSl, woNone, woSome, wMt, wJoin, wGet, wUn, wTru, wDNew, fin, List.getElem?_cons_zero, List.getElem?_cons_succ, List.set_cons_zero, List.set_cons_succ]
  refine seq_join (fun Γ' M' => M' = M ∧ ∃ cell : Int, Γ' = [some (.scr (ns.map D.int)), some (.int (i : Nat)), some (.int cell), none]) ?_ ?_
  · rintro Γ' M' ⟨rfl, cell, rfl⟩
    refine seq_step ?_
    simp only [wNext, wBreak, wContinue, wExpr, wRet, wRetN, wSet, wAsg, wPar, wPar3, wSub, wTst, wOp, wChain, wNotT, wAndV, wOrV, wNotV, wIf, wNil, wCons, wTup, wLst, wLstM, wCall, wCall0, wVar, wC, wLc, wLcM, wYes, wiL, wiT, wiS, wiR, wiEnT, wiEnL, wiZip, wSl, woNone, woSome, wMt, wJoin, wGet, wUn, wTru, wDNew, fin, List.getElem?_cons_zero, List.getElem?_cons_succ, List.set_cons_zero, List.set_cons_succ]
    refine r_mod (by decide) (r_mul (.inl ⟨by decide, by decide⟩) (r_mul (.inr ⟨by omega, by omega⟩) (r_add (r_add (r_mul (.inr ⟨by decide, by decide⟩) (r_mod (by decide) ?_))))))
    generalize hm : (cell % 2305843009213693951 + 6143 * (i : Int) * (i : Int) + 19) * 48271 % 2305843009213693921 = m
    have p0 : 0 ≤ m := by rw [← hm]; exact Int.emod_nonneg _ (by decide)
    have p1 : m < 2305843009213693921 := by rw [← hm]; exact Int.emod_lt_of_pos _ (by decide)
    have ab : (0 : Int) ≤ if cell < 0 then -cell else cell := by split <;> omega
    refine (show rdAbs [.int cell] _ _ from ?_)
    simp only [rdAbs]
    generalize (if cell < 0 then -cell else cell) = a at ab
    refine r_pow (by decide) (by decide) (by decide) (r_ordI (r_intB ?_))
    have fin' : ∀ z : Int, 0 ≤ z → ∀ p, M' p = none → k (.cel p) (setM M' p (.lst [.int z, .int m, .int 0])) := fun z hz p hp => by
      refine hk p _ hp ⟨z, m, 0, setM_same, hz, p0, by omega, by decide, by decide⟩ (ExtA.new (ExtA.refl _) hp)
    split
    · refine r_mul (.inr ⟨by decide, by decide⟩) ⟨(show 3 ≤ sizeLine by decide), fun p hp => ?_⟩
      exact fin' _ (by omega) p hp
    · refine r_mul (.inr ⟨by decide, by decide⟩) ⟨(show 3 ≤ sizeLine by decide), fun p hp => ?_⟩
      exact fin' _ (by omega) p hp
  · intro nx hnx
    simp only [wNext, wBreak, wContinue, wExpr, wRet, wRetN, wSet, wAsg, wPar, wPar3, wSub, wTst, wOp, wChain, wNotT, wAndV, wOrV, wNotV, wIf, wNil, wCons, wTup, wLst, wLstM, wCall, wCall0, wVar, wC, wLc, wLcM, wYes, wiL, wiT, wiS, wiR, wiEnT, wiEnL, wiZip, wSl, woNone, woSome, wMt, wJoin, wGet, wUn, wTru, wDNew, fin, List.getElem?_cons_zero, List.getElem?_cons_succ, List.set_cons_zero, List.set_cons_succ, wIfS]
    refine r_lenR (r_ordI (bb (fun c => ?_) (fun c => ?_)))
    · have c : (i : Int) < ((ns.map D.int).length : Int) := of_decide_eq_true c
      rw [List.length_map] at c
      refine ix_scr (d := .int ns[i]) (atI_nat ?_) ?_
      · rw [List.getElem?_map, List.getElem?_eq_getElem (by omega)]; rfl
      · exact hnx _ _ ⟨rfl, _, rfl⟩
    · exact hnx _ _ ⟨rfl, _, rfl⟩
end
end K04

set_option autoImplicit false
set_option maxRecDepth 100000
set_option maxHeartbeats 4000000
namespace K04
open PySem L2 DL
section
variable {P : Program} {w : World} {K : PySem.W.Frag} {mg : Str → Option Value} {base : Heap}
/-! checks, as the document has them: the depth is told by n -/
def chkB (cs : Cols) : Nat → D → Bool
  | 0, _ => false
  | n + 1, .tup [.str w, a] => decide (w = Str.ofString "not") && chkB cs n a
  | n + 1, .tup [.str w, a, b] => if w = Str.ofString "and" ∨ w = Str.ofString "or" then chkB cs n a && chkB cs n b else (match kindOf cs a with
      | none => false
      | some kd => if w = Str.ofString "is" then fitsB kd b else if w = Str.ofString "below" then decide (kd = Str.ofString "number") && isNumB b else if w = Str.ofString "like" then decide (kindOf cs b = some kd) else false)
  | _ + 1, _ => false
structure CsOk (cs : Cols) : Prop where
  nm : ∀ c ∈ cs, isNm c.1 = true
  kd : ∀ c ∈ cs, Kd c.2
  le : cs.length ≤ 4000
theorem kindOf_kd {cs : Cols} (h : ∀ c ∈ cs, Kd c.2) {x : D} {kd : Str} (e : kindOf cs x = some kd) : Kd kd := by
  unfold kindOf at e
  split at e
  · split at e
    · rename_i s _
      cases q : cs.find? (fun c => decide (c.1 = s)) with
      | none => rw [q] at e; cases e
      | some c => rw [q] at e; cases e; exact h c (List.mem_of_find?_eq_some q)
    · cases e
  · cases e
def F_has_word : FD := fun ds M k => ∃ d, ds = [d] ∧ okR M d ∧ k (.bl (match d with | .tup (.str _ :: _) => true | _ => false)) M
theorem ok_has_word (T : Txt K mg) (B : DD K mg) : DFn P w K mg base 1 B.f_has_word B.fd_has_word p_has_word F_has_word := by
  refine Fun.okD B.d_has_word.F sc_has_word (fun cdv A outer s H E hr => (dss_one (ds_ret (de_and (de_cmpA c_is (de_type T.b_type (dv 0)) (de_ty (n := "tuple") T.b_tuple (by decide +kernel))) (de_and (de_cmpA c_gt (de_len T.b_len (dv 0)) de_int) (de_one (de_cmpA c_is (de_type T.b_type (de_ix (dv 0) de_int)) (de_ty (n := "str") T.b_str (by decide +kernel))))))))) (fun ds M k h => ?_)
  obtain ⟨d, rfl, hd, hk⟩ := h
  (refine ⟨rfl, ?_⟩; rw [show startD N_has_word [d] = [some (d)] from rfl])
  simp only [wNext, wSeq, wBreak, wContinue, wExpr, wRet, wRetN, wIfS, wSet, wAsg, wPar, wPar3, wFor, wSub, wTst, wOp, wChain, wNotT, wAndT, wOrT, wAndV, wOrV, wNotV, wIf, wNil, wCons, wTup, wLst, wLstM, wCall, wCall0, wVar, wC, wLc, wLcM, wYes, wiL, wiT, wiS, wiR, wiEnT, wiEnL, wiZip, wSl, woNone, woSome, wMt, wJoin, wGet, wUn, wTru, wDNew, fin, List.getElem?_cons_zero, List.getElem?_cons_succ, List.set_cons_zero, List.set_cons_succ]
  refine ty_tup hd ?_
  cases d with
  | tup ds =>
    unfold okR at hd
    refine r_lenT (r_ordI ?_)
    cases ds with
    | nil => exact hk
    | cons x r =>
      have e : decide ((0 : Int) < ((x :: r).length : Nat)) = true := decide_eq_true (by simp only [List.length_cons]; omega)
      show (match D.bl (decide ((0 : Int) < ((x :: r).length : Nat))) with | .bl true => _ | .bl false => _ | _ => _)
      rw [e]
      refine ix_tup (at0 _ _) (ty_str (okRs_mem hd.2 List.mem_cons_self) ?_)
      cases x <;> exact hk
  | _ => exact hk
def lenOf (s : Str) : D := (lookT kvs_LENGTHS s).getD .non
def formB : D → Bool
  | .tup (.str s :: r) => (match lenOf s with | .int i => decide (i = ((r.length + 1 : Nat) : Int)) | _ => false)
  | _ => false
theorem lenOf_cases (s : Str) : lenOf s = .non ∨ lenOf s = .int 2 ∨ lenOf s = .int 3 := by
  unfold lenOf
  cases q : lookT kvs_LENGTHS s with
  | none => exact .inl rfl
  | some d =>
    have := lookT_mem q
    unfold kvs_LENGTHS at this
    simp only [List.mem_cons, List.not_mem_nil, or_false, Prod.mk.injEq] at this
    rcases this with ⟨_, rfl⟩ | ⟨_, rfl⟩ | ⟨_, rfl⟩ | ⟨_, rfl⟩ | ⟨_, rfl⟩ | ⟨_, rfl⟩ <;> simp
def F_has_form : FD := fun ds M k => ∃ d, ds = [d] ∧ okR M d ∧ k (.bl (formB d)) M
theorem ok_has_form (T : Txt K mg) (B : DD K mg) (TW : TxtW K w mg B) : DFn P w K mg base 2 B.f_has_form B.fd_has_form p_has_form F_has_form := by
  have G_has_word : DFn P w K mg base 1 B.f_has_word B.fd_has_word p_has_word F_has_word := ok_has_word T B
  refine Fun.okD B.d_has_form.F sc_has_form (fun cdv A outer s H E hr => (dss_one (ds_ret (de_and (de_own B.d_has_word G_has_word hr (by first | decide | omega) (da_cons (dv 0) da_nil)) (de_one (de_cmpA (c_eq hr) (de_mget TW.c_LENGTHS (de_ix (dv 0) de_int)) (de_len T.b_len (dv 0)))))))) (fun ds M k h => ?_)
  obtain ⟨d, rfl, hd, hk⟩ := h
  (refine ⟨rfl, ?_⟩; rw [show startD N_has_form [d] = [some (d)] from rfl])
  simp only [wNext, wSeq, wBreak, wContinue, wExpr, wRet, wRetN, wIfS, wSet, wAsg, wPar, wPar3, wFor, wSub, wTst, wOp, wChain, wNotT, wAndT, wOrT, wAndV, wOrV, wNotV, wIf, wNil, wCons, wTup, wLst, wLstM, wCall, wCall0, wVar, wC, wLc, wLcM, wYes, wiL, wiT, wiS, wiR, wiEnT, wiEnL, wiZip, wSl, woNone, woSome, wMt, wJoin, wGet, wUn, wTru, wDNew, fin, List.getElem?_cons_zero, List.getElem?_cons_succ, List.set_cons_zero, List.set_cons_succ]
  refine ⟨d, rfl, hd, ?_⟩
  match d, hd, hk with
  | .tup (.str s :: r), hd, hk =>
    refine ix_tup (at0 _ _) ?_
    show (fun x => rdLen [.tup (.str s :: r)] M fun y M2 => rdEq id x y M2 k) (lenOf s)
    rw [show formB (.tup (.str s :: r)) = (match lenOf s with | .int i => decide (i = ((r.length + 1 : Nat) : Int)) | _ => false) from rfl] at hk
    have e : (((D.str s :: r).length : Nat) : Int) = ((r.length + 1 : Nat) : Int) := rfl
    rcases lenOf_cases s with q | q | q
    · rw [q] at hk ⊢
      exact r_lenT ⟨shaped_non, shaped_int, hk⟩
    · rw [q] at hk ⊢
      exact r_lenT (eq_int hk)
    · rw [q] at hk ⊢
      exact r_lenT (eq_int hk)
  | .tup [], _, hk => exact hk
  | .tup (.non :: _), _, hk => exact hk
  | .tup (.bl _ :: _), _, hk => exact hk
  | .tup (.int _ :: _), _, hk => exact hk
  | .tup (.tup _ :: _), _, hk => exact hk
  | .tup (.lst _ :: _), _, hk => exact hk
  | .tup (.scr _ :: _), _, hk => exact hk
  | .tup (.cel _ :: _), _, hk => exact hk
  | .tup (.ty _ :: _), _, hk => exact hk
  | .tup (.ftp _ :: _), _, hk => exact hk
  | .non, _, hk => exact hk
  | .bl _, _, hk => exact hk
  | .int _, _, hk => exact hk
  | .str _, _, hk => exact hk
  | .lst _, _, hk => exact hk
  | .scr _, _, hk => exact hk
  | .cel _, _, hk => exact hk
  | .ty _, _, hk => exact hk
  | .ftp _, _, hk => exact hk
/-- what has the form of a check -/
theorem form_cases {d : D} (h : formB d = true) : (∃ a, d = .tup [.str (Str.ofString "not"), a]) ∨ ∃ s a b, d = .tup [.str s, a, b] ∧ s ∈ [Str.ofString "is", Str.ofString "below", Str.ofString "like", Str.ofString "and", Str.ofString "or"] := by
  unfold formB at h
  split at h
  · rename_i s r
    unfold lenOf at h
    cases q : lookT kvs_LENGTHS s with
    | none => rw [q] at h; cases h
    | some x =>
      have := lookT_mem q
      rw [q] at h
      unfold kvs_LENGTHS at this
      simp only [List.mem_cons, List.not_mem_nil, or_false, Prod.mk.injEq] at this
      have two : ∀ i : Nat, r.length + 1 = i → i = 2 → ∃ a, r = [a] := fun i e1 e2 => by
        match r, e1 with
        | [a], _ => exact ⟨a, rfl⟩
        | [], e1 => simp at e1; omega
        | _ :: _ :: _, e1 => simp at e1; omega
      have three : ∀ i : Nat, r.length + 1 = i → i = 3 → ∃ a b, r = [a, b] := fun i e1 e2 => by
        match r, e1 with
        | [a, b], _ => exact ⟨a, b, rfl⟩
        | [], e1 => simp at e1; omega
        | [_], e1 => simp at e1; omega
        | _ :: _ :: _ :: _, e1 => simp at e1; omega
      rcases this with ⟨rfl, rfl⟩ | ⟨rfl, rfl⟩ | ⟨rfl, rfl⟩ | ⟨rfl, rfl⟩ | ⟨rfl, rfl⟩ | ⟨rfl, rfl⟩
      all_goals simp only [Option.getD_some, decide_eq_true_eq] at h
      · obtain ⟨a, b, rfl⟩ := three _ rfl (by omega); exact .inr ⟨_, a, b, rfl, by simp⟩
      · obtain ⟨a, b, rfl⟩ := three _ rfl (by omega); exact .inr ⟨_, a, b, rfl, by simp⟩
      · obtain ⟨a, b, rfl⟩ := three _ rfl (by omega); exact .inr ⟨_, a, b, rfl, by simp⟩
      · obtain ⟨a, rfl⟩ := two _ rfl (by omega); exact .inl ⟨a, rfl⟩
      · obtain ⟨a, b, rfl⟩ := three _ rfl (by omega); exact .inr ⟨_, a, b, rfl, by simp⟩
      · obtain ⟨a, b, rfl⟩ := three _ rfl (by omega); exact .inr ⟨_, a, b, rfl, by simp⟩
  · cases h
theorem len_is : lenOf (Str.ofString "is") = .int 3 := by rfl
theorem len_below : lenOf (Str.ofString "below") = .int 3 := by rfl
theorem len_like : lenOf (Str.ofString "like") = .int 3 := by rfl
theorem len_not : lenOf (Str.ofString "not") = .int 2 := by rfl
theorem len_and : lenOf (Str.ofString "and") = .int 3 := by rfl
theorem len_or : lenOf (Str.ofString "or") = .int 3 := by rfl
theorem form2 (w : Str) (a : D) : formB (.tup [.str w, a]) = (match lenOf w with | .int i => decide (i = 2) | _ => false) := rfl
theorem form3 (w : Str) (a b : D) : formB (.tup [.str w, a, b]) = (match lenOf w with | .int i => decide (i = 3) | _ => false) := rfl
theorem chk_form {cs : Cols} {n : Nat} {d : D} (h : formB d = false) : chkB cs n d = false := by
  cases n with
  | zero => rfl
  | succ n =>
    unfold chkB
    split
    · rfl
    · rename_i w a _
      by_cases e : w = Str.ofString "not"
      · subst e
        rw [form2, len_not] at h
        cases h
      · simp [e]
    · rename_i w a b _
      have nn : ∀ x ∈ [Str.ofString "is", Str.ofString "below", Str.ofString "like", Str.ofString "and", Str.ofString "or"], w ≠ x := fun x hx e => by
        subst e
        rw [form3] at h
        simp only [List.mem_cons, List.not_mem_nil, or_false] at hx
        rcases hx with rfl | rfl | rfl | rfl | rfl
        · rw [len_is] at h; cases h
        · rw [len_below] at h; cases h
        · rw [len_like] at h; cases h
        · rw [len_and] at h; cases h
        · rw [len_or] at h; cases h
      rw [if_neg (by rintro (e | e) <;> exact nn _ (by simp) e)]
      cases kindOf cs a with
      | none => rfl
      | some kd => simp only [nn _ (show Str.ofString "is" ∈ _ by simp), nn _ (show Str.ofString "below" ∈ _ by simp), nn _ (show Str.ofString "like" ∈ _ by simp), if_false]
    · rfl
def F_is_check (n : Nat) : FD := fun ds M k => ∃ cs d, ds = [colsD cs, d] ∧ CsOk cs ∧ okR M d ∧ far d ≤ n ∧ k (.bl (chkB cs n d)) M
theorem far_tupL {ds : List D} {n : Nat} (h : far (.tup ds) ≤ n + 1) : ∀ d ∈ ds, far d ≤ n := fun d hd => by
  rw [far_tup] at h
  exact fars_le.mp (by omega) d hd
theorem bools_mapB (p : D → Bool) : ∀ l : List D, boolsD (l.map fun d => .bl (p d)) = some (l.map p)
  | [] => rfl
  | d :: l => by rw [List.map_cons]; unfold boolsD; rw [bools_mapB p l]; rfl
theorem r_allL {M : Mem} {k : KD} {l : List D} {p : D → Bool} (hk : k (.bl (l.all p)) M) : rdAll [.lst (l.map fun d => .bl (p d))] M k := by
  unfold rdAll asR
  simp only [bools_mapB]
  have : (l.map p).all id = l.all p := by rw [List.all_map]; rfl
  rw [this]; exact hk
theorem chk_step (T : Txt K mg) (B : DD K mg) (TW : TxtW K w mg B) {n L : Nat} (hL : 3 ≤ L) (G_is_check : DFn P w K mg base L B.f_is_check B.fd_is_check p_is_check (fun ds M k => ∃ m, n = m + 1 ∧ F_is_check m ds M k)) : DFn P w K mg base (L + 1) B.f_is_check B.fd_is_check p_is_check (F_is_check n) := by
  have G_has_form : DFn P w K mg base 2 B.f_has_form B.fd_has_form p_has_form F_has_form := ok_has_form T B TW
  have G_kind_of : DFn P w K mg base 3 B.f_kind_of B.fd_kind_of p_kind_of F_kind_of := ok_kind_of T B
  have G_fits : DFn P w K mg base 3 B.f_fits B.fd_fits p_fits F_fits := ok_fits T B.d_is_whole B.d_is_number B.d_is_name B.d_fits
  have G_is_number : DFn P w K mg base 2 B.f_is_number B.fd_is_number p_is_number F_is_number := ok_is_number T B.d_is_whole B.d_is_number
  refine Fun.okD (k := L) B.d_is_check.F sc_is_check (fun cdv A outer s H E hr => (dss_cons (ds_if (dt_not (dt_val (de_own B.d_has_form G_has_form hr (by first | decide | omega) (da_cons (dv 1) da_nil)))) (dss_one (ds_ret de_bl)) dss_nil) (dss_cons (ds_set (i := 2) sc_is_check.nd (de_ix (dv 1) de_int)) (dss_cons (ds_if (dt_cmpA c_in (dv 2) (de_tup (da_cons de_str (da_cons de_str (da_cons de_str da_nil))))) (dss_one (ds_ret (de_all rfl T.b_all (de_lc rfl sc_is_check.nd (di_tup (de_slice (dv 1) (do_some de_int) do_none)) (blkOk_by (own := [("part", 3)]) (N := N_is_check) (sc := defScope s_is_check) (by decide +kernel)) (fun _ _ _ _ _ => (dg_name (i := 3) sc_is_check.nd)) gd_name (fun _ _ _ _ _ => dts_nil) (fun _ _ _ _ _ => (de_own B.d_is_check G_is_check hr (by first | decide | omega) (da_cons (dv 0) (da_cons (dv 3) da_nil)))))))) dss_nil) (dss_cons (ds_set (i := 4) sc_is_check.nd (de_own B.d_kind_of G_kind_of hr (by first | decide | omega) (da_cons (dv 0) (da_cons (de_ix (dv 1) de_int) da_nil)))) (dss_cons (ds_if (dt_cmpA c_is (dv 4) de_non) (dss_one (ds_ret de_bl)) dss_nil) (dss_cons (ds_if (dt_cmpA (c_eq hr) (dv 2) de_str) (dss_one (ds_ret (de_own B.d_fits G_fits hr (by first | decide | omega) (da_cons (dv 4) (da_cons (de_ix (dv 1) de_int) da_nil))))) dss_nil) (dss_cons (ds_if (dt_cmpA (c_eq hr) (dv 2) de_str) (dss_one (ds_ret (de_and (de_cmpA (c_eq hr) (dv 4) de_str) (de_one (de_own B.d_is_number G_is_number hr (by first | decide | omega) (da_cons (de_ix (dv 1) de_int) da_nil)))))) dss_nil) (dss_one (ds_ret (de_cmpA (c_eq hr) (de_own B.d_kind_of G_kind_of hr (by first | decide | omega) (da_cons (dv 0) (da_cons (de_ix (dv 1) de_int) da_nil))) (dv 4)))))))))))) (fun ds M k h => ?_)
  obtain ⟨cs, d, rfl, hcs, hd, hf, hk⟩ := h
  (refine ⟨rfl, ?_⟩; rw [show startD N_is_check [colsD cs, d] = [some (colsD cs), some (d), none, none, none] from rfl])
  simp only [wNext, wSeq, wBreak, wContinue, wExpr, wRet, wRetN, wIfS, wSet, wAsg, wPar, wPar3, wFor, wSub, wTst, wOp, wChain, wNotT, wAndT, wOrT, wAndV, wOrV, wNotV, wIf, wNil, wCons, wTup, wLst, wLstM, wCall, wCall0, wVar, wC, wLc, wLcM, wYes, wiL, wiT, wiS, wiR, wiEnT, wiEnL, wiZip, wSl, woNone, woSome, wMt, wJoin, wGet, wUn, wTru, wDNew, fin, List.getElem?_cons_zero, List.getElem?_cons_succ, List.set_cons_zero, List.set_cons_succ]
  refine ⟨d, rfl, hd, ?_⟩
  cases q : formB d with
  | false =>
    rw [chk_form q] at hk
    exact tt hk
  | true =>
    refine ff ?_
    have inw : D.tup [D.str (Str.ofString "not"), .str (Str.ofString "and"), .str (Str.ofString "or")] = .tup ([Str.ofString "not", Str.ofString "and", Str.ofString "or"].map D.str)   := rfl
    rcases form_cases q with ⟨a, rfl⟩ | ⟨s, a, b, rfl, hs⟩
    · unfold okR at hd
      obtain ⟨m, rfl⟩ : ∃ m, n = m + 1 := ⟨n - 1, by rw [far_tup] at hf; omega⟩
      have hfa := far_tupL hf
      refine ix_tup (at0 _ _) ⟨(show 3 ≤ sizeLine by decide), ?_⟩
      rw [inw]
      refine r_inS (tt' (by simp) ?_)
      refine r_slT ?_
      rw [show cutD [D.str (Str.ofString "not"), a] (some 1) none = [a] from rfl]
      refine lc_map (fun d => .bl (chkB cs m d)) (G := gAny) (M := M) trivial _ _ _ (fun d hm => ⟨_, rfl, fun k' hk' => ?_⟩) (z1 (by simp)) ?_
      · obtain rfl := List.mem_singleton.mp hm
        exact ⟨m, rfl, cs, d, rfl, hcs, okRs_mem hd.2 (by simp), hfa _ (by simp), hk'⟩
      · refine r_allL (l := [a]) ?_
        unfold chkB at hk
        simpa using hk
    · have hd' := hd
      unfold okR at hd
      have ha : okR M a := okRs_mem hd.2 (by simp)
      have hb : okR M b := okRs_mem hd.2 (by simp)
      refine ix_tup (at0 _ _) ⟨(show 3 ≤ sizeLine by decide), ?_⟩
      rw [inw]
      by_cases c1 : s = Str.ofString "and" ∨ s = Str.ofString "or"
      · obtain ⟨m, rfl⟩ : ∃ m, n = m + 1 := ⟨n - 1, by rw [far_tup] at hf; omega⟩
        have hfa := far_tupL hf
        refine r_inS (tt' (by rcases c1 with rfl | rfl <;> simp) ?_)
        refine r_slT ?_
        rw [show cutD [D.str s, a, b] (some 1) none = [a, b] from rfl]
        refine lc_map (fun d => .bl (chkB cs m d)) (G := gAny) (M := M) trivial _ _ _ (fun d hm => ⟨_, rfl, fun k' hk' => ?_⟩) (z1 (by simp)) ?_
        · simp only [List.mem_cons, List.not_mem_nil, or_false] at hm
          rcases hm with rfl | rfl
          · exact ⟨m, rfl, cs, d, rfl, hcs, ha, hfa _ (by simp), hk'⟩
          · exact ⟨m, rfl, cs, d, rfl, hcs, hb, hfa _ (by simp), hk'⟩
        · refine r_allL (l := [a, b]) ?_
          unfold chkB at hk
          rw [if_pos c1] at hk
          simpa using hk
      · obtain ⟨m, rfl⟩ : ∃ m, n = m + 1 := ⟨n - 1, by rw [far_tup] at hf; omega⟩
        have c0 : s ∈ [Str.ofString "is", Str.ofString "below", Str.ofString "like"] := by
          simp only [List.mem_cons, List.not_mem_nil, or_false] at hs ⊢
          rcases hs with h | h | h | h | h
          · exact .inl h
          · exact .inr (.inl h)
          · exact .inr (.inr h)
          · exact absurd (.inl h) c1
          · exact absurd (.inr h) c1
        have ns : ¬ s ∈ [Str.ofString "not", Str.ofString "and", Str.ofString "or"] := by
          simp only [List.mem_cons, List.not_mem_nil, or_false] at c0
          rcases c0 with rfl | rfl | rfl <;> decide +kernel
        refine r_inS (ff' (by rw [decide_eq_false ns]; rfl) ?_)
        unfold chkB at hk
        rw [if_neg c1] at hk
        refine ix_tup (at1 _ _ _) ⟨cs, a, rfl, ha, ?_⟩
        unfold kindD
        cases q2 : kindOf cs a with
        | none =>
          rw [q2] at hk
          exact r_isN (tt hk)
        | some kd =>
          rw [q2] at hk
          have hkd := kindOf_kd hcs.kd q2
          refine r_isS (ff (eq_strA ?_))
          simp only at hk
          by_cases w1 : s = Str.ofString "is"
          · rw [if_pos w1] at hk
            refine tt' (decide_eq_true w1) (ix_tup (at2 _ _ _ _) ⟨kd, b, rfl, ok_kd hkd, hb, hk⟩)
          · rw [if_neg w1] at hk
            refine ff' (decide_eq_false w1) (eq_strA ?_)
            by_cases w2 : s = Str.ofString "below"
            · rw [if_pos w2] at hk
              refine tt' (decide_eq_true w2) (eq_strA ?_)
              by_cases w4 : kd = Str.ofString "number"
              · simp only [w4, decide_true, Bool.true_and, id] at hk ⊢
                exact ix_tup (at2 _ _ _ _) ⟨b, rfl, hb, hk⟩
              · simp only [w4, decide_false, Bool.false_and, id] at hk ⊢
                exact hk
            · rw [if_neg w2] at hk
              have w3 : s = Str.ofString "like" := by
                simp only [List.mem_cons, List.not_mem_nil, or_false] at c0
                rcases c0 with h | h | h
                · exact absurd h w1
                · exact absurd h w2
                · exact h
              rw [if_pos w3] at hk
              refine ff' (decide_eq_false w2) (ix_tup (at2 _ _ _ _) ⟨cs, b, rfl, hb, ?_⟩)
              unfold kindD
              cases q3 : kindOf cs b with
              | none =>
                rw [q3] at hk
                refine eq_flat .non (.str kd (ok_kd hkd)) ?_
                exact hk
              | some kd2 =>
                rw [q3] at hk
                refine eq_strA ?_
                simpa using hk
theorem ok_is_check (T : Txt K mg) (B : DD K mg) (TW : TxtW K w mg B) : ∀ n, DFn P w K mg base (4 + n) B.f_is_check B.fd_is_check p_is_check (F_is_check n)
  | 0 => chk_step T B TW (L := 3) (Nat.le_refl 3) (DFn.weak DFn.none fun ds M k ⟨m, e, _⟩ => by cases e)
  | n + 1 => by
    have := chk_step T B TW (n := n + 1) (L := 4 + n) (by omega) (DFn.weak (ok_is_check T B TW n) fun ds M k ⟨m, e, h⟩ => by
      cases e
      exact h)
    exact this
end
end K04

set_option autoImplicit false
set_option maxRecDepth 100000
set_option maxHeartbeats 4000000
namespace K04
open PySem L2 DL
/-! isinstance of a value that anything may be -/
def isBl : D → Bool
  | .bl _ => true
  | _ => false
theorem isi_of {M : Mem} {d : D} {k : KD} {T : String} (b : Bool) (h : okR M d) (hT : ["bool", "int", "str", "tuple"].contains T = true) (e : ∀ t, tyD M d = some t → isiB t T = b) (hk : k (.bl b) M) : rdIsiA [d, .ty T] M k := by
  obtain ⟨t, q, _⟩ := okR_ty h
  refine r_isi q hT (fun l z => ?_) ?_
  · subst z; unfold okR at h; exact h
  · rw [e t q]; exact hk
theorem cel_ty {M : Mem} {a : Addr} {t : String} (q : tyD M (.cel a) = some t) : t = "list" ∨ t = "dict" := by
  unfold tyD at q
  simp only at q
  split at q <;> cases q <;> simp
theorem isi_int {M : Mem} {d : D} {k : KD} (h : okR M d) (hk : k (.bl (isInt d || isBl d)) M) : rdIsiA [d, .ty "int"] M k := by
  refine isi_of _ h (by decide) (fun t q => ?_) hk
  cases d with
  | cel a => rcases cel_ty q with e | e <;> (subst e; rfl)
  | scr _ => unfold okR at h; exact h.elim
  | ty _ => unfold okR at h; exact h.elim
  | ftp _ => unfold okR at h; exact h.elim
  | _ => cases q; rfl
theorem isi_bool {M : Mem} {d : D} {k : KD} (h : okR M d) (hk : k (.bl (isBl d)) M) : rdIsiA [d, .ty "bool"] M k := by
  refine isi_of _ h (by decide) (fun t q => ?_) hk
  cases d with
  | cel a => rcases cel_ty q with e | e <;> (subst e; rfl)
  | scr _ => unfold okR at h; exact h.elim
  | ty _ => unfold okR at h; exact h.elim
  | ftp _ => unfold okR at h; exact h.elim
  | _ => cases q; rfl
theorem isi_str {M : Mem} {d : D} {k : KD} (h : okR M d) (hk : k (.bl (isStr d)) M) : rdIsiA [d, .ty "str"] M k := by
  refine isi_of _ h (by decide) (fun t q => ?_) hk
  cases d with
  | cel a => rcases cel_ty q with e | e <;> (subst e; rfl)
  | scr _ => unfold okR at h; exact h.elim
  | ty _ => unfold okR at h; exact h.elim
  | ftp _ => unfold okR at h; exact h.elim
  | _ => cases q; rfl
theorem isi_tup {M : Mem} {d : D} {k : KD} (h : okR M d) (hk : k (.bl (isTup d)) M) : rdIsiA [d, .ty "tuple"] M k := by
  refine isi_of _ h (by decide) (fun t q => ?_) hk
  cases d with
  | cel a => rcases cel_ty q with e | e <;> (subst e; rfl)
  | scr _ => unfold okR at h; exact h.elim
  | ty _ => unfold okR at h; exact h.elim
  | ftp _ => unfold okR at h; exact h.elim
  | _ => cases q; rfl
section
variable {P : Program} {w : World} {K : PySem.W.Frag} {mg : Str → Option Value} {base : Heap}
end
end K04

set_option autoImplicit false
set_option maxRecDepth 100000
set_option maxHeartbeats 4000000
namespace K04
open PySem L2 DL
section
variable {P : Program} {w : World} {K : PySem.W.Frag} {mg : Str → Option Value} {base : Heap}
theorem in_non {ps : List D} (h : ∀ d ∈ ps, d = .non ∨ ∃ i, d = .int i) : ∃ vs, flatsD ps = some vs ∧ inV .non vs = ps.any isNon := by
  induction ps with
  | nil => exact ⟨[], rfl, rfl⟩
  | cons d r ih =>
    obtain ⟨vs, e1, e2⟩ := ih fun x hx => h x (List.mem_cons_of_mem _ hx)
    unfold inV at e2
    rcases h d List.mem_cons_self with rfl | ⟨i, rfl⟩
    · exact ⟨V.non :: vs, by unfold flatsD; rw [e1]; rfl, rfl⟩
    · refine ⟨V.int i :: vs, by unfold flatsD; rw [e1]; rfl, ?_⟩
      unfold inV
      rw [List.any_cons, List.any_cons, e2]
      rfl
theorem r_inNon {M : Mem} {k : KD} {f : Bool → Bool} {ps : List D} (h : ∀ d ∈ ps, d = .non ∨ ∃ i, d = .int i) (hk : k (.bl (f (ps.any isNon))) M) : rdIn f .non (.lst ps) M k := by
  obtain ⟨vs, e1, e2⟩ := in_non h
  unfold rdIn seqD asR
  simp only [flatD, e1, e2]
  exact hk
def F_places_of : FD := fun ds M k => ∃ (l : List (Str × D)) (xs : List D), ds = [.tup (l.map pr), .tup xs] ∧ xs.length ≤ 1000 ∧ (∀ x ∈ xs, okR M x) ∧ k (.lst (xs.map (placeD l))) M
theorem ok_places_of (T : Txt K mg) (B : DD K mg) : DFn P w K mg base 3 B.f_places_of B.fd_places_of p_places_of F_places_of := by
  have G_place_of : DFn P w K mg base 2 B.f_place_of B.fd_place_of p_place_of F_place_of := ok_place_of T B
  refine Fun.okD B.d_places_of.F sc_places_of (fun cdv A outer s H E hr => (dss_one (ds_ret (de_lc rfl sc_places_of.nd (di_tup (dv 1)) (blkOk_by (own := [("name", 2)]) (N := N_places_of) (sc := defScope s_places_of) (by decide +kernel)) (fun _ _ _ _ _ => (dg_name (i := 2) sc_places_of.nd)) gd_name (fun _ _ _ _ _ => dts_nil) (fun _ _ _ _ _ => (de_own B.d_place_of G_place_of hr (by first | decide | omega) (da_cons (dv 0) (da_cons (dv 2) da_nil)))))))) (fun ds M k h => ?_)
  obtain ⟨l, xs, rfl, hl, hx, hk⟩ := h
  (refine ⟨rfl, ?_⟩; rw [show startD N_places_of [.tup (l.map pr), .tup xs] = [some (.tup (l.map pr)), some (.tup xs), none] from rfl])
  simp only [wNext, wSeq, wBreak, wContinue, wExpr, wRet, wRetN, wIfS, wSet, wAsg, wPar, wPar3, wFor, wSub, wTst, wOp, wChain, wNotT, wAndT, wOrT, wAndV, wOrV, wNotV, wIf, wNil, wCons, wTup, wLst, wLstM, wCall, wCall0, wVar, wC, wLc, wLcM, wYes, wiL, wiT, wiS, wiR, wiEnT, wiEnL, wiZip, wSl, woNone, woSome, wMt, wJoin, wGet, wUn, wTru, wDNew, fin, List.getElem?_cons_zero, List.getElem?_cons_succ, List.set_cons_zero, List.set_cons_succ]
  exact lc_map (placeD l) (G := gAny) (M := M) trivial _ _ _ (fun d hd => ⟨_, rfl, fun k' hk' => ⟨l, d, rfl, hx d hd, hk'⟩⟩) (z1 (by simp; omega)) hk
end
end K04

set_option autoImplicit false
set_option maxRecDepth 100000
set_option maxHeartbeats 4000000
namespace K04
open PySem L2 DL
/-! what is a right -/
theorem toPs_ints (M : Mem) : ∀ l : List Int, toPs M (l.map D.int) = some (l.map PyData.int)
  | [] => rfl
  | s :: l => by rw [List.map_cons]; unfold toPs toP; rw [toPs_ints M l]; rfl
theorem eqv_ints : ∀ l m : List Int, PyData.eqvAll (l.map .int) (m.map .int) = decide (l = m)
  | [], [] => by unfold PyData.eqvAll; rfl
  | [], _ :: _ => by rw [List.map_nil, List.map_cons]; unfold PyData.eqvAll; simp
  | _ :: _, [] => by rw [List.map_nil, List.map_cons]; unfold PyData.eqvAll; simp
  | a :: l, b :: m => by
    rw [List.map_cons, List.map_cons]
    unfold PyData.eqvAll
    rw [eqv_ints l m]
    unfold PyData.eqv
    rw [Bool.eq_iff_iff]
    simp
theorem shaped_ints (l : List Int) : SeqAt.shaped (.list (l.map PyData.int)) = true := by
  have c : PyData.canLayAll0 (l.map PyData.int) = true ∧ PyData.depthAll (l.map PyData.int) = 0 := by
    induction l with
    | nil => exact ⟨by unfold PyData.canLayAll0; rfl, by unfold PyData.depthAll; rfl⟩
    | cons a l ih =>
      rw [List.map_cons]
      unfold PyData.canLayAll0 PyData.depthAll
      rw [ih.1, ih.2]
      exact ⟨by unfold PyData.canLay0; rfl, by unfold PyData.depth; rfl⟩
  unfold SeqAt.shaped PyData.canLay0 PyData.depth
  rw [c.1, c.2]; rfl
theorem eq_ints {f : Bool → Bool} {l m : List Int} {M : Mem} {k : KD} (hk : k (.bl (f (decide (l = m)))) M) : rdEq f (.lst (l.map D.int)) (.lst (m.map D.int)) M k := by
  have tp : ∀ l : List Int, toPC M (.lst (l.map D.int)) = some (.list (l.map PyData.int)) := fun l => by
    show toP M (.lst _) = _
    unfold toP; rw [toPs_ints]
  show rdEqP f (.lst (l.map D.int)) (.lst (m.map D.int)) M k
  unfold rdEqP
  rw [tp, tp]
  refine ⟨shaped_ints l, shaped_ints m, ?_⟩
  have : PyData.eqv (.list (l.map .int)) (.list (m.map .int)) = decide (l = m) := by unfold PyData.eqv; exact eqv_ints l m
  rw [this]; exact hk
theorem ints_of (l : List Int) : intsD (l.map D.int) = some l := by
  induction l with
  | nil => rfl
  | cons i l ih => rw [List.map_cons]; unfold intsD; rw [ih]; rfl
theorem rise_uni : ∀ {l m : List Int}, l.Pairwise (· < ·) → m.Pairwise (· < ·) → (∀ i, i ∈ m ↔ i ∈ l) → l = m
  | [], [], _, _, _ => rfl
  | [], b :: m, _, _, h => absurd ((h b).mp List.mem_cons_self) (by simp)
  | a :: l, [], _, _, h => absurd ((h a).mpr List.mem_cons_self) (by simp)
  | a :: l, b :: m, hl, hm, h => by
    obtain ⟨l1, l2⟩ := List.pairwise_cons.mp hl
    obtain ⟨m1, m2⟩ := List.pairwise_cons.mp hm
    have e : a = b := by
      rcases List.mem_cons.mp ((h a).mpr List.mem_cons_self) with e | ha
      · exact e
      rcases List.mem_cons.mp ((h b).mp List.mem_cons_self) with e | hb
      · exact e.symm
      have := m1 a ha
      have := l1 b hb
      omega
    subst e
    refine congrArg _ (rise_uni l2 m2 fun i => ⟨fun hi => ?_, fun hi => ?_⟩)
    · rcases List.mem_cons.mp ((h i).mp (List.mem_cons_of_mem _ hi)) with e | q
      · subst e; have := m1 _ hi; omega
      · exact q
    · rcases List.mem_cons.mp ((h i).mpr (List.mem_cons_of_mem _ hi)) with e | q
      · subst e; have := l1 _ hi; omega
      · exact q
/-- l == sorted(set(l)) -/
theorem r_rises {l : List Int} {M : Mem} {k : KD} (hl : l.length < 64) (hk : k (.bl (decide (l.Pairwise (· < ·)))) M) : rdSortSetI [.lst (l.map D.int)] M fun d M1 => rdEq id (.lst (l.map D.int)) d M1 k := by
  unfold rdSortSetI asR
  simp only [ints_of]
  refine ⟨hl, fun ys h1 h2 => eq_ints ?_⟩
  have e : decide (l = ys) = decide (l.Pairwise (· < ·)) := by
    rw [decide_eq_decide]
    exact ⟨fun e => e ▸ h1, fun h => rise_uni h h1 h2⟩
  rw [e]
  exact hk
theorem place_at (l : List (Str × D)) (x : D) : placeD l x = .non ∨ ∃ (i : Nat) (p : Str × D), placeD l x = .int i ∧ l[i]? = some p ∧ x = .str p.1 := by
  cases x with
  | str s =>
    by_cases n : isNm s = true
    · cases q : findP l s with
      | none => exact .inl (by simp only [placeD, if_pos n, q])
      | some i =>
        have q2 := q
        unfold findP at q2
        obtain ⟨h, h1, _⟩ := List.findIdx?_eq_some_iff_getElem.mp q2
        exact .inr ⟨i, l[i], by simp only [placeD, if_pos n, q], List.getElem?_eq_getElem h, by rw [of_decide_eq_true h1]⟩
    · exact .inl (by simp only [placeD, if_neg n])
  | _ => exact .inl rfl
def plD (ts : List (Str × Cols)) : List (Str × D) := ts.map fun t => (t.1, colsD t.2)
theorem plan_pr (ts : List (Str × Cols)) : D.tup (ts.map tabD) = .tup ((plD ts).map pr) := by
  unfold plD
  rw [List.map_map]; rfl
def intOf : D → Int
  | .int i => i
  | _ => 0
def isIn : D → Bool
  | .int _ => true
  | _ => false
theorem any_non : ∀ {l : List D}, (∀ d ∈ l, d = .non ∨ ∃ i, d = .int i) → l.any isNon = !l.all isIn
  | [], _ => rfl
  | d :: l, h => by
    rw [List.any_cons, List.all_cons, any_non fun x hx => h x (List.mem_cons_of_mem _ hx)]
    rcases h d List.mem_cons_self with rfl | ⟨i, rfl⟩
    · rfl
    · show (false || !l.all isIn) = !(true && l.all isIn)
      simp
/-- the columns that are named: all there, in the columns' order -/
def seeB (cs : Cols) (xs : List D) : Bool := xs.all (fun x => isIn (placeD (lst cs) x)) && decide ((xs.map fun x => intOf (placeD (lst cs) x)).Pairwise (· < ·))
def rightOf (cs : Cols) : D → Bool
  | .non => true
  | .tup [c, .tup xs] => (isNon c || chkB cs 40 c) && seeB cs xs
  | _ => false
def rightB (ts : List (Str × Cols)) (tb d : D) : Bool := match placeD (plD ts) tb with
  | .int i => (match ts[i.toNat]? with | some t => rightOf t.2 d | none => false)
  | _ => false
section
variable {P : Program} {w : World} {K : PySem.W.Frag} {mg : Str → Option Value} {base : Heap}
def F_is_right : FD := fun ds M k => ∃ ts tb d, ds = [.tup (ts.map tabD), tb, d] ∧ PlanN ts ∧ okR M tb ∧ okR M d ∧ far d ≤ 40 ∧ (∀ c xs, d = .tup [c, .tup xs] → xs.length < 64) ∧ k (.bl (rightB ts tb d)) M
theorem ok_is_right (T : Txt K mg) (B : DD K mg) (TW : TxtW K w mg B) : DFn P w K mg base 50 B.f_is_right B.fd_is_right p_is_right F_is_right := by
  have G_place_of : DFn P w K mg base 2 B.f_place_of B.fd_place_of p_place_of F_place_of := ok_place_of T B
  have G_places_of : DFn P w K mg base 3 B.f_places_of B.fd_places_of p_places_of F_places_of := ok_places_of T B
  have G_is_check : DFn P w K mg base 44 B.f_is_check B.fd_is_check p_is_check (F_is_check 40) := ok_is_check T B TW 40
  refine Fun.okD B.d_is_right.F sc_is_right (fun cdv A outer s H E hr => (dss_cons (ds_set (i := 3) sc_is_right.nd (de_own B.d_place_of G_place_of hr (by first | decide | omega) (da_cons (dv 0) (da_cons (dv 1) da_nil)))) (dss_cons (ds_if (dt_cmpA c_is (dv 3) de_non) (dss_one (ds_ret de_bl)) dss_nil) (dss_cons (ds_if (dt_cmpA c_is (dv 2) de_non) (dss_one (ds_ret de_bl)) dss_nil) (dss_cons (ds_if (dw_pt (dw_or (dt_cmpA c_isn (de_type T.b_type (dv 2)) (de_ty (n := "tuple") T.b_tuple (by decide +kernel))) (dw_or1 (dt_cmpA (c_ne hr) (de_len T.b_len (dv 2)) de_int)))) (dss_one (ds_ret de_bl)) dss_nil) (dss_cons (ds_asg (dg_tup rfl (dgs_cons (dg_name (i := 4) sc_is_right.nd) (dgs_cons (dg_name (i := 5) sc_is_right.nd) dgs_nil)) (gsCons_len (gsCons_len gsNil_len))) (dv 2)) (dss_cons (ds_set (i := 6) sc_is_right.nd (de_ix (de_ix (dv 0) (dv 3)) de_int)) (dss_cons (ds_if (dw_pt (dw_and (dt_cmpA c_isn (dv 4) de_non) (dw_and1 (dt_not (dt_val (de_own B.d_is_check G_is_check hr (by first | decide | omega) (da_cons (dv 6) (da_cons (dv 4) da_nil)))))))) (dss_one (ds_ret de_bl)) dss_nil) (dss_cons (ds_if (dt_cmpA c_isn (de_type T.b_type (dv 5)) (de_ty (n := "tuple") T.b_tuple (by decide +kernel))) (dss_one (ds_ret de_bl)) dss_nil) (dss_cons (ds_set (i := 7) sc_is_right.nd (de_own B.d_places_of G_places_of hr (by first | decide | omega) (da_cons (dv 6) (da_cons (dv 5) da_nil)))) (dss_one (ds_ret (de_and (de_cmpA c_nin de_non (dv 7)) (de_one (de_cmpA (c_eq hr) (dv 7) (de_sortSetI rfl T.b_sorted T.b_set (dv 7))))))))))))))))) (fun ds M k h => ?_)
  obtain ⟨ts, tb, d, rfl, okp, ot, od, fd, x64, hk⟩ := h
  (refine ⟨rfl, ?_⟩; rw [show startD N_is_right [.tup (ts.map tabD), tb, d] = [some (.tup (ts.map tabD)), some (tb), some (d), none, none, none, none, none] from rfl])
  have hz := sizeLine_eq
  refine seq_step ?_
  try simp only [wNext, wBreak, wContinue, wExpr, wRet, wRetN, wSet, wAsg, wPar, wPar3, wSub, wTst, wOp, wChain, wNotT, wAndV, wOrV, wNotV, wIf, wNil, wCons, wTup, wLst, wLstM, wCall, wCall0, wVar, wC, wLc, wLcM, wYes, wiL, wiT, wiS, wiR, wiEnT, wiEnL, wiZip, wSl, woNone, woSome, wMt, wJoin, wGet, wUn, wTru, wDNew, fin, List.getElem?_cons_zero, List.getElem?_cons_succ, List.set_cons_zero, List.set_cons_succ]
  rw [plan_pr]
  refine ⟨plD ts, tb, rfl, ot, ?_⟩
  rw [← plan_pr]
  rcases place_at (plD ts) tb with e | ⟨i, p, e, hi, ex⟩
  · have hr : rightB ts tb d = false := by unfold rightB; rw [e]
    rw [hr] at hk
    rw [e]
    refine seq_step ?_
    try unfold wIfS
    try simp only [wNext, wBreak, wContinue, wExpr, wRet, wRetN, wSet, wAsg, wPar, wPar3, wSub, wTst, wOp, wChain, wNotT, wAndV, wOrV, wNotV, wIf, wNil, wCons, wTup, wLst, wLstM, wCall, wCall0, wVar, wC, wLc, wLcM, wYes, wiL, wiT, wiS, wiR, wiEnT, wiEnL, wiZip, wSl, woNone, woSome, wMt, wJoin, wGet, wUn, wTru, wDNew, fin, List.getElem?_cons_zero, List.getElem?_cons_succ, List.set_cons_zero, List.set_cons_succ]
    exact r_isN (tt hk)
  obtain ⟨t, ht, rfl⟩ : ∃ t, ts[i]? = some t ∧ p = (t.1, colsD t.2) := by
    unfold plD at hi
    rw [List.getElem?_map] at hi
    cases q : ts[i]? with
    | none => rw [q] at hi; cases hi
    | some t => rw [q] at hi; cases hi; exact ⟨t, rfl, rfl⟩
  have okc := okp.ok t (List.mem_of_getElem? ht)
  have hr : rightB ts tb d = rightOf t.2 d := by unfold rightB; rw [e]; dsimp only; rw [show ((i : Nat) : Int).toNat = i from rfl, ht]
  rw [hr] at hk
  rw [e]
  refine seq_step ?_
  try unfold wIfS
  try simp only [wNext, wBreak, wContinue, wExpr, wRet, wRetN, wSet, wAsg, wPar, wPar3, wSub, wTst, wOp, wChain, wNotT, wAndV, wOrV, wNotV, wIf, wNil, wCons, wTup, wLst, wLstM, wCall, wCall0, wVar, wC, wLc, wLcM, wYes, wiL, wiT, wiS, wiR, wiEnT, wiEnL, wiZip, wSl, woNone, woSome, wMt, wJoin, wGet, wUn, wTru, wDNew, fin, List.getElem?_cons_zero, List.getElem?_cons_succ, List.set_cons_zero, List.set_cons_succ]
  refine r_isI (ff ?_)
  refine seq_step ?_
  try unfold wIfS
  try simp only [wNext, wBreak, wContinue, wExpr, wRet, wRetN, wSet, wAsg, wPar, wPar3, wSub, wTst, wOp, wChain, wNotT, wAndV, wOrV, wNotV, wIf, wNil, wCons, wTup, wLst, wLstM, wCall, wCall0, wVar, wC, wLc, wLcM, wYes, wiL, wiT, wiS, wiR, wiEnT, wiEnL, wiZip, wSl, woNone, woSome, wMt, wJoin, wGet, wUn, wTru, wDNew, fin, List.getElem?_cons_zero, List.getElem?_cons_succ, List.set_cons_zero, List.set_cons_succ]
  refine isn_ok od (bb (fun q => ?_) (fun q => ?_))
  · cases d with
    | non => exact hk
    | _ => cases q
  refine seq_step ?_
  try unfold wIfS
  try unfold wOrT
  try simp only [wNext, wBreak, wContinue, wExpr, wRet, wRetN, wSet, wAsg, wPar, wPar3, wSub, wTst, wOp, wChain, wNotT, wAndV, wOrV, wNotV, wIf, wNil, wCons, wTup, wLst, wLstM, wCall, wCall0, wVar, wC, wLc, wLcM, wYes, wiL, wiT, wiS, wiR, wiEnT, wiEnL, wiZip, wSl, woNone, woSome, wMt, wJoin, wGet, wUn, wTru, wDNew, fin, List.getElem?_cons_zero, List.getElem?_cons_succ, List.set_cons_zero, List.set_cons_succ]
  refine ty_tup od ?_
  cases d with
  | tup ds =>
    refine ff (r_lenT (eq_int (bb (fun q => ?_) (fun q => ?_))))
    · have hr2 : rightOf t.2 (.tup ds) = false := by
        unfold rightOf
        split
        · rename_i e; cases e
        · rename_i e; cases e; simp at q
        · rfl
      rw [hr2] at hk
      exact hk
    obtain ⟨c, nm, rfl⟩ : ∃ c nm, ds = [c, nm] := by
      match ds, q with
      | [c, nm], _ => exact ⟨c, nm, rfl⟩
      | [], q => simp at q
      | [_], q => simp at q
      | _ :: _ :: _ :: _, q => simp at q; omega
    unfold okR at od
    have oc : okR M c := okRs_mem od.2 (by simp)
    have onm : okR M nm := okRs_mem od.2 (by simp)
    have fc : far c ≤ 40 := by
      unfold far fars at fd
      omega
    refine seq_step ?_
    simp only [gT, gsCons, gN, gsNil, wNext, wBreak, wContinue, wExpr, wRet, wRetN, wSet, wAsg, wPar, wPar3, wSub, wTst, wOp, wChain, wNotT, wAndV, wOrV, wNotV, wIf, wNil, wCons, wTup, wLst, wLstM, wCall, wCall0, wVar, wC, wLc, wLcM, wYes, wiL, wiT, wiS, wiR, wiEnT, wiEnL, wiZip, wSl, woNone, woSome, wMt, wJoin, wGet, wUn, wTru, wDNew, fin, List.getElem?_cons_zero, List.getElem?_cons_succ, List.set_cons_zero, List.set_cons_succ]
    have at_t : atI (ts.map tabD) (i : Int) = some (tabD t) := atI_nat (by rw [List.getElem?_map, ht]; rfl)
    refine seq_step ?_
    try simp only [wNext, wBreak, wContinue, wExpr, wRet, wRetN, wSet, wAsg, wPar, wPar3, wSub, wTst, wOp, wChain, wNotT, wAndV, wOrV, wNotV, wIf, wNil, wCons, wTup, wLst, wLstM, wCall, wCall0, wVar, wC, wLc, wLcM, wYes, wiL, wiT, wiS, wiR, wiEnT, wiEnL, wiZip, wSl, woNone, woSome, wMt, wJoin, wGet, wUn, wTru, wDNew, fin, List.getElem?_cons_zero, List.getElem?_cons_succ, List.set_cons_zero, List.set_cons_succ]
    refine ix_tup at_t (ix_tup (at1 _ _ _) ?_)
    refine seq_join (fun Γ' M' => Γ' = [some (.tup (ts.map tabD)), some tb, some (.tup [c, nm]), some (.int (i : Nat)), some c, some nm, some (colsD t.2), none] ∧ M' = M ∧ (isNon c || chkB t.2 40 c) = true) ?_ ?_
    rotate_left
    · intro nx hnx
      try unfold wAndT
      try simp only [wNext, wBreak, wContinue, wExpr, wRet, wRetN, wSet, wAsg, wPar, wPar3, wSub, wTst, wOp, wChain, wNotT, wAndV, wOrV, wNotV, wIf, wNil, wCons, wTup, wLst, wLstM, wCall, wCall0, wVar, wC, wLc, wLcM, wYes, wiL, wiT, wiS, wiR, wiEnT, wiEnL, wiZip, wSl, woNone, woSome, wMt, wJoin, wGet, wUn, wTru, wDNew, fin, List.getElem?_cons_zero, List.getElem?_cons_succ, List.set_cons_zero, List.set_cons_succ]
      refine isn_ok oc (bb (fun q2 => ?_) (fun q2 => ?_))
      · refine ⟨t.2, c, rfl, ⟨okc.nm, okc.kd, Nat.le_trans okc.le (by decide)⟩, oc, fc, ?_⟩
        have n0 : isNon c = false := by simpa using q2
        cases qc : chkB t.2 40 c with
        | true => exact ff (hnx _ _ ⟨rfl, rfl, by rw [n0, qc]; rfl⟩)
        | false =>
          have hr2 : rightOf t.2 (.tup [c, nm]) = false := by
            unfold rightOf
            split
            · rename_i e; cases e
            · rename_i e; cases e; rw [n0, qc]; rfl
            · rfl
          rw [hr2] at hk
          exact tt hk
      · have n0 : isNon c = true := by simpa using q2
        exact hnx _ _ ⟨rfl, rfl, by rw [n0]; rfl⟩
    rintro Γ1 M1 ⟨rfl, rfl, hc⟩
    refine seq_step ?_
    try simp only [wNext, wBreak, wContinue, wExpr, wRet, wRetN, wSet, wAsg, wPar, wPar3, wSub, wTst, wOp, wChain, wNotT, wAndV, wOrV, wNotV, wIf, wNil, wCons, wTup, wLst, wLstM, wCall, wCall0, wVar, wC, wLc, wLcM, wYes, wiL, wiT, wiS, wiR, wiEnT, wiEnL, wiZip, wSl, woNone, woSome, wMt, wJoin, wGet, wUn, wTru, wDNew, fin, List.getElem?_cons_zero, List.getElem?_cons_succ, List.set_cons_zero, List.set_cons_succ]
    refine ty_tup onm ?_
    cases nm with
    | tup xs =>
      refine ff ?_
      have hr2 : rightOf t.2 (.tup [c, .tup xs]) = seeB t.2 xs := by
        show ((isNon c || chkB t.2 40 c) && seeB t.2 xs) = _
        rw [hc, Bool.true_and]
      rw [hr2] at hk
      have xl := x64 c xs rfl
      unfold okR at onm
      refine seq_step ?_
      try simp only [wNext, wBreak, wContinue, wExpr, wRet, wRetN, wSet, wAsg, wPar, wPar3, wSub, wTst, wOp, wChain, wNotT, wAndV, wOrV, wNotV, wIf, wNil, wCons, wTup, wLst, wLstM, wCall, wCall0, wVar, wC, wLc, wLcM, wYes, wiL, wiT, wiS, wiR, wiEnT, wiEnL, wiZip, wSl, woNone, woSome, wMt, wJoin, wGet, wUn, wTru, wDNew, fin, List.getElem?_cons_zero, List.getElem?_cons_succ, List.set_cons_zero, List.set_cons_succ]
      refine ⟨lst t.2, xs, by rw [lst_pr], onm.1, fun x hx => okRs_mem onm.2 hx, ?_⟩
      have two : ∀ d ∈ xs.map (placeD (lst t.2)), d = .non ∨ ∃ i, d = .int i := fun d hd => by
        obtain ⟨x, _, rfl⟩ := List.mem_map.mp hd
        rcases place_kind t.2 x with ⟨h, _⟩ | ⟨i, _, h, _⟩
        · exact .inl h
        · exact .inr ⟨_, h⟩
      refine r_inNon two ?_
      have all1 : (xs.map (placeD (lst t.2))).any isNon = !xs.all (fun x => isIn (placeD (lst t.2) x)) := by
        rw [any_non two, List.all_map]; rfl
      cases q5 : xs.all (fun x => isIn (placeD (lst t.2) x)) with
      | false =>
        rw [all1, q5]
        have : seeB t.2 xs = false := by unfold seeB; rw [q5]; rfl
        rw [this] at hk
        exact hk
      | true =>
        rw [all1, q5]
        have e5 : seeB t.2 xs = decide ((xs.map fun x => intOf (placeD (lst t.2) x)).Pairwise (· < ·)) := by unfold seeB; rw [q5, Bool.true_and]
        rw [e5] at hk
        have e6 : xs.map (placeD (lst t.2)) = (xs.map fun x => intOf (placeD (lst t.2) x)).map D.int := by
          rw [List.map_map]
          refine List.map_congr_left fun x hx => ?_
          have := List.all_eq_true.mp q5 x hx
          rcases two _ (List.mem_map_of_mem hx) with h | ⟨i, h⟩
          · rw [h] at this; cases this
          · show placeD (lst t.2) x = .int (intOf (placeD (lst t.2) x))
            rw [h]; rfl
        rw [e6]
        exact r_rises (by rw [List.length_map]; exact xl) hk
    | _ =>
      refine tt ?_
      have hr2 : ∀ z, isTup z = false → rightOf t.2 (.tup [c, z]) = false := fun z hz => by
        unfold rightOf
        split
        · rename_i e; cases e
        · rename_i e; cases e; cases hz
        · rfl
      rw [hr2 _ rfl] at hk
      exact hk
  | _ => first | exact tt hk | (cases q)
end
end K04

set_option autoImplicit false
set_option maxRecDepth 100000
set_option maxHeartbeats 4000000
namespace K04
open PySem L2 DL
/-! what fits, looked at by strip -/
theorem tw_all {g : Nat → Bool} : ∀ {l : List Nat}, (∀ c ∈ l, g c = true) → l.takeWhile g = l
  | [], _ => rfl
  | a :: l, h => by rw [List.takeWhile_cons, if_pos (h a List.mem_cons_self), tw_all fun c hc => h c (List.mem_cons_of_mem _ hc)]
theorem tw_stop {g : Nat → Bool} : ∀ {l : List Nat}, (∃ c ∈ l, g c = false) → ∃ d r, l.drop (l.takeWhile g).length = d :: r ∧ g d = false
  | [], ⟨c, hc, _⟩ => by cases hc
  | a :: l, ⟨c, hc, hg⟩ => by
    rw [List.takeWhile_cons]
    cases q : g a with
    | false => exact ⟨a, l, rfl, q⟩
    | true =>
      rcases List.mem_cons.mp hc with rfl | hc
      · rw [q] at hg; cases hg
      · exact tw_stop ⟨c, hc, hg⟩
theorem tw_end {g : Nat → Bool} {d : Nat} (hd : g d = false) : ∀ l : List Nat, ((l ++ [d]).takeWhile g).length ≤ l.length
  | [] => by rw [List.nil_append, List.takeWhile_cons, hd]; exact Nat.zero_le _
  | a :: l => by
    rw [List.cons_append, List.takeWhile_cons]
    split
    · rw [List.length_cons, List.length_cons]; have := tw_end hd l; omega
    · exact Nat.zero_le _
theorem strip_empty (x y : Str) : Txt.stripChars x y = Str.ofString "" ↔ ∀ c ∈ x.cps.toList, y.cps.contains c = true := by
  have n0 : x.length = x.cps.toList.length := by simp [Str.length]
  have e0 : Str.ofString "" = ⟨#[]⟩ := rfl
  unfold Txt.stripChars Txt.stripBy
  constructor
  · intro h
    refine Decidable.byContradiction fun hn => ?_
    obtain ⟨c, hc⟩ := Classical.not_forall.mp hn
    obtain ⟨hc, hg⟩ := Classical.not_imp.mp hc
    have hg : y.cps.contains c = false := by simpa using hg
    obtain ⟨d, r, e1, e2⟩ := tw_stop (g := y.cps.contains) ⟨c, hc, hg⟩
    split at h
    · rw [h, e0] at hc; simp at hc
    · unfold stripped PySem.Builtin.Str.strSub at h
      rw [e0] at h
      have h2 := congrArg (fun s : Str => s.cps.size) h
      simp only [Array.size_extract, List.size_toArray, List.length_nil] at h2
      have lo : stripLo y.cps.contains true x = (x.cps.toList.takeWhile y.cps.contains).length := by unfold stripLo; rw [if_pos rfl]
      have hi : stripHi y.cps.contains true x (stripLo y.cps.contains true x) = x.length - ((d :: r).reverse.takeWhile y.cps.contains).length := by
        unfold stripHi; rw [if_pos rfl, lo, e1]
      have l1 := congrArg List.length e1
      rw [List.length_drop, List.length_cons] at l1
      have l2 : ((d :: r).reverse.takeWhile y.cps.contains).length ≤ r.length := by
        rw [List.reverse_cons]
        have := tw_end e2 r.reverse
        rwa [List.length_reverse] at this
      rw [hi, lo] at h2
      have n1 : x.cps.size = x.length := rfl
      rw [n1] at h2
      omega
  · intro h
    have t := tw_all h
    have lo : stripLo y.cps.contains true x = x.length := by unfold stripLo; rw [if_pos rfl, t, n0]
    have hi : stripHi y.cps.contains true x (stripLo y.cps.contains true x) = x.length := by
      unfold stripHi; rw [if_pos rfl, lo, n0, List.drop_length]; rfl
    unfold stripSame
    rw [hi, lo]
    split
    · rename_i q
      have q : x.length = 0 := by simpa using q
      have : x.cps = #[] := Array.eq_empty_of_size_eq_zero q
      rw [e0]
      cases x; simp at this; rw [this]
    · unfold stripped PySem.Builtin.Str.strSub
      rw [hi, lo, e0]
      congr 1
      apply Array.eq_empty_of_size_eq_zero
      rw [Array.size_extract]; omega
theorem abc (c : Nat) : (Str.ofString "abcdefghijklmnopqrstuvwxyz").cps.contains c = letter c := by
  have up : ∀ i, i < 26 → (Str.ofString "abcdefghijklmnopqrstuvwxyz").cps.contains (97 + i) = true ∧ letter (97 + i) = true := by decide +kernel
  have dn : ∀ z ∈ (Str.ofString "abcdefghijklmnopqrstuvwxyz").cps.toList, letter z = true := by decide +kernel
  cases q : letter c with
  | true =>
    have b : 97 ≤ c ∧ c ≤ 122 := by unfold letter at q; simpa using q
    have := (up (c - 97) (by omega)).1
    rwa [show 97 + (c - 97) = c by omega] at this
  | false =>
    cases q2 : (Str.ofString "abcdefghijklmnopqrstuvwxyz").cps.contains c with
    | false => rfl
    | true =>
      have := dn c (by simpa using q2)
      rw [q] at this; cases this
theorem strip_letters (x : Str) : decide (Txt.stripChars x (Str.ofString "abcdefghijklmnopqrstuvwxyz") = Str.ofString "") = x.cps.toList.all letter := by
  rw [Bool.eq_iff_iff, decide_eq_true_iff, strip_empty, List.all_eq_true]
  exact ⟨fun h c hc => by rw [← abc c]; exact h c hc, fun h c hc => by rw [abc c]; exact h c hc⟩
theorem r_abs9 {i : Int} {M : Mem} {k : KD} (h : k (.int (if i < 0 then -i else i)) M) : rdAbs [.int i] M k := h
section
variable {P : Program} {w : World} {K : PySem.W.Frag} {mg : Str → Option Value} {base : Heap}
def F_lfits : FD := fun ds M k => ∃ kd d, ds = [d, .str kd] ∧ Kd kd ∧ okR M d ∧ k (.bl (fitsB kd d)) M
theorem ok_lfits (T : Txt K mg) (B : DD K mg) : DFn P w K mg base 1 B.f_law_fits B.fd_law_fits p_law_fits F_lfits := by
  refine Fun.okD B.d_law_fits.F sc_law_fits (fun cdv A outer s H E hr => (dss_cons (ds_if (dt_cmpA c_is (dv 0) de_non) (dss_one (ds_ret de_bl)) dss_nil) (dss_cons (ds_if (dt_cmpA (c_eq hr) (dv 1) de_str) (dss_one (ds_ret (de_and (de_isi T.b_isinstance (dv 0) (de_ty (n := "int") T.b_int (by decide +kernel))) (de_and (de_not (de_isi T.b_isinstance (dv 0) (de_ty (n := "bool") T.b_bool (by decide +kernel)))) (de_one (de_cmpA c_le (de_abs T.b_abs (dv 0)) (de_pow de_int de_int))))))) dss_nil) (dss_one (ds_ret (de_and (de_isi T.b_isinstance (dv 0) (de_ty (n := "str") T.b_str (by decide +kernel))) (de_and (de_chainA c_le c_le de_int (de_len T.b_len (dv 0)) de_int) (de_one (de_cmpA (c_eq hr) (de_strip (dv 0) de_str) de_str))))))))) (fun ds M k h => ?_)
  obtain ⟨kd, d, rfl, hkd, hd, hk⟩ := h
  (refine ⟨rfl, ?_⟩; rw [show startD N_law_fits [d, .str kd] = [some (d), some (.str kd)] from rfl])
  have hz := sizeLine_eq
  try simp only [wNext, wSeq, wBreak, wContinue, wExpr, wRet, wRetN, wIfS, wSet, wAsg, wPar, wPar3, wFor, wSub, wTst, wOp, wChain, wNotT, wAndT, wOrT, wAndV, wOrV, wNotV, wIf, wNil, wCons, wTup, wLst, wLstM, wCall, wCall0, wVar, wC, wLc, wLcM, wYes, wiL, wiT, wiS, wiR, wiEnT, wiEnL, wiZip, wSl, woNone, woSome, wMt, wJoin, wGet, wUn, wTru, wDNew, fin, List.getElem?_cons_zero, List.getElem?_cons_succ, List.set_cons_zero, List.set_cons_succ]
  refine isn_ok hd ?_
  unfold fitsB at hk
  have sk : ∀ s : Str, d = .str s → s.length ≤ 1000000 := fun s e => by
    subst e; unfold okR at hd; exact hd
  refine bb (fun q => ?_) (fun q => ?_)
  · have q : isNon d = true := q
    rw [q] at hk; exact hk
  · have q : isNon d = false := q
    rw [q, Bool.false_or] at hk
    rcases hkd with rfl | rfl
    · rw [if_pos rfl] at hk
      refine eq_strT (by decide +kernel) (tt (isi_int hd ?_))
      cases d with
      | int i =>
        refine isi_bool hd ?_
        refine r_abs9 ?_
        refine r_pow (by decide) (by decide) (by decide) (r_ordI ?_)
        have e : decide ((if i < 0 then -i else i) ≤ (10 : Int) ^ (9 : Int).toNat) = isNumB (.int i) := by
          unfold isNumB
          have : ((10 : Int) ^ (9 : Int).toNat) = 1000000000 := by decide +kernel
          rw [this, Bool.eq_iff_iff]
          simp only [decide_eq_true_iff, Bool.and_eq_true]
          split <;> omega
        rw [e]
        exact hk
      | bl b => exact isi_bool hd hk
      | _ => exact hk
    · rw [if_neg (by decide)] at hk
      refine eq_strF (by decide +kernel) (by decide +kernel) (by decide) (ff (isi_str hd ?_))
      cases d with
      | str s =>
        have sl := sk s rfl
        have hk : k (.bl (decide (1 ≤ s.length) && decide (s.length ≤ 8) && s.cps.toList.all letter)) M := hk
        refine (show rdLen [.str s] M _ from ?_)
        refine r_lenS (by omega) (r_ordI ?_)
        cases q1 : decide (1 ≤ s.length) with
        | false =>
          have e1 : decide ((1 : Int) ≤ (s.length : Nat)) = false := decide_eq_false (by have := of_decide_eq_false q1; omega)
          rw [e1]
          rw [q1] at hk
          exact hk
        | true =>
          have e1 : decide ((1 : Int) ≤ (s.length : Nat)) = true := decide_eq_true (by have := of_decide_eq_true q1; omega)
          rw [e1]
          refine (show rdLe (.int (s.length : Nat)) (.int 8) M _ from ?_)
          refine r_ordI ?_
          rw [q1, Bool.true_and] at hk
          cases q2 : decide (s.length ≤ 8) with
          | false =>
            have e2 : decide (((s.length : Nat) : Int) ≤ 8) = false := decide_eq_false (by have := of_decide_eq_false q2; omega)
            rw [e2]
            rw [q2] at hk
            exact hk
          | true =>
            have e2 : decide (((s.length : Nat) : Int) ≤ 8) = true := decide_eq_true (by have := of_decide_eq_true q2; omega)
            rw [e2]
            rw [q2, Bool.true_and] at hk
            refine (show wStrip (wVar 0) _ _ M _ from ?_)
            refine ⟨⟨s, rfl⟩, s, _, rfl, rfl, by omega, eq_strA ?_⟩
            rw [strip_letters]
            exact hk
      | _ => exact hk
end
end K04

set_option autoImplicit false
set_option maxRecDepth 100000
set_option maxHeartbeats 4000000
namespace K04
open PySem L2 DL
/-! the law's own look at checks -/
theorem merge_nd : ∀ (b acc : List (Key × D)), ((acc ++ b).map (·.1)).Nodup → mergeD acc b = acc ++ b
  | [], acc, _ => by rw [List.append_nil]; rfl
  | x :: b, acc, h => by
    have hx : (acc.any fun kv => decide (kv.1 = x.1)) = false := by
      rw [List.any_eq_false]
      intro y hy e
      have e : y.1 = x.1 := of_decide_eq_true e
      rw [List.map_append, List.map_cons] at h
      have := (List.nodup_append.mp h).2.2
      exact this y.1 (List.mem_map_of_mem hy) x.1 List.mem_cons_self e
    have ep : putD acc x.1 x.2 = acc ++ [x] := by
      unfold putD
      rw [hx]; rfl
    have eq : mergeD acc (x :: b) = mergeD (putD acc x.1 x.2) b := rfl
    rw [eq, ep, merge_nd b (acc ++ [x]) (by rw [List.append_assoc]; exact h), List.append_assoc]; rfl
theorem r_dictF {xs : List D} {l : List (Key × D)} {M : Mem} {k : KD} (e : pairsD xs = some l) (nd : (l.map (·.1)).Nodup) (hk : ∀ p, M p = none → k (.cel p) (setM M p (.dct l))) : rdDictF [.ftp xs] M k := by
  unfold rdDictF
  simp only [e]
  have := merge_nd l [] nd
  rw [List.nil_append] at this
  rw [this]
  exact hk
def colKv (cs : Cols) : List (Key × D) := cs.map fun c => (Sum.inr c.1, D.str c.2)
theorem pairs_cols : ∀ cs : Cols, pairsD (cs.map colD) = some (colKv cs)
  | [] => rfl
  | c :: cs => by
    rw [List.map_cons]
    unfold colD pairsD
    have := pairs_cols cs
    unfold colD at this
    rw [this]; rfl
theorem colKv_nd {cs : Cols} (h : (cs.map (·.1)).Nodup) : ((colKv cs).map (·.1)).Nodup := by
  unfold colKv
  rw [List.map_map]
  have : ((fun x : Key × D => x.1) ∘ fun c : Str × Str => ((Sum.inr c.1 : Key), D.str c.2)) = (fun s : Str => (Sum.inr s : Key)) ∘ fun c : Str × Str => c.1 := rfl
  rw [this, ← List.map_map]
  exact List.pairwise_map.mpr (h.imp fun hne e => hne (Sum.inr.inj e))
theorem look_cols {cs : Cols} (h : ∀ c ∈ cs, isNm c.1 = true) (s : Str) : lookD (colKv cs) (.inr s) = (kindOf cs (.str s)).map D.str := by
  have e : lookD (colKv cs) (.inr s) = (cs.find? fun c => decide (c.1 = s)).map fun c => D.str c.2 := by
    unfold lookD colKv
    rw [List.find?_map, Option.map_map]
    have : ((fun kv : Key × D => decide (kv.1 = Sum.inr s)) ∘ fun c : Str × Str => ((Sum.inr c.1 : Key), D.str c.2)) = fun c => decide (c.1 = s) := by
      funext c
      show decide ((Sum.inr c.1 : Key) = Sum.inr s) = _
      rw [decide_eq_decide]
      exact ⟨fun e => Sum.inr.inj e, fun e => by rw [e]⟩
    rw [this]; rfl
  rw [e]
  unfold kindOf
  simp only
  cases q : isNm s with
  | true => rw [if_pos rfl, Option.map_map]; rfl
  | false =>
    rw [if_neg (by decide)]
    cases q2 : cs.find? (fun c => decide (c.1 = s)) with
    | none => rfl
    | some c =>
      have h1 := List.find?_some q2
      have h2 := h c (List.mem_of_find?_eq_some q2)
      rw [of_decide_eq_true h1, q] at h2
      cases h2
theorem chk_nil {cs : Cols} {n : Nat} {z : D} (h : ∀ s x r, z ≠ .tup (.str s :: x :: r)) : chkB cs n z = false := by
  cases n with
  | zero => rfl
  | succ n =>
    unfold chkB
    split
    · rfl
    · exact absurd rfl (h _ _ _)
    · exact absurd rfl (h _ _ _)
    · rfl
theorem chk_len {cs : Cols} {n : Nat} {s : Str} {r : List D} (h : s = Str.ofString "not" ∧ r.length ≠ 1 ∨ s ≠ Str.ofString "not" ∧ r.length ≠ 2) : chkB cs n (.tup (.str s :: r)) = false := by
  cases n with
  | zero => rfl
  | succ n =>
    match r, h with
    | [], _ => rfl
    | [a], h =>
      rcases h with ⟨_, h⟩ | ⟨h, _⟩
      · exact absurd rfl h
      · unfold chkB; rw [decide_eq_false h]; rfl
    | [a, b], h =>
      rcases h with ⟨rfl, _⟩ | ⟨_, h⟩
      · unfold chkB
        rw [if_neg (by decide)]
        cases kindOf cs a with
        | none => rfl
        | some kd => simp only; rw [if_neg (by decide), if_neg (by decide), if_neg (by decide)]
      · exact absurd rfl h
    | _ :: _ :: _ :: _, _ => rfl
section
variable {P : Program} {w : World} {K : PySem.W.Frag} {mg : Str → Option Value} {base : Heap}
mutual
theorem okR_grow {M M' : Mem} (e : ExtA M M') : ∀ {d : D}, okR M d → okR M' d
  | .non, h => by unfold okR; trivial
  | .bl _, h => by unfold okR; trivial
  | .int _, h => by unfold okR; trivial
  | .str s, h => by unfold okR at h ⊢; exact h
  | .tup ds, h => by unfold okR at h ⊢; exact ⟨h.1, okRs_grow e h.2⟩
  | .lst _, h => by unfold okR; trivial
  | .cel a, h => by
    unfold okR at h ⊢
    rw [tyD_cel] at h ⊢
    cases q : M a with
    | none => rw [q] at h; cases h
    | some c => rw [e a c q]; rw [q] at h; exact h
  | .scr _, h => by unfold okR at h; exact h.elim
  | .ty _, h => by unfold okR at h; exact h.elim
  | .ftp _, h => by unfold okR at h; exact h.elim
theorem okRs_grow {M M' : Mem} (e : ExtA M M') : ∀ {d : List D}, okRs M d → okRs M' d
  | [], h => by unfold okRs; trivial
  | d :: ds, h => by unfold okRs at h ⊢; exact ⟨okR_grow e h.1, okRs_grow e h.2⟩
end
theorem boolsL (p : D → Bool) : ∀ l : List D, boolsD (l.map fun d => .bl (p d)) = some (l.map p)
  | [] => rfl
  | x :: l => by
    rw [List.map_cons]
    unfold boolsD
    rw [boolsL p l]; rfl
theorem r_allP {M : Mem} {k : KD} {l : List D} {p : D → Bool} (hk : k (.bl (l.all p)) M) : rdAll [.lst (l.map fun d => .bl (p d))] M k := by
  unfold rdAll asR
  simp only [boolsL]
  have : (l.map p).all id = l.all p := by rw [List.all_map]; rfl
  rw [this]; exact hk
theorem allPart {cs : Cols} {m : Nat} {rs : List D} {M1 : Mem} {k : KD} {Γ : DL.Env} {we : WE} (hl : rs.length ≤ 1000) (ok : ∀ x ∈ rs, okR M1 x) (hw : ∀ x M2 (k : KD), x ∈ rs → ExtA M1 M2 → okR M2 x → (∀ M3, ExtA M2 M3 → k (.bl (chkB cs m x)) M3) → ∃ Γ', gN 5 x Γ = some Γ' ∧ we Γ' M2 k)
    (hk : ∀ M2, ExtA M1 M2 → k (.bl (rs.all (chkB cs m))) M2) : lcD (gN 5) wYes we gAny Γ rs [] M1 fun ds M2 => rdAll [.lst ds] M2 k := by
  have hz := sizeLine_eq
  refine lc_inv (fun its acc M' => ExtA M1 M' ∧ ∃ dn, rs = dn ++ its ∧ acc = dn.map (fun d => .bl (chkB cs m d))) (fun _ _ _ _ => trivial) ?_ ?_ (fun its acc M' ⟨_, dn, e, ea⟩ => ?_) _ _ _ ⟨ExtA.refl M1, [], rfl, rfl⟩
  · rintro acc M' ⟨e, dn, e1, rfl⟩
    rw [List.append_nil] at e1
    subst e1
    exact r_allP (hk M' e)
  · rintro x its acc M' ⟨e, dn, e1, rfl⟩
    have hx : x ∈ rs := by rw [e1]; simp
    have l1 : dn.length + (its.length + 1) = rs.length := by rw [e1, List.length_append, List.length_cons]
    obtain ⟨Γ', g1, _⟩ := hw x M' (fun _ _ => True) hx e (okR_grow e (ok x hx)) fun _ _ => trivial
    refine ⟨Γ', g1, fun ky kn hky _ => ?_⟩
    simp only [wYes]
    rw [if_pos trivial]
    obtain ⟨Γ2, g2, q⟩ := hw x M' ky hx e (okR_grow e (ok x hx)) fun M3 e3 => hky _ M3 (by rw [List.length_map]; omega) ⟨e.trans e3, dn ++ [x], by rw [List.append_assoc]; exact e1, by rw [List.map_append]; rfl⟩
    rw [g1] at g2
    cases g2
    exact q
  · have l1 : dn.length + its.length = rs.length := by rw [e, List.length_append]
    rw [ea, List.length_map]; omega
theorem eq_nonS {f : Bool → Bool} {s : Str} {M : Mem} {k : KD} (hs : PyData.strOk s = true) (hk : k (.bl (f false)) M) : rdEq f .non (.str s) M k := by
  show rdEqP f .non (.str s) M k
  have e1 : toPC M .non = some .none := rfl
  have e2 : toPC M (.str s) = some (.str s) := rfl
  unfold rdEqP
  rw [e1, e2]
  have : PyData.eqv .none (.str s) = false := by unfold PyData.eqv; rfl
  refine ⟨by decide, ?_, by rw [this]; exact hk⟩
  unfold SeqAt.shaped PyData.canLay0 PyData.depth
  rw [hs]; rfl
theorem r_inKd {f : Bool → Bool} {a : Addr} {kvs : List (Key × D)} {s : Str} {M : Mem} {k : KD} (e : M a = some (.dct kvs)) (hk : k (.bl (f (lookD kvs (.inr s)).isSome)) M) : rdInK f (.cel a) (.str s) M k := by
  unfold rdInK
  simp only [keyD, e]
  exact hk
theorem r_get1d {a : Addr} {kvs : List (Key × D)} {s : Str} {M : Mem} {k : KD} (e : M a = some (.dct kvs)) (hk : k ((lookD kvs (.inr s)).getD .non) M) : rdGet1 (.cel a) (.str s) M k := by
  unfold rdGet1
  simp only [e]
  exact hk
def F_lis_check (n : Nat) : FD := fun ds M k => ∃ cs d, ds = [colsF cs, d] ∧ CsOk cs ∧ (cs.map (·.1)).Nodup ∧ okR M d ∧ far d ≤ n ∧ ∀ M', ExtA M M' → k (.bl (chkB cs n d)) M'
theorem lchk_step (T : Txt K mg) (B : DD K mg) (n : Nat) {L : Nat} (h1 : 1 ≤ L) (G_law_is_check : DFn P w K mg base L B.f_law_is_check B.fd_law_is_check p_law_is_check fun ds M k => ∃ m, n = m + 1 ∧ F_lis_check m ds M k) : DFn P w K mg base (L + 1) B.f_law_is_check B.fd_law_is_check p_law_is_check (F_lis_check n) := by
  have G_law_fits : DFn P w K mg base 1 B.f_law_fits B.fd_law_fits p_law_fits F_lfits := ok_lfits T B
  refine Fun.okD (k := L) B.d_law_is_check.F sc_law_is_check (fun cdv A outer s H E hr => (dss_cons (ds_if (dw_pt (dw_or (dt_not (dt_val (de_isi T.b_isinstance (dv 1) (de_ty (n := "tuple") T.b_tuple (by decide +kernel))))) (dw_or (dt_cmpA c_lt (de_len T.b_len (dv 1)) de_int) (dw_or1 (dt_not (dt_val (de_isi T.b_isinstance (de_ix (dv 1) de_int) (de_ty (n := "str") T.b_str (by decide +kernel))))))))) (dss_one (ds_ret de_bl)) dss_nil) (dss_cons (ds_par3 (i := 2) (j := 3) (l := 4) rfl sc_law_is_check.nd (da_cons (de_ix (dv 1) de_int) (da_cons (de_slice (dv 1) (do_some de_int) do_none) (da_cons (de_dictF rfl T.b_dict (dv 0)) da_nil))) rfl rfl rfl (by decide) (by decide) (by decide) rfl rfl rfl (by rfl)) (dss_cons (ds_if (dt_cmpA c_in (dv 2) (de_tup (da_cons de_str (da_cons de_str (da_cons de_str da_nil))))) (dss_one (ds_ret (de_and (de_cmpA (c_eq hr) (de_len T.b_len (dv 3)) (de_ix (de_lst (da_cons de_int (da_cons de_int da_nil))) (de_intof T.b_int (de_cmpA (c_eq hr) (dv 2) de_str)))) (de_one (de_all rfl T.b_all (de_lc rfl sc_law_is_check.nd (di_tup (dv 3)) (blkOk_by (own := [("part", 5)]) (N := N_law_is_check) (sc := defScope s_law_is_check) (by decide +kernel)) (fun _ _ _ _ _ => (dg_name (i := 5) sc_law_is_check.nd)) gd_name (fun _ _ _ _ _ => dts_nil) (fun _ _ _ _ _ => (de_own B.d_law_is_check G_law_is_check hr (by first | decide | omega) (da_cons (dv 0) (da_cons (dv 5) da_nil)))))))))) dss_nil) (dss_cons (ds_if (dw_pt (dw_or (dt_cmpA c_nin (dv 2) (de_tup (da_cons de_str (da_cons de_str (da_cons de_str da_nil))))) (dw_or (dt_cmpA (c_ne hr) (de_len T.b_len (dv 3)) de_int) (dw_or (dt_not (dt_val (de_isi T.b_isinstance (de_ix (dv 3) de_int) (de_ty (n := "str") T.b_str (by decide +kernel))))) (dw_or1 (dt_ninK (hu_of hr.r) (de_ix (dv 3) de_int) (dv 4))))))) (dss_one (ds_ret de_bl)) dss_nil) (dss_cons (ds_par (i := 6) (j := 7) rfl sc_law_is_check.nd (da_cons (de_get (hu_of hr.r) (dv 4) (de_ix (dv 3) de_int)) (da_cons (de_ix (dv 3) de_int) da_nil)) rfl rfl (by decide) rfl rfl (by rfl)) (dss_cons (ds_if (dt_cmpA (c_eq hr) (dv 2) de_str) (dss_one (ds_ret (de_and (de_isi T.b_isinstance (dv 7) (de_ty (n := "str") T.b_str (by decide +kernel))) (de_one (de_cmpA (c_eq hr) (de_get1 (hu_of hr.r) (dv 4) (dv 7)) (dv 6)))))) dss_nil) (dss_one (ds_ret (de_and (de_own B.d_law_fits G_law_fits hr (by first | decide | omega) (da_cons (dv 7) (da_cons (dv 6) da_nil))) (de_one (de_or (de_cmpA (c_eq hr) (dv 2) de_str) (de_one (de_and (de_cmpA (c_eq hr) (dv 6) de_str) (de_one (de_cmpA c_isn (dv 7) de_non)))))))))))))))) (fun ds M k h => ?_)
  obtain ⟨cs, d, rfl, okc, nd, od, fd, hk⟩ := h
  (refine ⟨rfl, ?_⟩; rw [show startD N_law_is_check [colsF cs, d] = [some (colsF cs), some (d), none, none, none, none, none, none] from rfl])
  have hz := sizeLine_eq
  refine seq_step ?_
  try unfold wIfS
  try unfold wOrT
  try simp only [wNext, wBreak, wContinue, wExpr, wRet, wRetN, wSet, wAsg, wPar, wPar3, wSub, wTst, wOp, wChain, wNotT, wAndV, wOrV, wNotV, wIf, wNil, wCons, wTup, wLst, wLstM, wCall, wCall0, wVar, wC, wLc, wLcM, wYes, wiL, wiT, wiS, wiR, wiEnT, wiEnL, wiZip, wSl, woNone, woSome, wMt, wJoin, wGet, wUn, wTru, wDNew, fin, List.getElem?_cons_zero, List.getElem?_cons_succ, List.set_cons_zero, List.set_cons_succ]
  refine isi_tup od ?_
  have out : (∀ s x r, d ≠ .tup (.str s :: x :: r)) → k (.bl false) M := fun h => by
    have := hk M (ExtA.refl M)
    rw [chk_nil h] at this
    exact this
  cases d with
  | tup ds =>
    have odt := od
    unfold okR at od
    refine ff (r_lenT (r_ordI ?_))
    match ds, od, odt, fd, hk, out with
    | [], _, _, _, _, out => exact tt (out fun _ _ _ e => by cases e)
    | [_], _, _, _, _, out => exact tt (out fun _ _ _ e => by cases e)
    | x :: y :: r, od, odt, fd, hk, out =>
      have l2 : decide ((((x :: y :: r).length : Nat) : Int) < 2) = false := decide_eq_false (by simp only [List.length_cons]; omega)
      rw [l2]
      refine ff (ix_tup (at0 _ _) (isi_str (okRs_mem od.2 List.mem_cons_self) ?_))
      cases x with
      | str s =>
        refine ff (seq_step ?_)
        simp only [wNext, wBreak, wContinue, wExpr, wRet, wRetN, wSet, wAsg, wPar, wPar3, wSub, wTst, wOp, wChain, wNotT, wAndV, wOrV, wNotV, wIf, wNil, wCons, wTup, wLst, wLstM, wCall, wCall0, wVar, wC, wLc, wLcM, wYes, wiL, wiT, wiS, wiR, wiEnT, wiEnL, wiZip, wSl, woNone, woSome, wMt, wJoin, wGet, wUn, wTru, wDNew, fin, List.getElem?_cons_zero, List.getElem?_cons_succ, List.set_cons_zero, List.set_cons_succ]
        refine ix_tup (at0 _ _) (r_slT ?_)
        rw [show cutD (D.str s :: y :: r) (some 1) none = y :: r from cut_drop (D.str s :: y :: r) 1]
        unfold colsF
        refine r_dictF (pairs_cols cs) (colKv_nd nd) fun p hp => ?_
        have mp : setM M p (.dct (colKv cs)) p = some (.dct (colKv cs)) := setM_same
        have e1 : ExtA M (setM M p (.dct (colKv cs))) := (ExtA.refl M).new hp
        generalize setM M p (.dct (colKv cs)) = M1 at mp e1 ⊢
        clear out l2
        have okr : ∀ x ∈ y :: r, okR M1 x := fun x hx => (okR_grow e1 (okRs_mem od.2 (List.mem_cons_of_mem _ hx)))
        obtain ⟨m, rfl⟩ : ∃ m, n = m + 1 := ⟨n - 1, by rw [far_tup] at fd; omega⟩
        have far' : ∀ x ∈ y :: r, far x ≤ m := fun x hx => far_tupL fd x (List.mem_cons_of_mem _ hx)
        have len3 : (y :: r).length ≤ 1000 := by have := od.1; simp only [List.length_cons] at this ⊢; omega
        have hk1 := fun M' (e : ExtA M1 M') => hk M' (e1.trans e)
        clear hk
        generalize y :: r = rs at okr far' len3 hk1 ⊢
        refine seq_step ?_
        try unfold wIfS
        try simp only [wNext, wBreak, wContinue, wExpr, wRet, wRetN, wSet, wAsg, wPar, wPar3, wSub, wTst, wOp, wChain, wNotT, wAndV, wOrV, wNotV, wIf, wNil, wCons, wTup, wLst, wLstM, wCall, wCall0, wVar, wC, wLc, wLcM, wYes, wiL, wiT, wiS, wiR, wiEnT, wiEnL, wiZip, wSl, woNone, woSome, wMt, wJoin, wGet, wUn, wTru, wDNew, fin, List.getElem?_cons_zero, List.getElem?_cons_succ, List.set_cons_zero, List.set_cons_succ]
        have part : ∀ {Γ : DL.Env} {k : KD}, Γ.length = 8 → Γ[0]? = some (some (.ftp (cs.map colD))) → (∀ M2, ExtA M1 M2 → k (.bl (rs.all (chkB cs m))) M2) → lcD (gN 5) wYes (wCall (fun ds M k => ∃ m_1, m + 1 = m_1 + 1 ∧ F_lis_check m_1 ds M k) (wCons (wVar 0) (wCons (wVar 5) wNil))) gAny Γ rs [] M1 fun ds M2 => rdAll [.lst ds] M2 k := fun {Γ k} lΓ h0 hk => by
          refine allPart len3 okr (fun x M2 k2 hx e2 ox hk2 => ⟨_, rfl, ?_⟩) hk
          simp only [wCall, wCons, wNil, wVar]
          have g0 : (Γ.set 5 (some x))[0]? = some (some (.ftp (cs.map colD))) := by rw [List.getElem?_set_ne (by decide)]; exact h0
          have g5 : (Γ.set 5 (some x))[5]? = some (some x) := by rw [List.getElem?_set_self (by rw [lΓ]; decide)]
          simp only [g0, g5]
          exact ⟨m, rfl, cs, x, rfl, okc, nd, ox, far' x hx, hk2⟩
        refine ⟨(show 3 ≤ sizeLine by decide), r_inS (l := [Str.ofString "not", Str.ofString "and", Str.ofString "or"]) ?_⟩
        by_cases c1 : s ∈ [Str.ofString "not", Str.ofString "and", Str.ofString "or"]
        · refine tt' (decide_eq_true c1) (r_lenT ⟨(show 2 ≤ sizeLine by decide), eq_strA (r_intB ?_)⟩)
          by_cases c2 : s = Str.ofString "not"
          · rw [show id (decide (s = Str.ofString "not")) = true from decide_eq_true c2]
            refine ix_lst (d := .int 1) rfl (eq_int ?_)
            by_cases hl : rs.length = 1
            · rw [show id (decide (((rs.length : Nat) : Int) = 1)) = true from decide_eq_true (by omega)]
              refine part rfl rfl fun M2 e2 => ?_
              have := hk1 M2 e2
              obtain ⟨a, rfl⟩ := List.length_eq_one_iff.mp hl
              subst c2
              unfold chkB at this
              simpa using this
            · rw [show id (decide (((rs.length : Nat) : Int) = 1)) = false from decide_eq_false (by omega)]
              have := hk1 M1 (ExtA.refl M1)
              rw [chk_len (.inl ⟨c2, hl⟩)] at this
              exact this
          · rw [show id (decide (s = Str.ofString "not")) = false from decide_eq_false c2]
            refine ix_lst (d := .int 2) rfl (eq_int ?_)
            by_cases hl : rs.length = 2
            · rw [show id (decide (((rs.length : Nat) : Int) = 2)) = true from decide_eq_true (by omega)]
              refine part rfl rfl fun M2 e2 => ?_
              have := hk1 M2 e2
              obtain ⟨a, b, rfl⟩ : ∃ a b, rs = [a, b] := by
                match rs, hl with
                | [a, b], _ => exact ⟨a, b, rfl⟩
              have c3 : s = Str.ofString "and" ∨ s = Str.ofString "or" := by
                simp only [List.mem_cons, List.not_mem_nil, or_false] at c1
                rcases c1 with h | h | h
                · exact absurd h c2
                · exact .inl h
                · exact .inr h
              unfold chkB at this
              rw [if_pos c3] at this
              simpa using this
            · rw [show id (decide (((rs.length : Nat) : Int) = 2)) = false from decide_eq_false (by omega)]
              have := hk1 M1 (ExtA.refl M1)
              rw [chk_len (.inr ⟨c2, hl⟩)] at this
              exact this
        · refine ff' (decide_eq_false c1) (seq_step ?_)
          try unfold wIfS
          try unfold wOrT
          try simp only [wNever, wDel, wInK, wDcK, wPut, wListV, wNext, wBreak, wContinue, wExpr, wRet, wRetN, wSet, wAsg, wPar, wPar3, wSub, wTst, wOp, wChain, wNotT, wAndV, wOrV, wNotV, wIf, wNil, wCons, wTup, wLst, wLstM, wCall, wCall0, wVar, wC, wLc, wLcM, wYes, wiL, wiT, wiS, wiR, wiEnT, wiEnL, wiZip, wSl, woNone, woSome, wMt, wJoin, wGet, wUn, wTru, wDNew, fin, List.getElem?_cons_zero, List.getElem?_cons_succ, List.set_cons_zero, List.set_cons_succ]
          refine ⟨(show 3 ≤ sizeLine by decide), r_inS (l := [Str.ofString "is", Str.ofString "below", Str.ofString "like"]) ?_⟩
          have c0 : s ≠ Str.ofString "not" := fun z => c1 (by rw [z]; simp)
          have c00 : ¬ (s = Str.ofString "and" ∨ s = Str.ofString "or") := fun z => c1 (by rcases z with z | z <;> rw [z] <;> simp)
          have no : (∀ x y, rs = [x, y] → chkB cs (m + 1) (.tup [.str s, x, y]) = false) → k (.bl false) M1 := fun h => by
            have := hk1 M1 (ExtA.refl M1)
            by_cases hl : rs.length = 2
            · obtain ⟨a, b, rfl⟩ : ∃ a b, rs = [a, b] := by
                match rs, hl with
                | [a, b], _ => exact ⟨a, b, rfl⟩
              rw [h a b rfl] at this; exact this
            · rw [chk_len (.inr ⟨c0, hl⟩)] at this; exact this
          by_cases c2 : s ∈ [Str.ofString "is", Str.ofString "below", Str.ofString "like"]
          · refine ff' (by rw [decide_eq_true c2]; rfl) (r_lenT (eq_int ?_))
            by_cases hl : rs.length = 2
            · obtain ⟨a, b, rfl⟩ : ∃ a b, rs = [a, b] := by
                match rs, hl with
                | [a, b], _ => exact ⟨a, b, rfl⟩
              refine ff' (by rw [decide_eq_true (by simp)]; rfl) (ix_tup (at0 _ _) (isi_str (okr a (by simp)) ?_))
              have spec : chkB cs (m + 1) (.tup [.str s, a, b]) = (match kindOf cs a with
                | none => false
                | some kd => if s = Str.ofString "is" then fitsB kd b else if s = Str.ofString "below" then decide (kd = Str.ofString "number") && isNumB b else if s = Str.ofString "like" then decide (kindOf cs b = some kd) else false) := by
                show (if s = Str.ofString "and" ∨ s = Str.ofString "or" then _ else _) = _
                rw [if_neg c00]
                try rfl
              rw [spec] at hk1
              cases a with
              | str ca =>
                refine ff (ix_tup (at0 _ _) (r_inKd mp ?_))
                rw [look_cols okc.nm]
                cases q : kindOf cs (.str ca) with
                | none =>
                  rw [q] at hk1
                  exact tt (hk1 M1 (ExtA.refl M1))
                | some kd =>
                  rw [q] at hk1
                  simp only at hk1
                  have hkd := kindOf_kd okc.kd q
                  refine ff (seq_step ?_)
                  simp only [wNever, wDel, wInK, wDcK, wPut, wListV, wNext, wBreak, wContinue, wExpr, wRet, wRetN, wSet, wAsg, wPar, wPar3, wSub, wTst, wOp, wChain, wNotT, wAndV, wOrV, wNotV, wIf, wNil, wCons, wTup, wLst, wLstM, wCall, wCall0, wVar, wC, wLc, wLcM, wYes, wiL, wiT, wiS, wiR, wiEnT, wiEnL, wiZip, wSl, woNone, woSome, wMt, wJoin, wGet, wUn, wTru, wDNew, fin, List.getElem?_cons_zero, List.getElem?_cons_succ, List.set_cons_zero, List.set_cons_succ]
                  refine ix_tup (at0 _ _) (r_get mp (by rw [look_cols okc.nm, q]; rfl) (ix_tup (at1 _ _ _) ?_))
                  refine seq_step ?_
                  try unfold wIfS
                  simp only [wGet1, wNever, wDel, wInK, wDcK, wPut, wListV, wNext, wBreak, wContinue, wExpr, wRet, wRetN, wSet, wAsg, wPar, wPar3, wSub, wTst, wOp, wChain, wNotT, wAndV, wOrV, wNotV, wIf, wNil, wCons, wTup, wLst, wLstM, wCall, wCall0, wVar, wC, wLc, wLcM, wYes, wiL, wiT, wiS, wiR, wiEnT, wiEnL, wiZip, wSl, woNone, woSome, wMt, wJoin, wGet, wUn, wTru, wDNew, fin, List.getElem?_cons_zero, List.getElem?_cons_succ, List.set_cons_zero, List.set_cons_succ]
                  have ob := okr b (by simp)
                  refine eq_strA ?_
                  by_cases w1 : s = Str.ofString "like"
                  · refine tt' (decide_eq_true w1) (isi_str ob ?_)
                    have e1 : s ≠ Str.ofString "is" := fun z => by rw [w1] at z; revert z; decide
                    have e2 : s ≠ Str.ofString "below" := fun z => by rw [w1] at z; revert z; decide
                    rw [if_neg e1, if_neg e2, if_pos w1] at hk1
                    cases b with
                    | str cb =>
                      refine ⟨⟨_, mp⟩, r_get1d mp ?_⟩
                      rw [look_cols okc.nm]
                      have fin := hk1 M1 (ExtA.refl M1)
                      cases q2 : kindOf cs (.str cb) with
                      | none => rw [q2] at fin; exact eq_nonS (ok_kd hkd) fin
                      | some kb =>
                        rw [q2] at fin
                        refine eq_strA ?_
                        have : decide (kb = kd) = decide (some kb = some kd) := by rw [decide_eq_decide]; exact ⟨fun h => by rw [h], fun h => Option.some.inj h⟩
                        rw [show id (decide (kb = kd)) = decide (some kb = some kd) from this]
                        exact fin
                    | _ =>
                      have fin := hk1 M1 (ExtA.refl M1)
                      exact fin
                  · refine ff' (decide_eq_false w1) ⟨kd, b, rfl, hkd, ob, ?_⟩
                    have fin := hk1 M1 (ExtA.refl M1)
                    by_cases w2 : s = Str.ofString "is"
                    · rw [if_pos w2] at fin
                      cases qf : fitsB kd b with
                      | false => rw [qf] at fin; exact fin
                      | true =>
                        rw [qf] at fin
                        refine eq_strA ?_
                        rw [show id (decide (s = Str.ofString "is")) = true from decide_eq_true w2]
                        exact fin
                    · have w3 : s = Str.ofString "below" := by
                        simp only [List.mem_cons, List.not_mem_nil, or_false] at c2
                        rcases c2 with h | h | h
                        · exact absurd h w2
                        · exact h
                        · exact absurd h w1
                      rw [if_neg w2, if_pos w3] at fin
                      have fs : kd = Str.ofString "number" → fitsB kd b = (DL.isNon b || isNumB b) := fun e => by unfold fitsB; rw [if_pos e]
                      cases qf : fitsB kd b with
                      | false =>
                        by_cases kn : kd = Str.ofString "number"
                        · have := fs kn
                          rw [qf] at this
                          have e3 : isNumB b = false := by
                            cases z : isNumB b with
                            | false => rfl
                            | true => rw [z, Bool.or_true] at this; cases this
                          rw [e3, Bool.and_false] at fin
                          exact fin
                        · rw [decide_eq_false kn, Bool.false_and] at fin
                          exact fin
                      | true =>
                        refine eq_strA ?_
                        rw [show id (decide (s = Str.ofString "is")) = false from decide_eq_false w2]
                        refine eq_strA ?_
                        by_cases kn : kd = Str.ofString "number"
                        · rw [show id (decide (kd = Str.ofString "number")) = true from decide_eq_true kn]
                          refine isn_ok ob ?_
                          have := fs kn
                          rw [qf] at this
                          rw [decide_eq_true kn, Bool.true_and] at fin
                          have e3 : (!DL.isNon b) = isNumB b := by
                            cases hb : DL.isNon b with
                            | false => rw [hb, Bool.false_or] at this; exact this
                            | true => cases b <;> first | rfl | cases hb
                          rw [e3]
                          exact fin
                        · rw [show id (decide (kd = Str.ofString "number")) = false from decide_eq_false kn]
                          rw [decide_eq_false kn, Bool.false_and] at fin
                          exact fin
              | _ => exact tt (hk1 M1 (ExtA.refl M1))
            · exact tt' (by rw [decide_eq_false (by omega)]; rfl) (no fun x y e => absurd (by rw [e]; rfl) hl)
          · refine tt' (by rw [decide_eq_false c2]; rfl) (no fun x y e => ?_)
            unfold chkB
            rw [if_neg c00]
            have e1 : s ≠ Str.ofString "is" := fun z => c2 (by rw [z]; simp)
            have e2 : s ≠ Str.ofString "below" := fun z => c2 (by rw [z]; simp)
            have e3 : s ≠ Str.ofString "like" := fun z => c2 (by rw [z]; simp)
            cases kindOf cs x with
            | none => rfl
            | some kd => simp only; rw [if_neg e1, if_neg e2, if_neg e3]
      | _ => exact tt (out fun _ _ _ e => by cases e)
  | _ => exact tt (out fun _ _ _ e => by cases e)
theorem ok_lis_check (T : Txt K mg) (B : DD K mg) : ∀ n, DFn P w K mg base (2 + n) B.f_law_is_check B.fd_law_is_check p_law_is_check (F_lis_check n)
  | 0 => lchk_step T B 0 (L := 1) (Nat.le_refl 1) (DFn.weak DFn.none fun ds M k ⟨m, e, _⟩ => by cases e)
  | n + 1 => lchk_step T B (n + 1) (L := 2 + n) (by omega) (DFn.weak (ok_lis_check T B n) fun ds M k ⟨m, e, h⟩ => by
      cases e
      exact h)
end
end K04

set_option autoImplicit false
set_option maxRecDepth 100000
set_option maxHeartbeats 4000000
namespace K04
open PySem L2 DL
/-! the law's own look at rights -/
def tsKv (ts : List (Str × Cols)) : List (Key × D) := ts.map fun t => (Sum.inr t.1, colsF t.2)
theorem pairs_ts : ∀ ts : List (Str × Cols), pairsD (ts.map tabF) = some (tsKv ts)
  | [] => rfl
  | t :: ts => by
    rw [List.map_cons]
    unfold tabF pairsD
    have := pairs_ts ts
    unfold tabF at this
    rw [this]; rfl
theorem tsKv_nd {ts : List (Str × Cols)} (h : (ts.map (·.1)).Nodup) : ((tsKv ts).map (·.1)).Nodup := by
  unfold tsKv
  rw [List.map_map]
  have : ((fun x : Key × D => x.1) ∘ fun t : Str × Cols => ((Sum.inr t.1 : Key), colsF t.2)) = (fun s : Str => (Sum.inr s : Key)) ∘ fun t : Str × Cols => t.1 := rfl
  rw [this, ← List.map_map]
  exact List.pairwise_map.mpr (h.imp fun hne e => hne (Sum.inr.inj e))
theorem look_ts (ts : List (Str × Cols)) (s : Str) : lookD (tsKv ts) (.inr s) = (ts.find? fun t => decide (t.1 = s)).map fun t => colsF t.2 := by
  unfold lookD tsKv
  rw [List.find?_map, Option.map_map]
  have : ((fun kv : Key × D => decide (kv.1 = Sum.inr s)) ∘ fun t : Str × Cols => ((Sum.inr t.1 : Key), colsF t.2)) = fun t => decide (t.1 = s) := by
    funext t
    show decide ((Sum.inr t.1 : Key) = Sum.inr s) = _
    rw [decide_eq_decide]
    exact ⟨fun e => Sum.inr.inj e, fun e => by rw [e]⟩
  rw [this]; rfl
theorem findP_ts : ∀ (ts : List (Str × Cols)) (s : Str), (findP (plD ts) s = none ∧ ts.find? (fun t => decide (t.1 = s)) = none) ∨ ∃ i t, findP (plD ts) s = some i ∧ ts.find? (fun t => decide (t.1 = s)) = some t ∧ ts[i]? = some t
  | [], s => .inl ⟨rfl, rfl⟩
  | t :: ts, s => by
    have e : findP (plD (t :: ts)) s = if t.1 = s then some 0 else (findP (plD ts) s).map (· + 1) := by
      unfold findP plD
      rw [List.map_cons, List.findIdx?_cons]
      by_cases q : t.1 = s <;> simp [q]
    by_cases q : t.1 = s
    · exact .inr ⟨0, t, by rw [e, if_pos q], by rw [List.find?_cons, decide_eq_true q], rfl⟩
    · rcases findP_ts ts s with ⟨h1, h2⟩ | ⟨i, t', h1, h2, h3⟩
      · exact .inl ⟨by rw [e, if_neg q, h1]; rfl, by rw [List.find?_cons, decide_eq_false q]; exact h2⟩
      · exact .inr ⟨i + 1, t', by rw [e, if_neg q, h1]; rfl, by rw [List.find?_cons, decide_eq_false q]; exact h2, by simpa using h3⟩
theorem right_at {ts : List (Str × Cols)} (h : ∀ t ∈ ts, isNm t.1 = true) (s : Str) (d : D) : (ts.find? (fun t => decide (t.1 = s)) = none ∧ rightB ts (.str s) d = false) ∨ ∃ t, t ∈ ts ∧ ts.find? (fun t => decide (t.1 = s)) = some t ∧ rightB ts (.str s) d = rightOf t.2 d := by
  have e1 : placeD (plD ts) (.str s) = if isNm s = true then (match findP (plD ts) s with | some i => .int (i : Nat) | none => .non) else .non := rfl
  rcases findP_ts ts s with ⟨h1, h2⟩ | ⟨i, t, h1, h2, h3⟩
  · refine .inl ⟨h2, ?_⟩
    unfold rightB
    rw [e1, h1]
    cases isNm s <;> rfl
  · have hm := List.mem_of_find?_eq_some h2
    have hs : isNm s = true := by rw [← of_decide_eq_true (List.find?_some (p := fun t : Str × Cols => decide (t.1 = s)) h2)]; exact h t hm
    refine .inr ⟨t, hm, h2, ?_⟩
    unfold rightB
    rw [e1, h1, hs]
    simp only [if_true]
    rw [show ((i : Nat) : Int).toNat = i from rfl, h3]
def nms (cs : Cols) : List Str := cs.map (·.1)
def inN (cs : Cols) : D → Bool
  | .str s => decide (s ∈ nms cs)
  | _ => false
theorem find_nms (cs : Cols) (s : Str) : findP (lst cs) s = (nms cs).findIdx? fun y => decide (y = s) := by
  unfold findP lst nms
  rw [List.findIdx?_map, List.findIdx?_map]; rfl
theorem in_place {cs : Cols} (h : ∀ c ∈ cs, isNm c.1 = true) (x : D) : inN cs x = isIn (placeD (lst cs) x) := by
  cases x with
  | str s =>
    have e1 : placeD (lst cs) (.str s) = if isNm s = true then (match findP (lst cs) s with | some i => .int (i : Nat) | none => .non) else .non := rfl
    have e2 : inN cs (.str s) = decide (s ∈ nms cs) := rfl
    rw [e1, e2]
    by_cases q : s ∈ nms cs
    · obtain ⟨c, hc, rfl⟩ := List.mem_map.mp q
      rw [decide_eq_true q, if_pos (h c hc), find_nms]
      cases z : (nms cs).findIdx? fun y => decide (y = c.1) with
      | none =>
        have := List.findIdx?_eq_none_iff.mp z c.1 q
        simp at this
      | some i => rfl
    · rw [decide_eq_false q]
      cases isNm s with
      | false => rfl
      | true =>
        rw [if_pos rfl, find_nms]
        cases z : (nms cs).findIdx? fun y => decide (y = s) with
        | none => rfl
        | some i =>
          have := List.findIdx?_eq_some_iff_getElem.mp z
          obtain ⟨h1, h2, _⟩ := this
          exact absurd (by rw [← of_decide_eq_true h2]; exact List.getElem_mem h1) q
  | _ => rfl
theorem place_ix {cs : Cols} (h : ∀ c ∈ cs, isNm c.1 = true) {s : Str} (q : s ∈ nms cs) : ∃ j : Nat, (nms cs).findIdx? (fun y => decide (y = s)) = some j ∧ intOf (placeD (lst cs) (.str s)) = j := by
  have e1 : placeD (lst cs) (.str s) = if isNm s = true then (match findP (lst cs) s with | some i => .int (i : Nat) | none => .non) else .non := rfl
  have hs : isNm s = true := by obtain ⟨c, hc, rfl⟩ := List.mem_map.mp q; exact h c hc
  cases z : (nms cs).findIdx? fun y => decide (y = s) with
  | none =>
    have := List.findIdx?_eq_none_iff.mp z s q
    simp at this
  | some i =>
    refine ⟨i, rfl, ?_⟩
    rw [e1, if_pos hs, find_nms, z]; rfl
theorem r_inSL' {f : Bool → Bool} {s : Str} {l : List Str} {M : Mem} {k : KD} (hk : k (.bl (f (decide (s ∈ l)))) M) : rdIn f (.str s) (.lst (l.map D.str)) M k := by
  have := r_inS (f := f) (s := s) (l := l) (M := M) (k := k) hk
  exact this
theorem r_index' {l : List Str} {s : Str} {j : Nat} {M : Mem} {k : KD} (h : l.findIdx? (fun y => decide (y = s)) = some j) (hk : k (.int (j : Nat)) M) : rdIndexS (.lst (l.map D.str)) [.str s] M k := by
  unfold rdIndexS asR
  simp only [strs_map, h]
  exact hk
section
variable {P : Program} {w : World} {K : PySem.W.Frag} {mg : Str → Option Value} {base : Heap}
def F_lis_right : FD := fun ds M k => ∃ ts x th, ds = [.ftp (ts.map tabF), x, th] ∧ PlanN ts ∧ okR M x ∧ okR M th ∧ far th ≤ 40 ∧ (∀ c xs, th = .tup [c, .tup xs] → xs.length < 64) ∧ ∀ M', ExtA M M' → k (.bl (rightB ts x th)) M'
theorem ok_lis_right (T : Txt K mg) (B : DD K mg) : DFn P w K mg base 43 B.f_law_is_right B.fd_law_is_right p_law_is_right F_lis_right := by
  have G_law_is_check : DFn P w K mg base 42 B.f_law_is_check B.fd_law_is_check p_law_is_check (F_lis_check 40) := ok_lis_check T B 40
  refine Fun.okD B.d_law_is_right.F sc_law_is_right (fun cdv A outer s H E hr => (dss_cons (ds_if (dw_pt (dw_or (dt_not (dt_val (de_isi T.b_isinstance (dv 1) (de_ty (n := "str") T.b_str (by decide +kernel))))) (dw_or1 (dt_ninK (hu_of hr.r) (dv 1) (de_dictF rfl T.b_dict (dv 0)))))) (dss_one (ds_ret de_bl)) dss_nil) (dss_cons (ds_if (dt_cmpA c_is (dv 2) de_non) (dss_one (ds_ret de_bl)) dss_nil) (dss_cons (ds_if (dw_pt (dw_or (dt_not (dt_val (de_isi T.b_isinstance (dv 2) (de_ty (n := "tuple") T.b_tuple (by decide +kernel))))) (dw_or (dt_cmpA (c_ne hr) (de_len T.b_len (dv 2)) de_int) (dw_or1 (dt_not (dt_val (de_isi T.b_isinstance (de_ix (dv 2) de_int) (de_ty (n := "tuple") T.b_tuple (by decide +kernel))))))))) (dss_one (ds_ret de_bl)) dss_nil) (dss_cons (ds_set (i := 3) sc_law_is_right.nd (de_get (hu_of hr.r) (de_dictF rfl T.b_dict (dv 0)) (dv 1))) (dss_cons (ds_set (i := 4) sc_law_is_right.nd (de_lc rfl sc_law_is_right.nd (di_tup (de_thaw (dv 3))) (blkOk_by (own := [("name", 5), ("kind", 6)]) (N := N_law_is_right) (sc := defScope s_law_is_right) (by decide +kernel)) (fun _ _ _ _ _ => (dg_tup rfl (dgs_cons (dg_name (i := 5) sc_law_is_right.nd) (dgs_cons (dg_name (i := 6) sc_law_is_right.nd) dgs_nil)) (gsCons_len (gsCons_len gsNil_len)))) (gd_tup (gds_cons gd_name (gds_cons gd_name gds_nil)) (gsCons_len (gsCons_len gsNil_len))) (fun _ _ _ _ _ => dts_nil) (fun _ _ _ _ _ => (dv 5)))) (dss_cons (ds_if (dt_not (dt_val (de_all rfl T.b_all (de_lc rfl sc_law_is_right.nd (di_tup (de_ix (dv 2) de_int)) (blkOk_by (own := [("one", 7)]) (N := N_law_is_right) (sc := defScope s_law_is_right) (by decide +kernel)) (fun _ _ _ _ _ => (dg_name (i := 7) sc_law_is_right.nd)) gd_name (fun _ _ _ _ _ => dts_nil) (fun _ _ _ _ _ => (de_and (de_isi T.b_isinstance (dv 7) (de_ty (n := "str") T.b_str (by decide +kernel))) (de_one (de_cmpA c_in (dv 7) (dv 4))))))))) (dss_one (ds_ret de_bl)) dss_nil) (dss_cons (ds_setLc (i := 8) rfl sc_law_is_right.nd (di_tup (de_ix (dv 2) de_int)) (blkOk_by (own := [("one", 7)]) (N := N_law_is_right) (sc := defScope s_law_is_right) (by decide +kernel)) (fun _ _ _ _ _ => (dg_name (i := 7) sc_law_is_right.nd)) gd_name (fun _ _ _ _ _ => dts_nil) (fun _ _ _ _ _ => (de_indexS (dv 4) (dv 7))) (sw_true rfl rfl rfl (by decide +kernel))) (dss_one (ds_ret (de_and (de_cmpA (c_eq hr) (dv 8) (de_sortSetI rfl T.b_sorted T.b_set (dv 8))) (de_one (de_or (de_cmpA c_is (de_ix (dv 2) de_int) de_non) (de_one (de_own B.d_law_is_check G_law_is_check hr (by first | decide | omega) (da_cons (de_thaw (dv 3)) (da_cons (de_ix (dv 2) de_int) da_nil))))))))))))))))) (fun ds M k h => ?_)
  obtain ⟨ts, x, th, rfl, okp, ox, od, fd, x64, hk⟩ := h
  (refine ⟨rfl, ?_⟩; rw [show startD N_law_is_right [.ftp (ts.map tabF), x, th] = [some (.ftp (ts.map tabF)), some (x), some (th), none, none, none, none, none, none] from rfl])
  have hz := sizeLine_eq
  refine seq_step ?_
  try unfold wIfS
  try unfold wOrT
  try simp only [wNever, wDel, wInK, wDcK, wPut, wListV, wNext, wBreak, wContinue, wExpr, wRet, wRetN, wSet, wAsg, wPar, wPar3, wSub, wTst, wOp, wChain, wNotT, wAndV, wOrV, wNotV, wIf, wNil, wCons, wTup, wLst, wLstM, wCall, wCall0, wVar, wC, wLc, wLcM, wYes, wiL, wiT, wiS, wiR, wiEnT, wiEnL, wiZip, wSl, woNone, woSome, wMt, wJoin, wGet, wUn, wTru, wDNew, fin, List.getElem?_cons_zero, List.getElem?_cons_succ, List.set_cons_zero, List.set_cons_succ]
  refine isi_str ox ?_
  cases x with
  | str s =>
    refine ff (r_dictF (pairs_ts ts) (tsKv_nd okp.un) fun p hp => ?_)
    have mp : setM M p (.dct (tsKv ts)) p = some (.dct (tsKv ts)) := setM_same
    have e1 : ExtA M (setM M p (.dct (tsKv ts))) := (ExtA.refl M).new hp
    generalize setM M p (.dct (tsKv ts)) = M1 at mp e1 ⊢
    refine r_inKd mp ?_
    rw [look_ts]
    rcases right_at okp.nm s th with ⟨f1, f2⟩ | ⟨t, ht, f1, f2⟩
    · rw [f1]
      rw [f2] at hk
      exact tt (hk M1 e1)
    rw [f1]
    rw [f2] at hk
    have okc := okp.ok t ht
    have od := okR_grow e1 od
    refine ff (seq_step ?_)
    try unfold wIfS
    try simp only [wNever, wDel, wInK, wDcK, wPut, wListV, wNext, wBreak, wContinue, wExpr, wRet, wRetN, wSet, wAsg, wPar, wPar3, wSub, wTst, wOp, wChain, wNotT, wAndV, wOrV, wNotV, wIf, wNil, wCons, wTup, wLst, wLstM, wCall, wCall0, wVar, wC, wLc, wLcM, wYes, wiL, wiT, wiS, wiR, wiEnT, wiEnL, wiZip, wSl, woNone, woSome, wMt, wJoin, wGet, wUn, wTru, wDNew, fin, List.getElem?_cons_zero, List.getElem?_cons_succ, List.set_cons_zero, List.set_cons_succ]
    refine isn_ok od (bb (fun q => ?_) (fun q => ?_))
    · cases th with
      | non => exact hk M1 e1
      | _ => cases q
    have q : DL.isNon th = false := q
    refine seq_step ?_
    try unfold wIfS
    try unfold wOrT
    try simp only [wNever, wDel, wInK, wDcK, wPut, wListV, wNext, wBreak, wContinue, wExpr, wRet, wRetN, wSet, wAsg, wPar, wPar3, wSub, wTst, wOp, wChain, wNotT, wAndV, wOrV, wNotV, wIf, wNil, wCons, wTup, wLst, wLstM, wCall, wCall0, wVar, wC, wLc, wLcM, wYes, wiL, wiT, wiS, wiR, wiEnT, wiEnL, wiZip, wSl, woNone, woSome, wMt, wJoin, wGet, wUn, wTru, wDNew, fin, List.getElem?_cons_zero, List.getElem?_cons_succ, List.set_cons_zero, List.set_cons_succ]
    refine isi_tup od ?_
    have out : (∀ c xs, th ≠ .tup [c, .tup xs]) → k (.bl false) M1 := fun h => by
      have := hk M1 e1
      have z : rightOf t.2 th = false := by
        unfold rightOf
        split
        · cases q
        · exact absurd rfl (h _ _)
        · rfl
      rw [z] at this
      exact this
    cases th with
    | tup ds =>
      refine ff (r_lenT (eq_int ?_))
      by_cases hl : ds.length = 2
      · obtain ⟨c, nm, rfl⟩ : ∃ c nm, ds = [c, nm] := by
          match ds, hl with
          | [c, nm], _ => exact ⟨c, nm, rfl⟩
        refine ff' (by rw [decide_eq_true (by simp)]; rfl) (ix_tup (at1 _ _ _) ?_)
        unfold okR at od
        have oc : okR M1 c := okRs_mem od.2 (by simp)
        have onm : okR M1 nm := okRs_mem od.2 (by simp)
        refine isi_tup onm ?_
        cases nm with
        | tup xs =>
          have xl := x64 c xs rfl
          have fc : far c ≤ 40 := by
            unfold far fars at fd
            omega
          refine ff (seq_step ?_)
          try simp only [wNever, wDel, wInK, wDcK, wPut, wListV, wNext, wBreak, wContinue, wExpr, wRet, wRetN, wSet, wAsg, wPar, wPar3, wSub, wTst, wOp, wChain, wNotT, wAndV, wOrV, wNotV, wIf, wNil, wCons, wTup, wLst, wLstM, wCall, wCall0, wVar, wC, wLc, wLcM, wYes, wiL, wiT, wiS, wiR, wiEnT, wiEnL, wiZip, wSl, woNone, woSome, wMt, wJoin, wGet, wUn, wTru, wDNew, fin, List.getElem?_cons_zero, List.getElem?_cons_succ, List.set_cons_zero, List.set_cons_succ]
          refine r_dictF (pairs_ts ts) (tsKv_nd okp.un) fun p2 hp2 => ?_
          have mp2 : setM M1 p2 (.dct (tsKv ts)) p2 = some (.dct (tsKv ts)) := setM_same
          have e2 : ExtA M (setM M1 p2 (.dct (tsKv ts))) := e1.trans ((ExtA.refl M1).new hp2)
          have oc := okR_grow ((ExtA.refl M1).new (c := .dct (tsKv ts)) hp2) oc
          have onm := okR_grow ((ExtA.refl M1).new (c := .dct (tsKv ts)) hp2) onm
          generalize setM M1 p2 (.dct (tsKv ts)) = M2 at mp2 e2 oc onm ⊢
          refine r_get mp2 (by rw [look_ts, f1]; rfl) ?_
          refine seq_step ?_
          try simp only [wThaw, wNever, wDel, wInK, wDcK, wPut, wListV, wNext, wBreak, wContinue, wExpr, wRet, wRetN, wSet, wAsg, wPar, wPar3, wSub, wTst, wOp, wChain, wNotT, wAndV, wOrV, wNotV, wIf, wNil, wCons, wTup, wLst, wLstM, wCall, wCall0, wVar, wC, wLc, wLcM, wYes, wiL, wiT, wiS, wiR, wiEnT, wiEnL, wiZip, wSl, woNone, woSome, wMt, wJoin, wGet, wUn, wTru, wDNew, fin, List.getElem?_cons_zero, List.getElem?_cons_succ, List.set_cons_zero, List.set_cons_succ]
          refine ⟨_, thaw_cols _, ?_⟩
          simp only [colsD]
          have cl := okc.le
          refine lc_map (fun d => match d with | .tup [n, _] => n | d => d) (G := gAny) (M := M2) trivial _ _ _ (fun d hd => ?_) (z1 (by simp; omega)) ?_
          · obtain ⟨c0, _, rfl⟩ := List.mem_map.mp hd
            refine ⟨_, rfl, fun k' hk' => ?_⟩
            simp only [wNext, wSeq, wBreak, wContinue, wExpr, wRet, wRetN, wIfS, wSet, wAsg, wPar, wPar3, wFor, wSub, wTst, wOp, wChain, wNotT, wAndT, wOrT, wAndV, wOrV, wNotV, wIf, wNil, wCons, wTup, wLst, wLstM, wCall, wCall0, wVar, wC, wLc, wLcM, wYes, wiL, wiT, wiS, wiR, wiEnT, wiEnL, wiZip, wSl, woNone, woSome, wMt, wJoin, wGet, wUn, wTru, wDNew, fin, List.getElem?_cons_zero, List.getElem?_cons_succ, List.set_cons_zero, List.set_cons_succ, wipeD, List.map]
            exact hk'
          have en : [] ++ (t.2.map colD).map (fun d => match d with | .tup [n, _] => n | d => d) = (nms t.2).map D.str := by
            unfold nms
            rw [List.nil_append, List.map_map, List.map_map]
            rfl
          rw [en]
          unfold okR at onm
          refine seq_step ?_
          try unfold wIfS
          try simp only [wNever, wDel, wInK, wDcK, wPut, wListV, wNext, wBreak, wContinue, wExpr, wRet, wRetN, wSet, wAsg, wPar, wPar3, wSub, wTst, wOp, wChain, wNotT, wAndV, wOrV, wNotV, wIf, wNil, wCons, wTup, wLst, wLstM, wCall, wCall0, wVar, wC, wLc, wLcM, wYes, wiL, wiT, wiS, wiR, wiEnT, wiEnL, wiZip, wSl, woNone, woSome, wMt, wJoin, wGet, wUn, wTru, wDNew, fin, List.getElem?_cons_zero, List.getElem?_cons_succ, List.set_cons_zero, List.set_cons_succ]
          refine ix_tup (at1 _ _ _) ?_
          refine lc_map (fun d => .bl (inN t.2 d)) (G := gAny) (M := M2) trivial _ _ _ (fun d hd => ?_) (z1 (by rw [List.length_nil]; omega)) ?_
          · refine ⟨_, rfl, fun k' hk' => ?_⟩
            simp only [wNext, wSeq, wBreak, wContinue, wExpr, wRet, wRetN, wIfS, wSet, wAsg, wPar, wPar3, wFor, wSub, wTst, wOp, wChain, wNotT, wAndT, wOrT, wAndV, wOrV, wNotV, wIf, wNil, wCons, wTup, wLst, wLstM, wCall, wCall0, wVar, wC, wLc, wLcM, wYes, wiL, wiT, wiS, wiR, wiEnT, wiEnL, wiZip, wSl, woNone, woSome, wMt, wJoin, wGet, wUn, wTru, wDNew, fin, List.getElem?_cons_zero, List.getElem?_cons_succ, List.set_cons_zero, List.set_cons_succ, wipeD, List.map]
            refine isi_str (okRs_mem onm.2 hd) ?_
            cases d with
            | str s' => exact r_inSL' hk'
            | _ => exact hk'
          rw [List.nil_append]
          refine r_allP (l := xs) (p := inN t.2) ?_
          have fin := fun M' (e : ExtA M2 M') => hk M' (e2.trans e)
          have sp : rightOf t.2 (.tup [c, .tup xs]) = ((DL.isNon c || chkB t.2 40 c) && seeB t.2 xs) := rfl
          rw [sp] at fin
          have ea : xs.all (fun x => isIn (placeD (lst t.2) x)) = xs.all (inN t.2) := by
            congr 1
            funext x
            exact (in_place okc.nm x).symm
          have se : seeB t.2 xs = (xs.all (inN t.2) && decide ((xs.map fun x => intOf (placeD (lst t.2) x)).Pairwise (· < ·))) := by
            unfold seeB
            rw [ea]
          rw [se] at fin
          cases qa : xs.all (inN t.2) with
          | false =>
            rw [qa] at fin
            have := fin M2 (ExtA.refl M2)
            rw [Bool.false_and, Bool.and_false] at this
            exact tt this
          | true =>
            rw [qa] at fin
            rw [Bool.true_and] at fin
            refine ff (seq_step ?_)
            try simp only [wNever, wDel, wInK, wDcK, wPut, wListV, wNext, wBreak, wContinue, wExpr, wRet, wRetN, wSet, wAsg, wPar, wPar3, wSub, wTst, wOp, wChain, wNotT, wAndV, wOrV, wNotV, wIf, wNil, wCons, wTup, wLst, wLstM, wCall, wCall0, wVar, wC, wLc, wLcM, wYes, wiL, wiT, wiS, wiR, wiEnT, wiEnL, wiZip, wSl, woNone, woSome, wMt, wJoin, wGet, wUn, wTru, wDNew, fin, List.getElem?_cons_zero, List.getElem?_cons_succ, List.set_cons_zero, List.set_cons_succ]
            refine ix_tup (at1 _ _ _) ?_
            refine lc_map (fun d => .int (intOf (placeD (lst t.2) d))) (G := gAny) (M := M2) trivial _ _ _ (fun d hd => ?_) (z1 (by rw [List.length_nil]; omega)) ?_
            · refine ⟨_, rfl, fun k' hk' => ?_⟩
              simp only [wNext, wSeq, wBreak, wContinue, wExpr, wRet, wRetN, wIfS, wSet, wAsg, wPar, wPar3, wFor, wSub, wTst, wOp, wChain, wNotT, wAndT, wOrT, wAndV, wOrV, wNotV, wIf, wNil, wCons, wTup, wLst, wLstM, wCall, wCall0, wVar, wC, wLc, wLcM, wYes, wiL, wiT, wiS, wiR, wiEnT, wiEnL, wiZip, wSl, woNone, woSome, wMt, wJoin, wGet, wUn, wTru, wDNew, fin, List.getElem?_cons_zero, List.getElem?_cons_succ, List.set_cons_zero, List.set_cons_succ, wipeD, List.map]
              have := List.all_eq_true.mp qa d hd
              cases d with
              | str s' =>
                obtain ⟨j, j1, j2⟩ := place_ix okc.nm (of_decide_eq_true (show decide (s' ∈ nms t.2) = true from this))
                rw [j2] at hk'
                simp only [wMtR, wNext, wSeq, wBreak, wContinue, wExpr, wRet, wRetN, wIfS, wSet, wAsg, wPar, wPar3, wFor, wSub, wTst, wOp, wChain, wNotT, wAndT, wOrT, wAndV, wOrV, wNotV, wIf, wNil, wCons, wTup, wLst, wLstM, wCall, wCall0, wVar, wC, wLc, wLcM, wYes, wiL, wiT, wiS, wiR, wiEnT, wiEnL, wiZip, wSl, woNone, woSome, wMt, wJoin, wGet, wUn, wTru, wDNew, fin, List.getElem?_cons_zero, List.getElem?_cons_succ, List.set_cons_zero, List.set_cons_succ]
                exact ⟨by simp only [asR, seqD]; rfl, r_index' j1 hk'⟩
              | _ => cases this
            rw [List.nil_append]
            have e6 : xs.map (fun d => D.int (intOf (placeD (lst t.2) d))) = (xs.map fun x => intOf (placeD (lst t.2) x)).map D.int := by
              rw [List.map_map]; rfl
            rw [e6]
            try simp only [wThaw, wNever, wDel, wInK, wDcK, wPut, wListV, wNext, wBreak, wContinue, wExpr, wRet, wRetN, wSet, wAsg, wPar, wPar3, wSub, wTst, wOp, wChain, wNotT, wAndV, wOrV, wNotV, wIf, wNil, wCons, wTup, wLst, wLstM, wCall, wCall0, wVar, wC, wLc, wLcM, wYes, wiL, wiT, wiS, wiR, wiEnT, wiEnL, wiZip, wSl, woNone, woSome, wMt, wJoin, wGet, wUn, wTru, wDNew, fin, List.getElem?_cons_zero, List.getElem?_cons_succ, List.set_cons_zero, List.set_cons_succ]
            refine r_rises (by rw [List.length_map]; exact xl) ?_
            cases qd : decide ((xs.map fun x => intOf (placeD (lst t.2) x)).Pairwise (· < ·)) with
            | false =>
              rw [qd] at fin
              have := fin M2 (ExtA.refl M2)
              rw [Bool.and_false] at this
              exact this
            | true =>
              rw [qd] at fin
              refine (show rdIx _ _ M2 _ from ix_tup (at0 _ _) (isn_ok oc ?_))
              cases qn : DL.isNon c with
              | true =>
                rw [qn] at fin
                exact fin M2 (ExtA.refl M2)
              | false =>
                rw [qn] at fin
                refine (show ∃ e, Thaw (colsF t.2) e ∧ _ from ⟨colsF t.2, .refl _, ix_tup (at0 _ _) ⟨t.2, c, rfl, ⟨okc.nm, okc.kd, Nat.le_trans okc.le (by decide)⟩, okp.nd t ht, oc, fc, fun M3 e3 => ?_⟩⟩)
                have := fin M3 e3
                rw [Bool.false_or, Bool.and_true] at this
                exact this
        | _ => exact tt (out fun c' xs e => by cases e)
      · exact tt' (by rw [decide_eq_false (by omega)]; rfl) (out fun c xs e => hl (by cases e; rfl))
    | _ => exact tt (out fun c xs e => by cases e)
  | _ => exact tt (by have := hk M (ExtA.refl M); exact this)
end
end K04

set_option autoImplicit false
set_option maxRecDepth 100000
set_option maxHeartbeats 4000000
namespace K04
open PySem L2 DL
/-! things of any kind -/
mutual
theorem tg_far {N : Nat} {M : Mem} : ∀ {a b c : Nat} {d : D}, Tg N M a b c d → far d ≤ b
  | _, _, _, _, .non => by unfold DL.far; omega
  | _, _, _, _, .bl _ => by unfold DL.far; omega
  | _, _, _, _, .int _ _ => by unfold DL.far; omega
  | _, _, _, _, .str _ _ => by unfold DL.far; omega
  | _, _, _, _, .tup h _ => by unfold DL.far; have := tgs_far h; omega
  | _, _, _, _, .lst h => by unfold DL.far; have := tgs_far h; omega
  | _, _, _, _, .bare _ => by unfold DL.far; omega
  | _, _, _, _, .one _ _ _ _ => by unfold DL.far; omega
theorem tgs_far {N : Nat} {M : Mem} : ∀ {a b c : Nat} {d : List D}, Tgs N M a b c d → fars d ≤ b
  | _, _, _, _, .nil => by unfold DL.fars; omega
  | _, _, _, _, .cons h t _ => by unfold DL.fars; have := tg_far h; have := tgs_far t; omega
end
mutual
theorem tg_okR {N : Nat} {M : Mem} : ∀ {a b c : Nat} {d : D}, Tg N M a b c d → a ≤ 1000000 → c ≤ 1000 → okR M d
  | _, _, _, _, .non, _, _ => by unfold K04.okR; trivial
  | _, _, _, _, .bl _, _, _ => by unfold K04.okR; trivial
  | _, _, _, _, .int _ _, _, _ => by unfold K04.okR; trivial
  | _, _, _, _, .str _ h, ha, _ => by unfold K04.okR; omega
  | _, _, _, _, .tup h h2, ha, hc => by unfold K04.okR; exact ⟨by omega, tgs_okRs h ha hc⟩
  | _, _, _, _, .lst _, _, _ => by unfold K04.okR; trivial
  | _, _, _, _, .bare h, _, _ => by unfold K04.okR; rw [tyD_cel, h]; rfl
  | _, _, _, _, .one h _ _ _, _, _ => by unfold K04.okR; rw [tyD_cel, h]; rfl
theorem tgs_okRs {N : Nat} {M : Mem} : ∀ {a b c : Nat} {d : List D}, Tgs N M a b c d → a ≤ 1000000 → c ≤ 1000 → okRs M d
  | _, _, _, _, .nil, _, _ => by unfold K04.okRs; trivial
  | _, _, _, _, .cons h t e, ha, hc => by unfold K04.okRs; exact ⟨tg_okR h (by omega) hc, tgs_okRs t (by omega) hc⟩
end
theorem Ex.growD {h : Addr} {n : Nat} {M M' : Mem} (e : Ex h M M') (q : Hn M h n) : GrowD M M' := fun a kvs z => by
  refine e a _ (fun y => ?_) z
  obtain ⟨x, y2, z2, q, _⟩ := q
  rw [y, q] at z
  cases z
theorem ExtA.growD {M M' : Mem} (e : ExtA M M') : GrowD M M' := fun a kvs z => e a _ z
/-- a thing without dicts, looked at -/
def tgB (N c : Nat) : Nat → Nat → D → Bool
  | _, _, .non => true
  | _, _, .bl _ => true
  | _, a, .int i => decide (i.natAbs < N) && decide (41 ≤ a)
  | _, a, .str s => plain s && decide (s.length ≤ a)
  | b + 1, a, .tup ds => decide (ds.length ≤ c) && (decide (ds.length * (a / ds.length - 1 + 1) ≤ a) && ds.all fun d => tgB N c b (a / ds.length - 1) d)
  | b + 1, a, .lst ds => decide (ds.length * (a / ds.length - 1 + 1) ≤ a) && ds.all fun d => tgB N c b (a / ds.length - 1) d
  | _, _, _ => false
theorem tgB_ok {N c : Nat} {M : Mem} : ∀ (b a : Nat) (d : D), tgB N c b a d = true → Tg N M a b c d
  | b, a, .non, _ => .non
  | b, a, .bl _, _ => .bl _
  | b, a, .int i, h => by
    unfold tgB at h
    simp only [Bool.and_eq_true, decide_eq_true_eq] at h
    exact .int h.1 h.2
  | b, a, .str s, h => by
    unfold tgB at h
    simp only [Bool.and_eq_true, decide_eq_true_eq] at h
    exact .str h.1 h.2
  | 0, a, .tup ds, h => by unfold tgB at h; cases h
  | 0, a, .lst ds, h => by unfold tgB at h; cases h
  | b + 1, a, .tup ds, h => by
    unfold tgB at h
    simp only [Bool.and_eq_true, decide_eq_true_eq, List.all_eq_true] at h
    exact .tup ((Tgs.all fun d hd => tgB_ok b _ d (h.2.2 d hd)).le h.2.1 (Nat.le_refl _) (Nat.le_refl _)) h.1
  | b + 1, a, .lst ds, h => by
    unfold tgB at h
    simp only [Bool.and_eq_true, decide_eq_true_eq, List.all_eq_true] at h
    exact .lst ((Tgs.all fun d hd => tgB_ok b _ d (h.2 d hd)).le h.1 (Nat.le_refl _) (Nat.le_refl _))
  | b, a, .scr _, h => by cases b <;> (unfold tgB at h; cases h)
  | b, a, .cel _, h => by cases b <;> (unfold tgB at h; cases h)
  | b, a, .ty _, h => by cases b <;> (unfold tgB at h; cases h)
  | b, a, .ftp _, h => by cases b <;> (unfold tgB at h; cases h)
theorem tg_nil {N a b c : Nat} {M : Mem} (h : 0 < b) : Tg N M a b c (.tup []) := by
  obtain ⟨b, rfl⟩ : ∃ b', b = b' + 1 := ⟨b - 1, by omega⟩
  exact .tup .nil (Nat.zero_le _)
theorem rng_len (n : Nat) : (rng 0 n).length = n := by unfold rng; simp
section
variable {N : Nat} {M : Mem}
theorem tg_all {n b c m a : Nat} {ds : List D} (h : ∀ d ∈ ds, Tg N M n b c d) (hl : ds.length ≤ m) (hc : ds.length ≤ c) (ha : m * (n + 1) ≤ a) : Tg N M a (b + 1) c (.tup ds) :=
  .tup ((Tgs.all h).le (Nat.le_trans (Nat.mul_le_mul_right _ hl) ha) (Nat.le_refl _) (Nat.le_refl _)) hc
theorem tg_str {s : Str} (h : plain s = true ∧ s.length ≤ 60) {b c : Nat} : Tg N M 60 b c (.str s) := .str h.1 h.2
theorem tg_two {n b c a : Nat} {x y : D} (h1 : Tg N M n b c x) (h2 : Tg N M n b c y) (hc : 2 ≤ c) (ha : 2 * (n + 1) ≤ a) : Tg N M a (b + 1) c (.tup [x, y]) := tg_all (n := n) (m := 2) (fun d hd => by
  simp only [List.mem_cons, List.not_mem_nil, or_false] at hd
  rcases hd with rfl | rfl
  · exact h1
  · exact h2) (Nat.le_refl 2) hc ha
theorem tg_three {n b c a : Nat} {x y z : D} (h1 : Tg N M n b c x) (h2 : Tg N M n b c y) (h3 : Tg N M n b c z) (hc : 3 ≤ c) (ha : 3 * (n + 1) ≤ a) : Tg N M a (b + 1) c (.tup [x, y, z]) := tg_all (n := n) (m := 3) (fun d hd => by
  simp only [List.mem_cons, List.not_mem_nil, or_false] at hd
  rcases hd with rfl | rfl | rfl
  · exact h1
  · exact h2
  · exact h3) (Nat.le_refl 3) hc ha
end
section
variable {P : Program} {w : World} {K : PySem.W.Frag} {mg : Str → Option Value} {base : Heap}
def F_odd : FD := fun ds M k => ∃ h n, ds = [.cel h] ∧ Hn M h n ∧ n + 20 ≤ 1000000000 ∧ ∀ d M', Tg 1000000002 M' 400 20 60 d → Hn M' h (n + 17) → Ex h M M' → k d M'
theorem ok_odd (T : Txt K mg) (B : DD K mg) : DFn P w K mg base 3 B.f_law_odd B.fd_law_odd p_law_odd F_odd := by
  have G_law_pick : DFn P w K mg base 2 B.f_law_pick B.fd_law_pick p_law_pick F_pick := ok_pick T B
  refine Fun.okD B.d_law_odd.F sc_law_odd (fun cdv A outer s H E hr => (dss_cons (ds_set (i := 1) sc_law_odd.nd (de_lst (da_cons de_non (da_cons de_bl (da_cons de_bl (da_cons de_int (da_cons de_str (da_cons de_str (da_cons de_str (da_cons (de_tup da_nil) (da_cons (de_lst da_nil) (da_cons de_dnew (da_cons (de_tup (da_cons de_non da_nil)) (da_cons (de_tup (da_cons de_non (da_cons de_non da_nil))) (da_cons (de_tup (da_cons de_str (da_cons de_str (da_cons de_non da_nil)))) (da_cons (de_tup (da_cons (de_tup da_nil) (da_cons (de_tup da_nil) da_nil))) da_nil)))))))))))))))) (dss_cons (ds_set (i := 2) sc_law_odd.nd (de_own B.d_law_pick G_law_pick hr (by first | decide | omega) (da_cons (dv 0) (da_cons (dv 1) da_nil)))) (dss_cons (ds_for rfl (di_range T.b_range (da_cons (de_own B.d_law_pick G_law_pick hr (by first | decide | omega) (da_cons (dv 0) (da_cons (de_lst (da_cons de_int (da_cons de_int (da_cons de_int (da_cons de_int da_nil))))) da_nil))) da_nil)) (dg_name (i := 3) sc_law_odd.nd) (dss_one (ds_set (i := 2) sc_law_odd.nd (de_own B.d_law_pick G_law_pick hr (by first | decide | omega) (da_cons (dv 0) (da_cons (de_lst (da_cons (de_tup (da_cons (dv 2) da_nil)) (da_cons (de_lst (da_cons (dv 2) da_nil)) (da_cons (de_disp1 de_str (dv 2)) (da_cons (de_tup (da_cons (dv 2) (da_cons (de_tup da_nil) da_nil))) da_nil))))) da_nil)))))) (dss_one (ds_ret (dv 2))))))) (fun ds M k h => ?_)
  obtain ⟨h, n, rfl, hh, hn, hk⟩ := h
  (refine ⟨rfl, ?_⟩; rw [show startD N_law_odd [.cel h] = [some (.cel h), none, none, none] from rfl])
  have hz := sizeLine_eq
  refine seq_step ?_
  simp only [wUpd, wDisp1, wNext, wBreak, wContinue, wExpr, wRet, wRetN, wSet, wAsg, wPar, wPar3, wSub, wTst, wOp, wChain, wNotT, wAndV, wOrV, wNotV, wIf, wNil, wCons, wTup, wLst, wLstM, wCall, wCall0, wVar, wC, wLc, wLcM, wYes, wiL, wiT, wiS, wiR, wiEnT, wiEnL, wiZip, wSl, woNone, woSome, wMt, wJoin, wGet, wUn, wTru, wDNew, fin, List.getElem?_cons_zero, List.getElem?_cons_succ, List.set_cons_zero, List.set_cons_succ]
  repeat refine ⟨Nat.le_of_ble_eq_true rfl, ?_⟩
  intro p hp
  repeat refine ⟨Nat.le_of_ble_eq_true rfl, ?_⟩
  have mp : setM M p (.dct []) p = some (.dct []) := setM_same
  have ph := hh.fresh hp
  have h1 := hh.set (c := .dct []) ph
  have e1 := (Ex.refl h M).new (c := .dct []) hp
  generalize setM M p (.dct []) = M1 at mp h1 e1 ⊢
  refine seq_step ?_
  simp only [wUpd, wDisp1, wNext, wBreak, wContinue, wExpr, wRet, wRetN, wSet, wAsg, wPar, wPar3, wSub, wTst, wOp, wChain, wNotT, wAndV, wOrV, wNotV, wIf, wNil, wCons, wTup, wLst, wLstM, wCall, wCall0, wVar, wC, wLc, wLcM, wYes, wiL, wiT, wiS, wiR, wiEnT, wiEnL, wiZip, wSl, woNone, woSome, wMt, wJoin, wGet, wUn, wTru, wDNew, fin, List.getElem?_cons_zero, List.getElem?_cons_succ, List.set_cons_zero, List.set_cons_succ]
  refine ⟨h, n, _, _, rfl, h1, by omega, .inr (.inl rfl), by simp, by simp, fun th M2 hth h2 e2 => ?_⟩
  have t2 : Tg 1000000002 M2 200 4 4 th := by
    by_cases e : th = .cel p
    · subst e
      exact .bare ((e2.growD h1) _ _ mp)
    · simp only [List.mem_cons, List.not_mem_nil, or_false] at hth
      rcases hth with hd | hd | hd | hd | hd | hd | hd | hd | hd | hd | hd | hd | hd | hd <;> first | exact absurd hd e | (subst hd; exact tgB_ok 4 200 _ (by decide +kernel))
  have e02 := e1.trans e2
  refine seq_step ?_
  simp only [wFor, wUpd, wDisp1, wNext, wBreak, wContinue, wExpr, wRet, wRetN, wSet, wAsg, wPar, wPar3, wSub, wTst, wOp, wChain, wNotT, wAndV, wOrV, wNotV, wIf, wNil, wCons, wTup, wLst, wLstM, wCall, wCall0, wVar, wC, wLc, wLcM, wYes, wiL, wiT, wiS, wiR, wiEnT, wiEnL, wiZip, wSl, woNone, woSome, wMt, wJoin, wGet, wUn, wTru, wDNew, fin, List.getElem?_cons_zero, List.getElem?_cons_succ, List.set_cons_zero, List.set_cons_succ]
  repeat refine ⟨Nat.le_of_ble_eq_true rfl, ?_⟩
  refine ⟨h, n + 1, _, _, rfl, h2, by omega, .inr (.inl rfl), by decide, by decide, fun m M3 hm3 h3 e3 => ?_⟩
  obtain ⟨m, rfl, hm⟩ : ∃ i : Nat, m = .int (i : Nat) ∧ i ≤ 15 := by
    simp only [List.mem_cons, List.not_mem_nil, or_false] at hm3
    rcases hm3 with rfl | rfl | rfl | rfl
    · exact ⟨0, rfl, by decide⟩
    · exact ⟨0, rfl, by decide⟩
    · exact ⟨1, rfl, by decide⟩
    · exact ⟨15, rfl, by decide⟩
  refine ⟨⟨by omega, by omega⟩, ?_⟩
  rw [show ((m : Nat) : Int).toNat = m from Int.toNat_natCast m]
  refine loop_inv (fun its Γ M' => its.length ≤ 15 ∧ ∃ d x1 x3, Tg 1000000002 M' (200 + 7 * (15 - its.length)) (4 + (15 - its.length)) 4 d ∧ Hn M' h (n + 2 + (15 - its.length)) ∧ Ex h M M' ∧ Γ = [some (.cel h), x1, some d, x3]) (fun _ _ _ _ => trivial) ?_ ?_ _ _ _
    ⟨by rw [rng_len]; omega, th, _, _, (t2.up (Nat.le_refl _) (e3.growD h2) (by omega) (by omega) (Nat.le_refl _)), h3.up (by omega), e02.trans e3, rfl⟩
  · rintro Γ M5 ⟨_, d, x1, x3, t5, h5, e5, rfl⟩
    simp only [wNext, wBreak, wContinue, wExpr, wRet, wRetN, wSet, wAsg, wPar, wPar3, wSub, wTst, wOp, wChain, wNotT, wAndV, wOrV, wNotV, wIf, wNil, wCons, wTup, wLst, wLstM, wCall, wCall0, wVar, wC, wLc, wLcM, wYes, wiL, wiT, wiS, wiR, wiEnT, wiEnL, wiZip, wSl, woNone, woSome, wMt, wJoin, wGet, wUn, wTru, wDNew, fin, List.getElem?_cons_zero, List.getElem?_cons_succ, List.set_cons_zero, List.set_cons_succ]
    exact hk d M5 (t5.le (by simp) (by simp) (by omega)) (h5.up (by simp)) e5
  · rintro i its Γ M5 ⟨hl, d, x1, x3, t5, h5, e5, rfl⟩
    rw [List.length_cons] at hl t5 h5
    refine ⟨_, rfl, fun k' v1 v2 v3 v4 => ?_⟩
    simp only [wUpd, wDisp1, wNext, wBreak, wContinue, wExpr, wRet, wRetN, wSet, wAsg, wPar, wPar3, wSub, wTst, wOp, wChain, wNotT, wAndV, wOrV, wNotV, wIf, wNil, wCons, wTup, wLst, wLstM, wCall, wCall0, wVar, wC, wLc, wLcM, wYes, wiL, wiT, wiS, wiR, wiEnT, wiEnL, wiZip, wSl, woNone, woSome, wMt, wJoin, wGet, wUn, wTru, wDNew, fin, List.getElem?_cons_zero, List.getElem?_cons_succ, List.set_cons_zero, List.set_cons_succ]
    repeat refine ⟨Nat.le_of_ble_eq_true rfl, ?_⟩
    refine fun p hp => ⟨setM_same, ?_⟩
    simp only [keyD, setM_setM]
    repeat refine ⟨Nat.le_of_ble_eq_true rfl, ?_⟩
    have mp : setM M5 p (.dct [(.inr (Str.ofString "a"), d)]) p = some (.dct [(.inr (Str.ofString "a"), d)]) := setM_same
    have h6 := h5.set (c := .dct [(.inr (Str.ofString "a"), d)]) (h5.fresh hp)
    have e6 := (Ex.refl h M5).new (c := .dct [(.inr (Str.ofString "a"), d)]) hp
    generalize setM M5 p (.dct [(.inr (Str.ofString "a"), d)]) = M6 at mp h6 e6 ⊢
    have t6 := t5.up (Nat.le_refl _) (e6.growD h5) (Nat.le_refl _) (Nat.le_refl _) (Nat.le_refl _)
    refine ⟨h, _, _, _, rfl, h6, by omega, .inr (.inl rfl), by simp, by simp, fun y M7 hy h7 e7 => ?_⟩
    refine v3 _ _ ⟨by omega, y, _, _, Tg.up (M := M6) (Nat.le_refl _) (e7.growD h6) ?_ (Nat.le_refl _) (Nat.le_refl _) (Nat.le_refl _), h7.up (by rw [show n + 2 + (15 - its.length) = n + 2 + (15 - (its.length + 1)) + 1 by omega]; exact Nat.le_refl _), e5.trans (e6.trans e7), rfl⟩
    have l1 : (Str.ofString "a").length = 1 := by decide +kernel
    have p1 : plain (Str.ofString "a") = true := by decide +kernel
    have ea : 15 - its.length = (15 - (its.length + 1)) + 1 := by omega
    rw [ea]
    simp only [List.mem_cons, List.not_mem_nil, or_false] at hy
    rcases hy with rfl | rfl | rfl | rfl
    · exact (Tg.tup t6.one1 (show 1 ≤ 4 by decide)).le (by omega) (by omega) (Nat.le_refl _)
    · exact (Tg.lst t6.one1).le (by omega) (by omega) (Nat.le_refl _)
    · exact (Tg.one mp p1 t6 (Nat.le_refl _)).le (by omega) (by omega) (Nat.le_refl _)
    · exact Tg.le (a := 200 + 7 * (15 - (its.length + 1)) + 2) (Tg.tup (.cons t6 (Tg.one1 (a := 0) (tg_nil (by omega))) (by omega)) (show 2 ≤ 4 by decide)) (by omega) (by omega) (Nat.le_refl _)
end
end K04

set_option autoImplicit false
set_option maxRecDepth 100000
set_option maxHeartbeats 4000000
namespace K04
open PySem L2 DL
/-! rights with one thing otherwise -/
theorem nm_plain {s : Str} (h : isNm s = true) : plain s = true ∧ s.length ≤ 8 := by
  unfold isNm at h
  simp only [Bool.and_eq_true, decide_eq_true_eq, List.all_eq_true] at h
  refine ⟨plain_iff.mpr fun x hx => ?_, h.1.2⟩
  have := h.2 x hx
  unfold letter at this
  simp at this
  omega
theorem nm_plt {s : Str} (h : isNm s = true) : plain s = true ∧ s.length ≤ 60 := by
  have := nm_plain h
  exact ⟨this.1, by omega⟩
section
variable {N : Nat} {M : Mem}
theorem tg_wfit {kd : Str} {x : D} (h : WFit kd x) (hN : 1000000002 ≤ N) {b : Nat} : Tg N M 60 b 60 x := by
  cases h with
  | non => exact .non
  | num i hi => exact .int (by omega) (by omega)
  | nam s hs => exact tg_str (nm_plt hs)
theorem tg_word {s : Str} (h : plain s = true ∧ s.length ≤ 60 := by decide +kernel) {b : Nat} : Tg N M 60 b 60 (.str s) := tg_str h
theorem tg_chk {cs : Cols} (hc : ∀ c ∈ cs, isNm c.1 = true) (hN : 1000000002 ≤ N) : ∀ {n : Nat} {d : D}, Chk cs n d → n ≤ 1 → Tg N M (183 + 369 * n) (1 + n) 60 d := by
  intro n d h
  induction h with
  | @is n a kd w ha hw =>
    intro _
    exact (tg_three (n := 60) (b := 0) tg_word (tg_str (nm_plt (hc _ ha))) (tg_wfit hw hN) (by decide) (Nat.le_refl _)).le (by omega) (by omega) (Nat.le_refl _)
  | @lt n a i ha hi =>
    intro _
    exact (tg_three (n := 60) (b := 0) tg_word (tg_str (nm_plt (hc _ ha))) (.int (by omega) (by omega)) (by decide) (Nat.le_refl _)).le (by omega) (by omega) (Nat.le_refl _)
  | @like n a b kd ha hb =>
    intro _
    exact (tg_three (n := 60) (b := 0) tg_word (tg_str (nm_plt (hc _ ha))) (tg_str (nm_plt (hc _ hb))) (by decide) (Nat.le_refl _)).le (by omega) (by omega) (Nat.le_refl _)
  | @not n x h ih =>
    intro hn
    obtain rfl : n = 0 := by omega
    exact (tg_two (n := 183) (b := 1) (Tg.le (tg_word (b := 0)) (by omega) (by omega) (Nat.le_refl _)) (ih (by omega)) (by decide) (Nat.le_refl _)).le (by omega) (by omega) (Nat.le_refl _)
  | @and n x y h1 h2 ih1 ih2 =>
    intro hn
    obtain rfl : n = 0 := by omega
    exact (tg_three (n := 183) (b := 1) (Tg.le (tg_word (b := 0)) (by omega) (by omega) (Nat.le_refl _)) (ih1 (by omega)) (ih2 (by omega)) (by decide) (Nat.le_refl _)).le (by omega) (by omega) (Nat.le_refl _)
  | @or n x y h1 h2 ih1 ih2 =>
    intro hn
    obtain rfl : n = 0 := by omega
    exact (tg_three (n := 183) (b := 1) (Tg.le (tg_word (b := 0)) (by omega) (by omega) (Nat.le_refl _)) (ih1 (by omega)) (ih2 (by omega)) (by decide) (Nat.le_refl _)).le (by omega) (by omega) (Nat.le_refl _)
theorem tgs_names {cs : Cols} (okc : ColsN 4 cs) {ns : List Str} (h : ns.Sublist (cs.map (·.1))) : Tgs N M 244 0 60 (ns.map D.str) ∧ ns.length ≤ 4 := by
  have hl : ns.length ≤ 4 := by have := h.length_le; rw [List.length_map] at this; have := okc.le; omega
  have := Tgs.all (N := N) (M := M) (n := 60) (b := 0) (c := 60) (ds := ns.map D.str) fun d hd => by
    obtain ⟨s, hs, rfl⟩ := List.mem_map.mp hd
    obtain ⟨c, hc, rfl⟩ := List.mem_map.mp (h.subset hs)
    exact tg_str (nm_plt (okc.nm c hc))
  refine ⟨this.le ?_ (Nat.le_refl _) (Nat.le_refl _), hl⟩
  rw [List.length_map]; omega
end
section
variable {P : Program} {w : World} {K : PySem.W.Frag} {mg : Str → Option Value} {base : Heap}
theorem r_listT {M : Mem} {k : KD} {ds : List D} (h : k (.lst ds) M) : rdList [.tup ds] M k := h
theorem r_backT {M : Mem} {k : KD} {ds : List D} (h : k (.tup ds.reverse) M) : rdBack (.tup ds) M k := h
def F_bent : FD := fun ds M k => ∃ h n cs right, ds = [.cel h, right] ∧ Hn M h n ∧ n + 100 ≤ 1000000000 ∧ ColsN 4 cs ∧ RightN cs right ∧ ∀ d M', Tg 1000000002 M' 3000 30 60 d → Hn M' h (n + 60) → Ex h M M' → k d M'
theorem ok_bent (T : Txt K mg) (B : DD K mg) : DFn P w K mg base 4 B.f_law_bent B.fd_law_bent p_law_bent F_bent := by
  have G_law_take : DFn P w K mg base 1 B.f_law_take B.fd_law_take p_law_take F_take := ok_take T B
  have G_law_pick : DFn P w K mg base 2 B.f_law_pick B.fd_law_pick p_law_pick F_pick := ok_pick T B
  have G_law_odd : DFn P w K mg base 3 B.f_law_odd B.fd_law_odd p_law_odd F_odd := ok_odd T B
  refine Fun.okD B.d_law_bent.F sc_law_bent (fun cdv A outer s H E hr => (dss_cons (ds_if (dt_cmpA c_is (dv 1) de_non) (dss_one (ds_ret (de_own B.d_law_odd G_law_odd hr (by first | decide | omega) (da_cons (dv 0) da_nil)))) dss_nil) (dss_cons (ds_asg (dg_tup rfl (dgs_cons (dg_name (i := 2) sc_law_bent.nd) (dgs_cons (dg_name (i := 3) sc_law_bent.nd) dgs_nil)) (gsCons_len (gsCons_len gsNil_len))) (dv 1)) (dss_cons (ds_par (i := 4) (j := 5) rfl sc_law_bent.nd (da_cons (de_own B.d_law_take G_law_take hr (by first | decide | omega) (da_cons (dv 0) (da_cons (de_add (de_len T.b_len (dv 3)) de_int) da_nil))) (da_cons (de_own B.d_law_odd G_law_odd hr (by first | decide | omega) (da_cons (dv 0) da_nil)) da_nil)) rfl rfl (by decide) rfl rfl (by rfl)) (dss_cons (ds_set (i := 6) sc_law_bent.nd (de_lst (da_cons (de_back (dv 3)) (da_cons (de_add (dv 3) (de_slice (dv 3) do_none (do_some de_int))) (da_cons (de_add (de_slice (dv 3) do_none (do_some (dv 4))) (de_slice (dv 3) (do_some (de_add (dv 4) de_int)) do_none)) (da_cons (de_list T.b_list (dv 3)) (da_cons (de_add (de_add (de_slice (dv 3) do_none (do_some (dv 4))) (de_tup (da_cons (dv 5) da_nil))) (de_slice (dv 3) (do_some (dv 4)) do_none)) da_nil))))))) (dss_cons (ds_set (i := 6) sc_law_bent.nd (de_add (de_lc rfl sc_law_bent.nd (di_list (dv 6)) (blkOk_by (own := [("one", 7)]) (N := N_law_bent) (sc := defScope s_law_bent) (by decide +kernel)) (fun _ _ _ _ _ => (dg_name (i := 7) sc_law_bent.nd)) gd_name (fun _ _ _ _ _ => dts_nil) (fun _ _ _ _ _ => (de_tup (da_cons (dv 2) (da_cons (dv 7) da_nil))))) (de_lst (da_cons (de_add (dv 1) (de_tup (da_cons de_int da_nil))) (da_cons (de_slice (dv 1) do_none (do_some de_int)) (da_cons (de_list T.b_list (dv 1)) (da_cons (de_tup (da_cons (dv 3) (da_cons (dv 2) da_nil))) da_nil))))))) (dss_cons (ds_set (i := 8) sc_law_bent.nd (de_lst (da_cons (dv 5) (da_cons (de_tup (da_cons de_str (da_cons (dv 2) da_nil))) (da_cons (de_tup (da_cons de_str (da_cons de_str (da_cons (dv 5) da_nil)))) (da_cons (de_tup (da_cons de_str (da_cons de_str (da_cons de_non da_nil)))) (da_cons (de_tup (da_cons de_str (da_cons de_str (da_cons de_str da_nil)))) (da_cons (de_tup (da_cons de_str (da_cons de_str da_nil))) da_nil)))))))) (dss_one (ds_ret (de_own B.d_law_pick G_law_pick hr (by first | decide | omega) (da_cons (dv 0) (da_cons (de_add (dv 6) (de_lc rfl sc_law_bent.nd (di_list (dv 8)) (blkOk_by (own := [("one", 7)]) (N := N_law_bent) (sc := defScope s_law_bent) (by decide +kernel)) (fun _ _ _ _ _ => (dg_name (i := 7) sc_law_bent.nd)) gd_name (fun _ _ _ _ _ => dts_nil) (fun _ _ _ _ _ => (de_tup (da_cons (dv 7) (da_cons (dv 3) da_nil)))))) da_nil)))))))))))) (fun ds M k h => ?_)
  obtain ⟨h, n, cs, right, rfl, hh, hn, okc, rn, hk⟩ := h
  (refine ⟨rfl, ?_⟩; rw [show startD N_law_bent [.cel h, right] = [some (.cel h), some (right), none, none, none, none, none, none, none] from rfl])
  have hz := sizeLine_eq
  refine seq_step ?_
  try unfold wIfS
  simp only [wUpd, wDisp1, wNext, wBreak, wContinue, wExpr, wRet, wRetN, wSet, wAsg, wPar, wPar3, wSub, wTst, wOp, wChain, wNotT, wAndV, wOrV, wNotV, wIf, wNil, wCons, wTup, wLst, wLstM, wCall, wCall0, wVar, wC, wLc, wLcM, wYes, wiL, wiT, wiS, wiR, wiEnT, wiEnL, wiZip, wSl, woNone, woSome, wMt, wJoin, wGet, wUn, wTru, wDNew, fin, List.getElem?_cons_zero, List.getElem?_cons_succ, List.set_cons_zero, List.set_cons_succ]
  cases rn with
  | non =>
    refine r_isN (tt ?_)
    exact ⟨h, n, rfl, hh, by omega, fun d M' t h1 e1 => hk d M' (t.le (by omega) (by omega) (Nat.le_refl _)) (h1.up (by omega)) e1⟩
  | mk c ns hc hs =>
    refine r_isT (ff ?_)
    refine seq_step ?_
    simp only [gT, gsCons, gN, gsNil, wUpd, wDisp1, wNext, wBreak, wContinue, wExpr, wRet, wRetN, wSet, wAsg, wPar, wPar3, wSub, wTst, wOp, wChain, wNotT, wAndV, wOrV, wNotV, wIf, wNil, wCons, wTup, wLst, wLstM, wCall, wCall0, wVar, wC, wLc, wLcM, wYes, wiL, wiT, wiS, wiR, wiEnT, wiEnL, wiZip, wSl, woNone, woSome, wMt, wJoin, wGet, wUn, wTru, wDNew, fin, List.getElem?_cons_zero, List.getElem?_cons_succ, List.set_cons_zero, List.set_cons_succ]
    refine seq_step ?_
    simp only [wUpd, wDisp1, wNext, wBreak, wContinue, wExpr, wRet, wRetN, wSet, wAsg, wPar, wPar3, wSub, wTst, wOp, wChain, wNotT, wAndV, wOrV, wNotV, wIf, wNil, wCons, wTup, wLst, wLstM, wCall, wCall0, wVar, wC, wLc, wLcM, wYes, wiL, wiT, wiS, wiR, wiEnT, wiEnL, wiZip, wSl, woNone, woSome, wMt, wJoin, wGet, wUn, wTru, wDNew, fin, List.getElem?_cons_zero, List.getElem?_cons_succ, List.set_cons_zero, List.set_cons_succ]
    have nl : ns.length ≤ 4 := by have := hs.length_le; rw [List.length_map] at this; have := okc.le; omega
    refine r_lenT (r_add ⟨h, n, _, rfl, hh, by omega, by omega, by rw [List.length_map]; omega, fun r M1 r0 r1 h1 e1 => ?_⟩)
    refine ⟨h, n + 1, rfl, h1, by omega, fun odd M2 to h2 e2 => ?_⟩
    have e02 := e1.trans e2
    have mem5 : ∀ {b : Nat}, Tgs 1000000002 M2 244 b 60 (ns.map D.str) := fun {b} => (tgs_names okc hs).1.le (Nat.le_refl _) (by omega) (Nat.le_refl _)
    have nsl : (ns.map D.str).length ≤ 4 := by rw [List.length_map]; exact nl
    have tc : Tg 1000000002 M2 552 2 60 c := by
      rcases hc with rfl | hc
      · exact .non
      · exact tg_chk okc.nm (Nat.le_refl _) hc (Nat.le_refl 1)
    generalize ns.map D.str = NS at mem5 nsl ⊢
    have cl := fun lo hi => cut_le NS lo hi
    dsimp only
    refine seq_join (fun Γ' M' => ∃ L, Γ' = [some (.cel h), some (.tup [c, .tup NS]), some c, some (.tup NS), some (.int r), some odd, some (.lst L), none, none] ∧ (∀ d ∈ L, Tg 1000000002 M2 1100 22 60 d) ∧ L.length = 5 ∧ M' = M2) ?_ ?_
    rotate_left
    · intro nx hnx
      simp only [wUpd, wDisp1, wNext, wBreak, wContinue, wExpr, wRet, wRetN, wSet, wAsg, wPar, wPar3, wSub, wTst, wOp, wChain, wNotT, wAndV, wOrV, wNotV, wIf, wNil, wCons, wTup, wLst, wLstM, wCall, wCall0, wVar, wC, wLc, wLcM, wYes, wiL, wiT, wiS, wiR, wiEnT, wiEnL, wiZip, wSl, woNone, woSome, wMt, wJoin, wGet, wUn, wTru, wDNew, fin, List.getElem?_cons_zero, List.getElem?_cons_succ, List.set_cons_zero, List.set_cons_succ]
      have c1 := cl none (some 1)
      have c2 := cl none (some r)
      have c3 := cl (some (r + 1)) none
      have c4 := cl (some r) none
      refine r_backT (r_slT (r_addT (z1 (by omega)) ?_))
      refine r_slT (r_add (show rdSl (.tup NS) (some (r + 1)) none M2 _ from r_slT (r_addT (z1 (by omega)) ?_)))
      refine r_listT (r_slT ⟨Nat.le_of_ble_eq_true rfl, r_addT (z1 (by rw [List.length_singleton]; omega)) ?_⟩)
      refine (show rdSl (.tup NS) (some r) none M2 _ from r_slT (r_addT (z1 (by rw [List.length_append, List.length_singleton]; omega)) ⟨Nat.le_of_ble_eq_true rfl, ?_⟩))
      refine hnx _ _ ⟨_, rfl, fun d hd => ?_, rfl, rfl⟩
      simp only [List.mem_cons, List.not_mem_nil, or_false] at hd
      rcases hd with rfl | rfl | rfl | rfl | rfl
      · exact (Tg.tup (b := 20) mem5.rev (by rw [List.length_reverse]; omega)).le (by omega) (by omega) (Nat.le_refl _)
      · exact (Tg.tup (b := 20) (mem5.app (mem5.cut _ _)) (by rw [List.length_append]; omega)).le (by omega) (by omega) (Nat.le_refl _)
      · exact (Tg.tup (b := 20) ((mem5.cut _ _).app (mem5.cut _ _)) (by rw [List.length_append]; omega)).le (by omega) (by omega) (Nat.le_refl _)
      · exact (Tg.lst (b := 20) mem5).le (by omega) (by omega) (Nat.le_refl _)
      · exact (Tg.tup (b := 20) (((mem5.cut _ _).app to.one1).app (mem5.cut _ _)) (by rw [List.length_append, List.length_append, List.length_singleton]; omega)).le (by omega) (by omega) (Nat.le_refl _)
    rintro Γ3 M3 ⟨L, rfl, gL, lL, rfl⟩
    refine seq_join (fun Γ' M' => ∃ L x7, Γ' = [some (.cel h), some (.tup [c, .tup NS]), some c, some (.tup NS), some (.int r), some odd, some (.lst L), x7, none] ∧ (∀ d ∈ L, Tg 1000000002 M3 2400 24 60 d) ∧ L.length = 9 ∧ M' = M3) ?_ ?_
    rotate_left
    · intro nx hnx
      simp only [wUpd, wDisp1, wNext, wBreak, wContinue, wExpr, wRet, wRetN, wSet, wAsg, wPar, wPar3, wSub, wTst, wOp, wChain, wNotT, wAndV, wOrV, wNotV, wIf, wNil, wCons, wTup, wLst, wLstM, wCall, wCall0, wVar, wC, wLc, wLcM, wYes, wiL, wiT, wiS, wiR, wiEnT, wiEnL, wiZip, wSl, woNone, woSome, wMt, wJoin, wGet, wUn, wTru, wDNew, fin, List.getElem?_cons_zero, List.getElem?_cons_succ, List.set_cons_zero, List.set_cons_succ]
      try simp only [asR]
      refine lc_map (fun d => .tup [c, d]) (G := gAt (.lst L) L) (M := M3) rfl _ _ _ (fun d hd => ?_) (z1 (by simp [lL])) ?_
      · refine ⟨_, rfl, fun k' hk' => ?_⟩
        simp only [wNext, wSeq, wBreak, wContinue, wExpr, wRet, wRetN, wIfS, wSet, wAsg, wPar, wPar3, wFor, wSub, wTst, wOp, wChain, wNotT, wAndT, wOrT, wAndV, wOrV, wNotV, wIf, wNil, wCons, wTup, wLst, wLstM, wCall, wCall0, wVar, wC, wLc, wLcM, wYes, wiL, wiT, wiS, wiR, wiEnT, wiEnL, wiZip, wSl, woNone, woSome, wMt, wJoin, wGet, wUn, wTru, wDNew, fin, List.getElem?_cons_zero, List.getElem?_cons_succ, List.set_cons_zero, List.set_cons_succ, wipeD, List.map]
        exact ⟨Nat.le_of_ble_eq_true rfl, hk'⟩
      rw [List.nil_append]
      refine ⟨Nat.le_of_ble_eq_true rfl, r_addT (ds := [c, .tup NS]) (es := [.int 0]) (Nat.le_of_ble_eq_true rfl) ?_⟩
      refine r_slT (r_listT ⟨Nat.le_of_ble_eq_true rfl, ⟨Nat.le_of_ble_eq_true rfl, r_addL (by rw [List.length_map, lL]; exact Nat.le_of_ble_eq_true rfl) ?_⟩⟩)
      have tn : Tg 1000000002 M3 552 2 60 (.tup NS) := (Tg.tup (b := 1) mem5 (by omega)).le (by omega) (by omega) (Nat.le_refl _)
      have two : Tgs 1000000002 M3 1106 2 60 [c, .tup NS] := .cons tc tn.one1 (by omega)
      refine hnx _ _ ⟨_, _, rfl, fun d hd => ?_, by rw [List.length_append, List.length_map, lL]; rfl, rfl⟩
      rcases List.mem_append.mp hd with hd | hd
      · obtain ⟨y, hy, rfl⟩ := List.mem_map.mp hd
        exact (tg_two (n := 1100) (b := 22) (tc.le (by omega) (by omega) (Nat.le_refl _)) (gL y hy) (by decide) (Nat.le_refl _)).le (by omega) (by omega) (Nat.le_refl _)
      · simp only [List.mem_cons, List.not_mem_nil, or_false] at hd
        rcases hd with rfl | rfl | rfl | rfl
        · exact (Tg.tup (two.app (.cons (a1 := 41) (a2 := 0) (.int (by decide) (Nat.le_refl _)) .nil (Nat.le_refl _))) (show 3 ≤ 60 by decide)).le (by omega) (by omega) (Nat.le_refl _)
        · exact (Tg.tup (two.cut _ _) (Nat.le_trans (cut_le _ _ _) (by simp))).le (by omega) (by omega) (Nat.le_refl _)
        · exact (Tg.lst two).le (by omega) (by omega) (Nat.le_refl _)
        · exact (tg_two tn tc (by decide) (Nat.le_refl _)).le (by omega) (by omega) (Nat.le_refl _)
    rintro Γ4 M4 ⟨L5, x7, rfl, gL5, lL5, rfl⟩
    refine seq_join (fun Γ' M' => ∃ L2, Γ' = [some (.cel h), some (.tup [c, .tup NS]), some c, some (.tup NS), some (.int r), some odd, some (.lst L5), x7, some (.lst L2)] ∧ (∀ d ∈ L2, Tg 1000000002 M4 1300 24 60 d) ∧ L2.length = 6 ∧ M' = M4) ?_ ?_
    rotate_left
    · intro nx hnx
      simp only [wUpd, wDisp1, wNext, wBreak, wContinue, wExpr, wRet, wRetN, wSet, wAsg, wPar, wPar3, wSub, wTst, wOp, wChain, wNotT, wAndV, wOrV, wNotV, wIf, wNil, wCons, wTup, wLst, wLstM, wCall, wCall0, wVar, wC, wLc, wLcM, wYes, wiL, wiT, wiS, wiR, wiEnT, wiEnL, wiZip, wSl, woNone, woSome, wMt, wJoin, wGet, wUn, wTru, wDNew, fin, List.getElem?_cons_zero, List.getElem?_cons_succ, List.set_cons_zero, List.set_cons_succ]
      repeat refine ⟨Nat.le_of_ble_eq_true rfl, ?_⟩
      refine hnx _ _ ⟨_, rfl, fun d hd => ?_, rfl, rfl⟩
      have wd : ∀ {s : Str} {b : Nat}, plain s = true ∧ s.length ≤ 60 → Tg 1000000002 M4 400 b 60 (.str s) := fun h => (tg_str h).le (by omega) (Nat.le_refl _) (Nat.le_refl _)
      simp only [List.mem_cons, List.not_mem_nil, or_false] at hd
      rcases hd with rfl | rfl | rfl | rfl | rfl | rfl
      · exact to.le (by omega) (by omega) (Nat.le_refl _)
      · exact (tg_two (n := 552) (b := 2) ((wd (by decide +kernel)).le (by omega) (Nat.le_refl _) (Nat.le_refl _)) tc (by decide) (Nat.le_refl _)).le (by omega) (by omega) (Nat.le_refl _)
      · exact (tg_three (n := 400) (b := 20) (wd (by decide +kernel)) (wd (by decide +kernel)) to (by decide) (Nat.le_refl _)).le (by omega) (by omega) (Nat.le_refl _)
      · exact (tg_three (n := 400) (b := 20) (wd (by decide +kernel)) (wd (by decide +kernel)) .non (by decide) (Nat.le_refl _)).le (by omega) (by omega) (Nat.le_refl _)
      · exact (tg_three (n := 400) (b := 20) (wd (by decide +kernel)) (wd (by decide +kernel)) (wd (by decide +kernel)) (by decide) (Nat.le_refl _)).le (by omega) (by omega) (Nat.le_refl _)
      · exact (tg_two (n := 400) (b := 20) (wd (by decide +kernel)) (wd (by decide +kernel)) (by decide) (Nat.le_refl _)).le (by omega) (by omega) (Nat.le_refl _)
    rintro Γ5 M5 ⟨L6, rfl, gL6, lL6, rfl⟩
    try simp only [wUpd, wDisp1, wNext, wBreak, wContinue, wExpr, wRet, wRetN, wSet, wAsg, wPar, wPar3, wSub, wTst, wOp, wChain, wNotT, wAndV, wOrV, wNotV, wIf, wNil, wCons, wTup, wLst, wLstM, wCall, wCall0, wVar, wC, wLc, wLcM, wYes, wiL, wiT, wiS, wiR, wiEnT, wiEnL, wiZip, wSl, woNone, woSome, wMt, wJoin, wGet, wUn, wTru, wDNew, fin, List.getElem?_cons_zero, List.getElem?_cons_succ, List.set_cons_zero, List.set_cons_succ]
    try simp only [asR]
    refine lc_map (fun d => .tup [d, .tup NS]) (G := gAt (.lst L6) L6) (M := M5) rfl _ _ _ (fun d hd => ?_) (z1 (by simp [lL6])) ?_
    · refine ⟨_, rfl, fun k' hk' => ?_⟩
      simp only [wNext, wSeq, wBreak, wContinue, wExpr, wRet, wRetN, wIfS, wSet, wAsg, wPar, wPar3, wFor, wSub, wTst, wOp, wChain, wNotT, wAndT, wOrT, wAndV, wOrV, wNotV, wIf, wNil, wCons, wTup, wLst, wLstM, wCall, wCall0, wVar, wC, wLc, wLcM, wYes, wiL, wiT, wiS, wiR, wiEnT, wiEnL, wiZip, wSl, woNone, woSome, wMt, wJoin, wGet, wUn, wTru, wDNew, fin, List.getElem?_cons_zero, List.getElem?_cons_succ, List.set_cons_zero, List.set_cons_succ, wipeD, List.map]
      exact ⟨Nat.le_of_ble_eq_true rfl, hk'⟩
    rw [List.nil_append]
    refine r_addL (by rw [List.length_map, lL5, lL6]; exact Nat.le_of_ble_eq_true rfl) ?_
    refine ⟨h, _, _, _, rfl, h2, by omega, .inr (.inl rfl), by rw [List.length_append, lL5]; omega, by rw [List.length_append, List.length_map, lL5, lL6]; decide, fun d M6 hd h6 e6 => ?_⟩
    refine hk d M6 (Tg.up (M := M5) (Nat.le_refl _) (e6.growD h2) ?_ (Nat.le_refl _) (Nat.le_refl _) (Nat.le_refl _)) (h6.up (by omega)) (e02.trans e6)
    rcases List.mem_append.mp hd with hd | hd
    · exact (gL5 d hd).le (by omega) (by omega) (Nat.le_refl _)
    · obtain ⟨y, hy, rfl⟩ := List.mem_map.mp hd
      have tn : Tg 1000000002 M5 1300 24 60 (.tup NS) := (Tg.tup (b := 1) mem5 (by omega)).le (by omega) (by omega) (Nat.le_refl _)
      exact (tg_two (n := 1300) (b := 24) (gL6 y hy) tn (by decide) (Nat.le_refl _)).le (by omega) (by omega) (Nat.le_refl _)
end
end K04

set_option autoImplicit false
set_option maxRecDepth 100000
set_option maxHeartbeats 4000000
namespace K04
open PySem L2 DL
/-! the law -/
theorem extA_hn9 {M M' : Mem} {h : Addr} {n : Nat} (e : ExtA M M') (q : Hn M h n) : Hn M' h n := by
  obtain ⟨a, b, c, z, r⟩ := q
  exact ⟨a, b, c, e _ _ z, r⟩
section
variable {N : Nat} {M : Mem}
theorem kd_plt {s : Str} (h : Kd s) : plain s = true ∧ s.length ≤ 60 := by
  rcases h with rfl | rfl <;> exact ⟨by decide +kernel, by decide +kernel⟩
theorem tg_cols {cs : Cols} (h : ColsN 4 cs) : Tg N M 492 2 60 (colsD cs) := tg_all (n := 122) (m := 4) (fun d hd => by
  obtain ⟨c, hc, rfl⟩ := List.mem_map.mp hd
  exact tg_two (tg_str (nm_plt (h.nm c hc))) (tg_str (kd_plt (h.kd c hc))) (by omega) (by omega)) (by rw [List.length_map]; exact h.le) (by rw [List.length_map]; have := h.le; omega) (by omega)
theorem tg_plan {ts : List (Str × Cols)} (h : PlanN ts) : Tg N M 2961 4 60 (.tup (ts.map tabD)) := tg_all (n := 986) (m := 3) (fun d hd => by
  obtain ⟨t, ht, rfl⟩ := List.mem_map.mp hd
  exact tg_two ((tg_str (nm_plt (h.nm t ht))).le (by omega) (Nat.le_refl _) (Nat.le_refl _)) (tg_cols (h.ok t ht)) (by omega) (by omega)) (by rw [List.length_map]; exact h.le) (by rw [List.length_map]; have := h.le; omega) (by omega)
theorem tg_right {cs : Cols} (okc : ColsN 4 cs) {d : D} (h : RightN cs d) : Tg 1000000002 M 3000 30 60 d := by
  cases h with
  | non => exact .non
  | mk c ns hc hs =>
    have tc : Tg 1000000002 M 552 2 60 c := by
      rcases hc with rfl | hc
      · exact .non
      · exact tg_chk okc.nm (Nat.le_refl _) hc (Nat.le_refl 1)
    have tn : Tg 1000000002 M 552 2 60 (.tup (ns.map D.str)) := by
      have := tgs_names (N := 1000000002) (M := M) okc hs
      exact (Tg.tup (b := 0) this.1 (by rw [List.length_map]; omega)).le (by omega) (by omega) (Nat.le_refl _)
    exact (tg_two tc tn (by decide) (Nat.le_refl _)).le (by omega) (by omega) (Nat.le_refl _)
end
/-- what may be asked about -/
structure AskR (M : Mem) (d : D) : Prop where
  ok : okR M d
  fr : far d ≤ 40
  w : ∀ c xs, d = .tup [c, .tup xs] → xs.length < 64
theorem tg_askR {M : Mem} {a b : Nat} {d : D} (h : Tg 1000000002 M a b 60 d) (ha : a ≤ 1000000) (hb : b ≤ 40) : AskR M d := ⟨tg_okR h ha (by decide), Nat.le_trans (tg_far h) hb, fun c xs e => by
  subst e
  cases h with
  | tup h _ =>
    cases h with
    | cons h1 h2 _ =>
      cases h2 with
      | cons h3 _ _ =>
        cases h3 with
        | tup h4 h5 => omega⟩
section
variable {P : Program} {w : World} {K : PySem.W.Frag} {mg : Str → Option Value} {base : Heap}
def F_law : FD := fun ds M k => ∃ ns : List Int, ds = [.scr (ns.map D.int)] ∧ ns.length ≤ 63 ∧ ∀ M', k (.bl true) M'
theorem ok_law (T : Txt K mg) (B : DD K mg) (TW : TxtW K w mg B) : DFn P w K mg base 52 B.f_law B.fd_law p_law F_law := by
  have G_law_take : DFn P w K mg base 1 B.f_law_take B.fd_law_take p_law_take F_take := ok_take T B
  have G_law_pick : DFn P w K mg base 2 B.f_law_pick B.fd_law_pick p_law_pick F_pick := ok_pick T B
  have G_law_hand : DFn P w K mg base 1 B.f_law_hand B.fd_law_hand p_law_hand F_lhand := ok_lhand T B
  have G_law_plan : DFn P w K mg base 4 B.f_law_plan B.fd_law_plan p_law_plan F_plan := ok_plan T B
  have G_law_right : DFn P w K mg base 7 B.f_law_right B.fd_law_right p_law_right F_right := ok_right T B
  have G_law_odd : DFn P w K mg base 3 B.f_law_odd B.fd_law_odd p_law_odd F_odd := ok_odd T B
  have G_law_bent : DFn P w K mg base 4 B.f_law_bent B.fd_law_bent p_law_bent F_bent := ok_bent T B
  have G_is_right : DFn P w K mg base 50 B.f_is_right B.fd_is_right p_is_right F_is_right := ok_is_right T B TW
  have G_law_is_right : DFn P w K mg base 43 B.f_law_is_right B.fd_law_is_right p_law_is_right F_lis_right := ok_lis_right T B
  refine Fun.okD (k := 51) B.d_law.F sc_law (fun cdv A outer s H E hr => (dss_cons (ds_for rfl (di_range T.b_range (da_cons (de_add de_int (de_min2 rfl T.b_min de_int (de_len T.b_len (dv 0)))) da_nil)) (dg_name (i := 1) sc_law.nd) (dss_cons (ds_set (i := 2) sc_law.nd (de_own B.d_law_hand G_law_hand hr (by first | decide | omega) (da_cons (dv 0) (da_cons (dv 1) da_nil)))) (dss_cons (ds_set (i := 3) sc_law.nd (de_own B.d_law_plan G_law_plan hr (by first | decide | omega) (da_cons (dv 2) (da_cons (de_add de_int (de_own B.d_law_take G_law_take hr (by first | decide | omega) (da_cons (dv 2) (da_cons de_int da_nil)))) da_nil)))) (dss_cons (ds_set (i := 4) sc_law.nd (de_reprS hr T.b_repr (de_thaw (dv 3)))) (dss_cons (ds_for rfl (di_range T.b_range (da_cons de_int da_nil)) (dg_name (i := 5) sc_law.nd) (dss_cons (ds_asg (dg_tup rfl (dgs_cons (dg_name (i := 6) sc_law.nd) (dgs_cons (dg_name (i := 7) sc_law.nd) dgs_nil)) (gsCons_len (gsCons_len gsNil_len))) (de_own B.d_law_pick G_law_pick hr (by first | decide | omega) (da_cons (dv 2) (da_cons (de_thaw (dv 3)) da_nil)))) (dss_cons (ds_set (i := 8) sc_law.nd (de_own B.d_law_right G_law_right hr (by first | decide | omega) (da_cons (dv 2) (da_cons (de_thaw (dv 7)) da_nil)))) (dss_cons (ds_set (i := 9) sc_law.nd (de_own B.d_law_pick G_law_pick hr (by first | decide | omega) (da_cons (dv 2) (da_cons (de_lst (da_cons (dv 6) (da_cons (dv 6) (da_cons (de_ix (de_ix (de_thaw (dv 3)) de_int) de_int) (da_cons de_str (da_cons (de_own B.d_law_odd G_law_odd hr (by first | decide | omega) (da_cons (dv 2) da_nil)) (da_cons (de_thaw (dv 7)) da_nil))))))) da_nil)))) (dss_one (ds_for rfl (di_tup (de_tup (da_cons (dv 8) (da_cons (de_own B.d_law_bent G_law_bent hr (by first | decide | omega) (da_cons (dv 2) (da_cons (dv 8) da_nil))) (da_cons (de_own B.d_law_bent G_law_bent hr (by first | decide | omega) (da_cons (dv 2) (da_cons (dv 8) da_nil))) da_nil))))) (dg_name (i := 10) sc_law.nd) (dss_one (ds_for rfl (di_tup (de_tup (da_cons (dv 6) (da_cons (dv 9) da_nil)))) (dg_name (i := 11) sc_law.nd) (dss_cons (ds_set (i := 12) sc_law.nd (de_own B.d_is_right G_is_right hr (by first | decide | omega) (da_cons (de_thaw (dv 3)) (da_cons (dv 11) (da_cons (dv 10) da_nil))))) (dss_one (ds_if (dw_pt (dw_or (dt_not (dt_val (de_isi T.b_isinstance (dv 12) (de_ty (n := "bool") T.b_bool (by decide +kernel))))) (dw_or1 (dt_cmpA (c_ne hr) (dv 12) (de_own B.d_law_is_right G_law_is_right hr (by first | decide | omega) (da_cons (de_thaw (dv 3)) (da_cons (dv 11) (da_cons (dv 10) da_nil)))))))) (dss_one (ds_ret de_bl)) dss_nil))))))))))) (dss_one (ds_if (dt_cmpA (c_ne hr) (de_reprS hr T.b_repr (de_thaw (dv 3))) (dv 4)) (dss_one (ds_ret de_bl)) dss_nil))))))) (dss_one (ds_ret de_bl)))) (fun ds M k h => ?_)
  obtain ⟨ns, rfl, hn, hk⟩ := h
  (refine ⟨rfl, ?_⟩; rw [show startD N_law [.scr (ns.map D.int)] = [some (.scr (ns.map D.int)), none, none, none, none, none, none, none, none, none, none, none, none] from rfl])
  have hz := sizeLine_eq
  refine seq_step ?_
  simp only [wFor, wThaw, wNext, wBreak, wContinue, wExpr, wRet, wRetN, wSet, wAsg, wPar, wPar3, wSub, wTst, wOp, wChain, wNotT, wAndV, wOrV, wNotV, wIf, wNil, wCons, wTup, wLst, wLstM, wCall, wCall0, wVar, wC, wLc, wLcM, wYes, wiL, wiT, wiS, wiR, wiEnT, wiEnL, wiZip, wSl, woNone, woSome, wMt, wJoin, wGet, wUn, wTru, wDNew, fin, List.getElem?_cons_zero, List.getElem?_cons_succ, List.set_cons_zero, List.set_cons_succ]
  refine r_lenR (r_min2 (r_add ⟨⟨by split <;> omega, by split <;> omega⟩, ?_⟩))
  refine loop_inv (fun its Γ M' => (∀ d ∈ its, ∃ i : Nat, d = D.int (i : Nat) ∧ i ≤ 1000) ∧ ∃ x1 x2 x3 x4 x5 x6 x7 x8 x9 x10 x11 x12, Γ = [some (.scr (ns.map D.int)), x1, x2, x3, x4, x5, x6, x7, x8, x9, x10, x11, x12]) (fun _ _ _ _ => trivial) ?_ ?_ _ _ _
    ⟨fun d hd => ?_, _, _, _, _, _, _, _, _, _, _, _, _, rfl⟩
  · rintro Γ M1 ⟨_, x1, x2, x3, x4, x5, x6, x7, x8, x9, x10, x11, x12, rfl⟩
    simp only [wNext, wSeq, wBreak, wContinue, wExpr, wRet, wRetN, wIfS, wSet, wAsg, wPar, wPar3, wFor, wSub, wTst, wOp, wChain, wNotT, wAndT, wOrT, wAndV, wOrV, wNotV, wIf, wNil, wCons, wTup, wLst, wLstM, wCall, wCall0, wVar, wC, wLc, wLcM, wYes, wiL, wiT, wiS, wiR, wiEnT, wiEnL, wiZip, wSl, woNone, woSome, wMt, wJoin, wGet, wUn, wTru, wDNew, fin, List.getElem?_cons_zero, List.getElem?_cons_succ, List.set_cons_zero, List.set_cons_succ]
    exact hk M1
  · rintro d its Γ M1 ⟨hi, x1, x2, x3, x4, x5, x6, x7, x8, x9, x10, x11, x12, rfl⟩
    obtain ⟨i, rfl, hi1⟩ := hi d List.mem_cons_self
    refine ⟨_, rfl, fun k' v1 v2 v3 v4 => ?_⟩
    refine seq_step ?_
    simp only [wNext, wBreak, wContinue, wExpr, wRet, wRetN, wSet, wAsg, wPar, wPar3, wSub, wTst, wOp, wChain, wNotT, wAndV, wOrV, wNotV, wIf, wNil, wCons, wTup, wLst, wLstM, wCall, wCall0, wVar, wC, wLc, wLcM, wYes, wiL, wiT, wiS, wiR, wiEnT, wiEnL, wiZip, wSl, woNone, woSome, wMt, wJoin, wGet, wUn, wTru, wDNew, fin, List.getElem?_cons_zero, List.getElem?_cons_succ, List.set_cons_zero, List.set_cons_succ]
    refine ⟨ns, i, rfl, hn, hi1, fun h M2 hM hh e2 => ?_⟩
    refine seq_step ?_
    simp only [wNext, wBreak, wContinue, wExpr, wRet, wRetN, wSet, wAsg, wPar, wPar3, wSub, wTst, wOp, wChain, wNotT, wAndV, wOrV, wNotV, wIf, wNil, wCons, wTup, wLst, wLstM, wCall, wCall0, wVar, wC, wLc, wLcM, wYes, wiL, wiT, wiS, wiR, wiEnT, wiEnL, wiZip, wSl, woNone, woSome, wMt, wJoin, wGet, wUn, wTru, wDNew, fin, List.getElem?_cons_zero, List.getElem?_cons_succ, List.set_cons_zero, List.set_cons_succ]
    refine ⟨h, 0, 3, rfl, hh, by decide, by decide, by decide, fun r M3 r0 r1 h3 e3 => r_add ?_⟩
    obtain ⟨m, rfl⟩ : ∃ m : Nat, r = (m : Int) := ⟨r.toNat, by omega⟩
    rw [show (1 : Int) + (m : Int) = ((1 + m : Nat) : Int) by omega]
    refine ⟨h, 1, 1 + m, rfl, h3, by decide, by omega, by omega, fun ts M4 okp h4 e4 => ?_⟩
    obtain ⟨s, hs⟩ := (tg_plan (N := 1000000002) (M := M4) okp).shown (by decide) (by decide) (by decide)
    refine seq_step ?_
    simp only [wThaw, wNext, wBreak, wContinue, wExpr, wRet, wRetN, wSet, wAsg, wPar, wPar3, wSub, wTst, wOp, wChain, wNotT, wAndV, wOrV, wNotV, wIf, wNil, wCons, wTup, wLst, wLstM, wCall, wCall0, wVar, wC, wLc, wLcM, wYes, wiL, wiT, wiS, wiR, wiEnT, wiEnL, wiZip, wSl, woNone, woSome, wMt, wJoin, wGet, wUn, wTru, wDNew, fin, List.getElem?_cons_zero, List.getElem?_cons_succ, List.set_cons_zero, List.set_cons_succ]
    refine ⟨_, thaw_plan ts, hs M4 _ growD_refl ?_⟩
    refine seq_step ?_
    simp only [wFor, wThaw, wNext, wBreak, wContinue, wExpr, wRet, wRetN, wSet, wAsg, wPar, wPar3, wSub, wTst, wOp, wChain, wNotT, wAndV, wOrV, wNotV, wIf, wNil, wCons, wTup, wLst, wLstM, wCall, wCall0, wVar, wC, wLc, wLcM, wYes, wiL, wiT, wiS, wiR, wiEnT, wiEnL, wiZip, wSl, woNone, woSome, wMt, wJoin, wGet, wUn, wTru, wDNew, fin, List.getElem?_cons_zero, List.getElem?_cons_succ, List.set_cons_zero, List.set_cons_succ]
    refine ⟨⟨by omega, by omega⟩, ?_⟩
    rw [show (14 : Int).toNat = 14 from rfl]
    refine loop_inv (fun its Γ M' => its.length ≤ 14 ∧ Hn M' h (20 + 200 * (14 - its.length)) ∧ GrowD M4 M' ∧ ∃ (y5 y6 y7 y8 y9 y10 y11 y12 : Option D), Γ = [some (.scr (ns.map D.int)), some (.int (i : Nat)), some (.cel h), some (.ftp (ts.map tabF)), some (.str s), y5, y6, y7, y8, y9, y10, y11, y12]) (fun _ _ _ _ => trivial) ?_ ?_ _ _ _
      ⟨by rw [rng_len]; omega, by rw [rng_len]; exact h4.up (by omega), growD_refl, _, _, _, _, _, _, _, _, rfl⟩
    · rintro Γ M8 ⟨_, h8, g8, y5, y6, y7, y8, y9, y10, y11, y12, rfl⟩
      try unfold wIfS
      try simp only [wThaw, wNext, wBreak, wContinue, wExpr, wRet, wRetN, wSet, wAsg, wPar, wPar3, wSub, wTst, wOp, wChain, wNotT, wAndV, wOrV, wNotV, wIf, wNil, wCons, wTup, wLst, wLstM, wCall, wCall0, wVar, wC, wLc, wLcM, wYes, wiL, wiT, wiS, wiR, wiEnT, wiEnL, wiZip, wSl, woNone, woSome, wMt, wJoin, wGet, wUn, wTru, wDNew, fin, List.getElem?_cons_zero, List.getElem?_cons_succ, List.set_cons_zero, List.set_cons_succ]
      refine ⟨_, thaw_plan ts, hs M8 _ g8 (eq_strA ?_)⟩
      rw [decide_eq_true rfl]
      refine ff ?_
      exact v3 _ _ ⟨fun d hd => hi d (List.mem_cons_of_mem _ hd), _, _, _, _, _, _, _, _, _, _, _, _, rfl⟩
    · rintro d2 its2 Γ M5 ⟨l5, h5, g5, y5, y6, y7, y8, y9, y10, y11, y12, rfl⟩
      rw [List.length_cons] at l5 h5
      refine ⟨_, rfl, fun k2 u1 u2 u3 u4 => ?_⟩
      have tl := okp.le
      have tpos : 0 < ts.length := List.length_pos_iff.mpr okp.ne
      refine seq_step ?_
      try simp only [wThaw, wNext, wBreak, wContinue, wExpr, wRet, wRetN, wSet, wAsg, wPar, wPar3, wSub, wTst, wOp, wChain, wNotT, wAndV, wOrV, wNotV, wIf, wNil, wCons, wTup, wLst, wLstM, wCall, wCall0, wVar, wC, wLc, wLcM, wYes, wiL, wiT, wiS, wiR, wiEnT, wiEnL, wiZip, wSl, woNone, woSome, wMt, wJoin, wGet, wUn, wTru, wDNew, fin, List.getElem?_cons_zero, List.getElem?_cons_succ, List.set_cons_zero, List.set_cons_succ]
      refine ⟨_, .top _, h, _, _, ts.map tabF, rfl, h5, by omega, .inl rfl, by rw [List.length_map]; exact tpos, by rw [List.length_map]; omega, fun d3 M6 hd3 h6 e6 => ?_⟩
      obtain ⟨t, ht, rfl⟩ := List.mem_map.mp hd3
      have okc := okp.ok t ht
      have nmt := okp.nm t ht
      simp only [tabF, gT, gsCons, gN, gsNil, List.set_cons_zero, List.set_cons_succ]
      refine seq_step ?_
      try simp only [wThaw, wNext, wBreak, wContinue, wExpr, wRet, wRetN, wSet, wAsg, wPar, wPar3, wSub, wTst, wOp, wChain, wNotT, wAndV, wOrV, wNotV, wIf, wNil, wCons, wTup, wLst, wLstM, wCall, wCall0, wVar, wC, wLc, wLcM, wYes, wiL, wiT, wiS, wiR, wiEnT, wiEnL, wiZip, wSl, woNone, woSome, wMt, wJoin, wGet, wUn, wTru, wDNew, fin, List.getElem?_cons_zero, List.getElem?_cons_succ, List.set_cons_zero, List.set_cons_succ]
      refine ⟨_, thaw_cols _, h, _, t.2, rfl, h6, by omega, okc, fun right M7 rn h7 e7 => ?_⟩
      refine seq_step ?_
      try simp only [wThaw, wNext, wBreak, wContinue, wExpr, wRet, wRetN, wSet, wAsg, wPar, wPar3, wSub, wTst, wOp, wChain, wNotT, wAndV, wOrV, wNotV, wIf, wNil, wCons, wTup, wLst, wLstM, wCall, wCall0, wVar, wC, wLc, wLcM, wYes, wiL, wiT, wiS, wiR, wiEnT, wiEnL, wiZip, wSl, woNone, woSome, wMt, wJoin, wGet, wUn, wTru, wDNew, fin, List.getElem?_cons_zero, List.getElem?_cons_succ, List.set_cons_zero, List.set_cons_succ]
      obtain ⟨t0, ts', ets⟩ : ∃ t0 ts', ts = t0 :: ts' := by
        cases ts with
        | nil => simp at tpos
        | cons a b => exact ⟨a, b, rfl⟩
      have nm0 := okp.nm t0 (by rw [ets]; exact List.mem_cons_self)
      refine ⟨_, thaw_plan ts, ?_⟩
      have at0t : atI (ts.map tabD) 0 = some (tabD t0) := by rw [ets]; exact at0 _ _
      refine ix_tup at0t (ix_tup (at0 _ _) ?_)
      refine ⟨h, _, rfl, h7, by omega, fun odd M8 to h8 e8 => ?_⟩
      refine ⟨_, thaw_cols _, Nat.le_of_ble_eq_true rfl, h, _, _, _, rfl, h8, by omega, .inr (.inl rfl), by simp, by simp, fun table M9 htab h9 e9 => ?_⟩
      have g9 : GrowD M4 M9 := (g5.trans (e6.growD h5)).trans (((e7.growD h6).trans (e8.growD h7)).trans (e9.growD h8))
      have tt9 : Tg 1000000002 M9 3000 30 60 table := by
        refine Tg.up (M := M8) (Nat.le_refl _) (e9.growD h8) ?_ (Nat.le_refl _) (Nat.le_refl _) (Nat.le_refl _)
        simp only [List.mem_cons, List.not_mem_nil, or_false] at htab
        rcases htab with rfl | rfl | rfl | rfl | rfl | rfl
        · exact (tg_str (b := 0) (nm_plt nmt)).le (by omega) (by omega) (Nat.le_refl _)
        · exact (tg_str (b := 0) (nm_plt nmt)).le (by omega) (by omega) (Nat.le_refl _)
        · exact (tg_str (b := 0) (nm_plt nm0)).le (by omega) (by omega) (Nat.le_refl _)
        · exact (tg_str (b := 0) (by decide +kernel)).le (by omega) (by omega) (Nat.le_refl _)
        · exact to.le (by omega) (by omega) (Nat.le_refl _)
        · exact (tg_cols okc).le (by omega) (by omega) (Nat.le_refl _)
      have tname : Tg 1000000002 M9 3000 30 60 (.str t.1) := (tg_str (b := 0) (nm_plt nmt)).le (by omega) (by omega) (Nat.le_refl _)
      try simp only [wFor, wThaw, wNext, wBreak, wContinue, wExpr, wRet, wRetN, wSet, wAsg, wPar, wPar3, wSub, wTst, wOp, wChain, wNotT, wAndV, wOrV, wNotV, wIf, wNil, wCons, wTup, wLst, wLstM, wCall, wCall0, wVar, wC, wLc, wLcM, wYes, wiL, wiT, wiS, wiR, wiEnT, wiEnL, wiZip, wSl, woNone, woSome, wMt, wJoin, wGet, wUn, wTru, wDNew, fin, List.getElem?_cons_zero, List.getElem?_cons_succ, List.set_cons_zero, List.set_cons_succ]
      refine ⟨h, _, t.2, right, rfl, h9, by omega, okc, rn, fun b1 M10 tb1 h10 e10 => ?_⟩
      refine ⟨h, _, t.2, right, rfl, h10, by omega, okc, rn, fun b2 M11 tb2 h11 e11 => ⟨Nat.le_of_ble_eq_true rfl, ?_⟩⟩
      have g911 := (e10.growD h9).trans (e11.growD h10)
      have tt11 : Tg 1000000002 M11 3000 30 60 table := tt9.up (Nat.le_refl _) g911 (Nat.le_refl _) (Nat.le_refl _) (Nat.le_refl _)
      have tn11 : Tg 1000000002 M11 3000 30 60 (.str t.1) := tname.up (Nat.le_refl _) g911 (Nat.le_refl _) (Nat.le_refl _) (Nat.le_refl _)
      have b111 : Tg 1000000002 M11 3000 30 60 b1 := tb1.up (Nat.le_refl _) (e11.growD h10) (Nat.le_refl _) (Nat.le_refl _) (Nat.le_refl _)
      have things : ∀ d ∈ [right, b1, b2], Tg 1000000002 M11 3000 30 60 d := fun d hd => by
        simp only [List.mem_cons, List.not_mem_nil, or_false] at hd
        rcases hd with rfl | rfl | rfl
        · exact tg_right okc rn
        · exact b111
        · exact tb2
      have wheres : ∀ d ∈ [D.str t.1, table], Tg 1000000002 M11 3000 30 60 d := fun d hd => by
        simp only [List.mem_cons, List.not_mem_nil, or_false] at hd
        rcases hd with rfl | rfl
        · exact tn11
        · exact tt11
      have g411 := g9.trans g911
      refine loop_inv (fun its Γ M' => (∀ d ∈ its, d ∈ [right, b1, b2]) ∧ ExtA M11 M' ∧ ∃ (z10 z11 z12 : Option D), Γ = [some (.scr (ns.map D.int)), some (.int (i : Nat)), some (.cel h), some (.ftp (ts.map tabF)), some (.str s), some d2, some (.str t.1), some (colsF t.2), some right, some table, z10, z11, z12]) (fun _ _ _ _ => trivial) ?_ ?_ _ _ _
        ⟨fun d hd => hd, ExtA.refl _, _, _, _, rfl⟩
      · rintro Γ M12 ⟨_, e12, z10, z11, z12, rfl⟩
        refine u3 _ _ ⟨by omega, (extA_hn9 e12 h11).up (by omega), g411.trans (ExtA.growD e12), _, _, _, _, _, _, _, _, rfl⟩
      · rintro th its3 Γ M12 ⟨i12, e12, z10, z11, z12, rfl⟩
        refine ⟨_, rfl, fun k3 p1 p2 p3 p4 => ?_⟩
        have tth := (things th (i12 th List.mem_cons_self))
        try simp only [wFor, wThaw, wNext, wBreak, wContinue, wExpr, wRet, wRetN, wSet, wAsg, wPar, wPar3, wSub, wTst, wOp, wChain, wNotT, wAndV, wOrV, wNotV, wIf, wNil, wCons, wTup, wLst, wLstM, wCall, wCall0, wVar, wC, wLc, wLcM, wYes, wiL, wiT, wiS, wiR, wiEnT, wiEnL, wiZip, wSl, woNone, woSome, wMt, wJoin, wGet, wUn, wTru, wDNew, fin, List.getElem?_cons_zero, List.getElem?_cons_succ, List.set_cons_zero, List.set_cons_succ]
        refine ⟨Nat.le_of_ble_eq_true rfl, ?_⟩
        refine loop_inv (fun its Γ M' => (∀ d ∈ its, d ∈ [D.str t.1, table]) ∧ ExtA M11 M' ∧ ∃ (z11 z12 : Option D), Γ = [some (.scr (ns.map D.int)), some (.int (i : Nat)), some (.cel h), some (.ftp (ts.map tabF)), some (.str s), some d2, some (.str t.1), some (colsF t.2), some right, some table, some th, z11, z12]) (fun _ _ _ _ => trivial) ?_ ?_ _ _ _
          ⟨fun d hd => hd, e12, _, _, rfl⟩
        · rintro Γ M13 ⟨_, e13, z11, z12, rfl⟩
          exact p3 _ _ ⟨fun d hd => i12 d (List.mem_cons_of_mem _ hd), e13, _, _, _, rfl⟩
        · rintro wh its4 Γ M13 ⟨i13, e13, z11, z12, rfl⟩
          refine ⟨_, rfl, fun k4 q1 q2 q3 q4 => ?_⟩
          have a1 : AskR M13 th := tg_askR (tth.up (Nat.le_refl _) (ExtA.growD e13) (Nat.le_refl _) (Nat.le_refl _) (Nat.le_refl _)) (by decide) (by decide)
          have a2 : AskR M13 wh := tg_askR ((wheres wh (i13 wh List.mem_cons_self)).up (Nat.le_refl _) (ExtA.growD e13) (Nat.le_refl _) (Nat.le_refl _) (Nat.le_refl _)) (by decide) (by decide)
          refine seq_step ?_
          try simp only [wThaw, wNext, wBreak, wContinue, wExpr, wRet, wRetN, wSet, wAsg, wPar, wPar3, wSub, wTst, wOp, wChain, wNotT, wAndV, wOrV, wNotV, wIf, wNil, wCons, wTup, wLst, wLstM, wCall, wCall0, wVar, wC, wLc, wLcM, wYes, wiL, wiT, wiS, wiR, wiEnT, wiEnL, wiZip, wSl, woNone, woSome, wMt, wJoin, wGet, wUn, wTru, wDNew, fin, List.getElem?_cons_zero, List.getElem?_cons_succ, List.set_cons_zero, List.set_cons_succ]
          refine ⟨_, thaw_plan ts, ts, wh, th, rfl, okp, a2.ok, a1.ok, a1.fr, a1.w, ?_⟩
          try unfold wIfS
          try unfold wOrT
          try simp only [wThaw, wNext, wBreak, wContinue, wExpr, wRet, wRetN, wSet, wAsg, wPar, wPar3, wSub, wTst, wOp, wChain, wNotT, wAndV, wOrV, wNotV, wIf, wNil, wCons, wTup, wLst, wLstM, wCall, wCall0, wVar, wC, wLc, wLcM, wYes, wiL, wiT, wiS, wiR, wiEnT, wiEnL, wiZip, wSl, woNone, woSome, wMt, wJoin, wGet, wUn, wTru, wDNew, fin, List.getElem?_cons_zero, List.getElem?_cons_succ, List.set_cons_zero, List.set_cons_succ]
          refine r_isi (S := "bool") rfl (by decide) (fun l e => by cases e) ?_
          rw [show isiB "bool" "bool" = true from by decide]
          refine ff ?_
          refine ⟨_, .refl _, ts, wh, th, rfl, okp, a2.ok, a1.ok, a1.fr, a1.w, fun M14 e14 => ?_⟩
          refine (show rdEq not (.bl (rightB ts wh th)) (.bl (rightB ts wh th)) M14 _ from ⟨shaped_bl, shaped_bl, ?_⟩)
          have e0 : PyData.eqv (.bool (rightB ts wh th)) (.bool (rightB ts wh th)) = true := by cases rightB ts wh th <;> decide
          rw [e0]
          refine ff ?_
          exact q3 _ _ ⟨fun d hd => i13 d (List.mem_cons_of_mem _ hd), fun a c e => e14 a c (e13 a c e), _, _, rfl⟩
  · obtain ⟨j, hj, rfl⟩ := List.mem_map.mp hd
    have := List.mem_range.mp hj
    refine ⟨j, by simp, ?_⟩
    split at this <;> omega
end
end K04

set_option autoImplicit false
set_option maxRecDepth 100000
set_option maxHeartbeats 4000000
namespace K04
open PySem L2 DL
theorem law_flaw : FLaw F_law := fun ns M k hl hk => ⟨ns, rfl, hl, hk⟩
theorem all_mk {l : PySem.W.OpenLaw} {w : World} {K : PySem.W.Frag} {h : Heap} {mg mb : Str → Option Value} {fa f0 f1 f2 f3 f4 f5 f6 f7 f8 f9 f10 f11 f12 f13 f14 f15 f16 f17 f18 f19 f20 f21 f22 f23 f24 : Addr} {q : Program} {loose : List Str} {mean : ExcName → Option Value} (X : K.In h) (T0 : PyProof.Rows.Top q loose mean mg mb h) (hfa : mg "law" = some (.ref fa))
    {od0 an0 od1 an1 od2 an2 od3 an3 od4 an4 od5 an5 od6 an6 od7 an7 od8 an8 od9 an9 od10 an10 od11 an11 od12 an12 od13 an13 od14 an14 od15 an15 od16 an16 od17 an17 od18 an18 od19 an19 od20 an20 od21 an21 od22 an22 od23 an23 od24 an24 : Option Addr} {sl0 sl1 sl2 sl3 sl4 sl5 sl6 sl7 sl8 sl9 sl10 sl11 sl12 sl13 sl14 sl15 sl16 sl17 sl18 sl19 sl20 sl21 sl22 sl23 sl24 : Array (Option Value)} {oc0 kV0 dc0 pm0 cd0 ct0 oc1 kV1 dc1 pm1 cd1 ct1 oc2 kV2 dc2 pm2 cd2 ct2 oc3 kV3 dc3 pm3 cd3 ct3 oc4 kV4 dc4 pm4 cd4 ct4 oc5 kV5 dc5 pm5 cd5 ct5 oc6 kV6 dc6 pm6 cd6 ct6 oc7 kV7 dc7 pm7 cd7 ct7 oc8 kV8 dc8 pm8 cd8 ct8 oc9 kV9 dc9 pm9 cd9 ct9 oc10 kV10 dc10 pm10 cd10 ct10 oc11 kV11 dc11 pm11 cd11 ct11 oc12 kV12 dc12 pm12 cd12 ct12 oc13 kV13 dc13 pm13 cd13 ct13 oc14 kV14 dc14 pm14 cd14 ct14 oc15 kV15 dc15 pm15 cd15 ct15 oc16 kV16 dc16 pm16 cd16 ct16 oc17 kV17 dc17 pm17 cd17 ct17 oc18 kV18 dc18 pm18 cd18 ct18 oc19 kV19 dc19 pm19 cd19 ct19 oc20 kV20 dc20 pm20 cd20 ct20 oc21 kV21 dc21 pm21 cd21 ct21 oc22 kV22 dc22 pm22 cd22 ct22 oc23 kV23 dc23 pm23 cd23 ct23 oc24 kV24 dc24 pm24 cd24 ct24 : Value}
    (a0 : PySem.W.nsIn K mainGlobals "is_whole" = some (some (.ref f0))) (l0 : K.lookup f0 = some ⟨oc0, od0, .func (PySem.W.fnOf "is_whole" "is_whole" (defArgs s_is_whole) (defBody s_is_whole) (defScope s_is_whole) .none kV0 dc0 pm0 an0 cd0 ct0), sl0⟩) (c0 : PySem.W.codeIn K cd0 "is_whole" = true) (k0 : PySem.W.keepIn K (.ref f0) = true)
    (a1 : PySem.W.nsIn K mainGlobals "is_number" = some (some (.ref f1))) (l1 : K.lookup f1 = some ⟨oc1, od1, .func (PySem.W.fnOf "is_number" "is_number" (defArgs s_is_number) (defBody s_is_number) (defScope s_is_number) .none kV1 dc1 pm1 an1 cd1 ct1), sl1⟩) (c1 : PySem.W.codeIn K cd1 "is_number" = true) (k1 : PySem.W.keepIn K (.ref f1) = true)
    (a2 : PySem.W.nsIn K mainGlobals "is_name" = some (some (.ref f2))) (l2 : K.lookup f2 = some ⟨oc2, od2, .func (PySem.W.fnOf "is_name" "is_name" (defArgs s_is_name) (defBody s_is_name) (defScope s_is_name) .none kV2 dc2 pm2 an2 cd2 ct2), sl2⟩) (c2 : PySem.W.codeIn K cd2 "is_name" = true) (k2 : PySem.W.keepIn K (.ref f2) = true)
    (a3 : PySem.W.nsIn K mainGlobals "fits" = some (some (.ref f3))) (l3 : K.lookup f3 = some ⟨oc3, od3, .func (PySem.W.fnOf "fits" "fits" (defArgs s_fits) (defBody s_fits) (defScope s_fits) .none kV3 dc3 pm3 an3 cd3 ct3), sl3⟩) (c3 : PySem.W.codeIn K cd3 "fits" = true) (k3 : PySem.W.keepIn K (.ref f3) = true)
    (a4 : PySem.W.nsIn K mainGlobals "place_of" = some (some (.ref f4))) (l4 : K.lookup f4 = some ⟨oc4, od4, .func (PySem.W.fnOf "place_of" "place_of" (defArgs s_place_of) (defBody s_place_of) (defScope s_place_of) .none kV4 dc4 pm4 an4 cd4 ct4), sl4⟩) (c4 : PySem.W.codeIn K cd4 "place_of" = true) (k4 : PySem.W.keepIn K (.ref f4) = true)
    (a5 : PySem.W.nsIn K mainGlobals "places_of" = some (some (.ref f5))) (l5 : K.lookup f5 = some ⟨oc5, od5, .func (PySem.W.fnOf "places_of" "places_of" (defArgs s_places_of) (defBody s_places_of) (defScope s_places_of) .none kV5 dc5 pm5 an5 cd5 ct5), sl5⟩) (c5 : PySem.W.codeIn K cd5 "places_of" = true) (k5 : PySem.W.keepIn K (.ref f5) = true)
    (a6 : PySem.W.nsIn K mainGlobals "kind_of" = some (some (.ref f6))) (l6 : K.lookup f6 = some ⟨oc6, od6, .func (PySem.W.fnOf "kind_of" "kind_of" (defArgs s_kind_of) (defBody s_kind_of) (defScope s_kind_of) .none kV6 dc6 pm6 an6 cd6 ct6), sl6⟩) (c6 : PySem.W.codeIn K cd6 "kind_of" = true) (k6 : PySem.W.keepIn K (.ref f6) = true)
    (a7 : PySem.W.nsIn K mainGlobals "has_word" = some (some (.ref f7))) (l7 : K.lookup f7 = some ⟨oc7, od7, .func (PySem.W.fnOf "has_word" "has_word" (defArgs s_has_word) (defBody s_has_word) (defScope s_has_word) .none kV7 dc7 pm7 an7 cd7 ct7), sl7⟩) (c7 : PySem.W.codeIn K cd7 "has_word" = true) (k7 : PySem.W.keepIn K (.ref f7) = true)
    (a8 : PySem.W.nsIn K mainGlobals "has_form" = some (some (.ref f8))) (l8 : K.lookup f8 = some ⟨oc8, od8, .func (PySem.W.fnOf "has_form" "has_form" (defArgs s_has_form) (defBody s_has_form) (defScope s_has_form) .none kV8 dc8 pm8 an8 cd8 ct8), sl8⟩) (c8 : PySem.W.codeIn K cd8 "has_form" = true) (k8 : PySem.W.keepIn K (.ref f8) = true)
    (a9 : PySem.W.nsIn K mainGlobals "is_check" = some (some (.ref f9))) (l9 : K.lookup f9 = some ⟨oc9, od9, .func (PySem.W.fnOf "is_check" "is_check" (defArgs s_is_check) (defBody s_is_check) (defScope s_is_check) .none kV9 dc9 pm9 an9 cd9 ct9), sl9⟩) (c9 : PySem.W.codeIn K cd9 "is_check" = true) (k9 : PySem.W.keepIn K (.ref f9) = true)
    (a10 : PySem.W.nsIn K mainGlobals "is_right" = some (some (.ref f10))) (l10 : K.lookup f10 = some ⟨oc10, od10, .func (PySem.W.fnOf "is_right" "is_right" (defArgs s_is_right) (defBody s_is_right) (defScope s_is_right) .none kV10 dc10 pm10 an10 cd10 ct10), sl10⟩) (c10 : PySem.W.codeIn K cd10 "is_right" = true) (k10 : PySem.W.keepIn K (.ref f10) = true)
    (a11 : PySem.W.nsIn K mainGlobals "_law_hand" = some (some (.ref f11))) (l11 : K.lookup f11 = some ⟨oc11, od11, .func (PySem.W.fnOf "_law_hand" "_law_hand" (defArgs s_law_hand) (defBody s_law_hand) (defScope s_law_hand) .none kV11 dc11 pm11 an11 cd11 ct11), sl11⟩) (c11 : PySem.W.codeIn K cd11 "_law_hand" = true) (k11 : PySem.W.keepIn K (.ref f11) = true)
    (a12 : PySem.W.nsIn K mainGlobals "_law_take" = some (some (.ref f12))) (l12 : K.lookup f12 = some ⟨oc12, od12, .func (PySem.W.fnOf "_law_take" "_law_take" (defArgs s_law_take) (defBody s_law_take) (defScope s_law_take) .none kV12 dc12 pm12 an12 cd12 ct12), sl12⟩) (c12 : PySem.W.codeIn K cd12 "_law_take" = true) (k12 : PySem.W.keepIn K (.ref f12) = true)
    (a13 : PySem.W.nsIn K mainGlobals "_law_pick" = some (some (.ref f13))) (l13 : K.lookup f13 = some ⟨oc13, od13, .func (PySem.W.fnOf "_law_pick" "_law_pick" (defArgs s_law_pick) (defBody s_law_pick) (defScope s_law_pick) .none kV13 dc13 pm13 an13 cd13 ct13), sl13⟩) (c13 : PySem.W.codeIn K cd13 "_law_pick" = true) (k13 : PySem.W.keepIn K (.ref f13) = true)
    (a14 : PySem.W.nsIn K mainGlobals "_law_columns" = some (some (.ref f14))) (l14 : K.lookup f14 = some ⟨oc14, od14, .func (PySem.W.fnOf "_law_columns" "_law_columns" (defArgs s_law_columns) (defBody s_law_columns) (defScope s_law_columns) .none kV14 dc14 pm14 an14 cd14 ct14), sl14⟩) (c14 : PySem.W.codeIn K cd14 "_law_columns" = true) (k14 : PySem.W.keepIn K (.ref f14) = true)
    (a15 : PySem.W.nsIn K mainGlobals "_law_plan" = some (some (.ref f15))) (l15 : K.lookup f15 = some ⟨oc15, od15, .func (PySem.W.fnOf "_law_plan" "_law_plan" (defArgs s_law_plan) (defBody s_law_plan) (defScope s_law_plan) .none kV15 dc15 pm15 an15 cd15 ct15), sl15⟩) (c15 : PySem.W.codeIn K cd15 "_law_plan" = true) (k15 : PySem.W.keepIn K (.ref f15) = true)
    (a16 : PySem.W.nsIn K mainGlobals "_law_worth" = some (some (.ref f16))) (l16 : K.lookup f16 = some ⟨oc16, od16, .func (PySem.W.fnOf "_law_worth" "_law_worth" (defArgs s_law_worth) (defBody s_law_worth) (defScope s_law_worth) .none kV16 dc16 pm16 an16 cd16 ct16), sl16⟩) (c16 : PySem.W.codeIn K cd16 "_law_worth" = true) (k16 : PySem.W.keepIn K (.ref f16) = true)
    (a17 : PySem.W.nsIn K mainGlobals "_law_check" = some (some (.ref f17))) (l17 : K.lookup f17 = some ⟨oc17, od17, .func (PySem.W.fnOf "_law_check" "_law_check" (defArgs s_law_check) (defBody s_law_check) (defScope s_law_check) .none kV17 dc17 pm17 an17 cd17 ct17), sl17⟩) (c17 : PySem.W.codeIn K cd17 "_law_check" = true) (k17 : PySem.W.keepIn K (.ref f17) = true)
    (a18 : PySem.W.nsIn K mainGlobals "_law_right" = some (some (.ref f18))) (l18 : K.lookup f18 = some ⟨oc18, od18, .func (PySem.W.fnOf "_law_right" "_law_right" (defArgs s_law_right) (defBody s_law_right) (defScope s_law_right) .none kV18 dc18 pm18 an18 cd18 ct18), sl18⟩) (c18 : PySem.W.codeIn K cd18 "_law_right" = true) (k18 : PySem.W.keepIn K (.ref f18) = true)
    (a19 : PySem.W.nsIn K mainGlobals "_law_fits" = some (some (.ref f19))) (l19 : K.lookup f19 = some ⟨oc19, od19, .func (PySem.W.fnOf "_law_fits" "_law_fits" (defArgs s_law_fits) (defBody s_law_fits) (defScope s_law_fits) .none kV19 dc19 pm19 an19 cd19 ct19), sl19⟩) (c19 : PySem.W.codeIn K cd19 "_law_fits" = true) (k19 : PySem.W.keepIn K (.ref f19) = true)
    (a20 : PySem.W.nsIn K mainGlobals "_law_is_check" = some (some (.ref f20))) (l20 : K.lookup f20 = some ⟨oc20, od20, .func (PySem.W.fnOf "_law_is_check" "_law_is_check" (defArgs s_law_is_check) (defBody s_law_is_check) (defScope s_law_is_check) .none kV20 dc20 pm20 an20 cd20 ct20), sl20⟩) (c20 : PySem.W.codeIn K cd20 "_law_is_check" = true) (k20 : PySem.W.keepIn K (.ref f20) = true)
    (a21 : PySem.W.nsIn K mainGlobals "_law_is_right" = some (some (.ref f21))) (l21 : K.lookup f21 = some ⟨oc21, od21, .func (PySem.W.fnOf "_law_is_right" "_law_is_right" (defArgs s_law_is_right) (defBody s_law_is_right) (defScope s_law_is_right) .none kV21 dc21 pm21 an21 cd21 ct21), sl21⟩) (c21 : PySem.W.codeIn K cd21 "_law_is_right" = true) (k21 : PySem.W.keepIn K (.ref f21) = true)
    (a22 : PySem.W.nsIn K mainGlobals "_law_odd" = some (some (.ref f22))) (l22 : K.lookup f22 = some ⟨oc22, od22, .func (PySem.W.fnOf "_law_odd" "_law_odd" (defArgs s_law_odd) (defBody s_law_odd) (defScope s_law_odd) .none kV22 dc22 pm22 an22 cd22 ct22), sl22⟩) (c22 : PySem.W.codeIn K cd22 "_law_odd" = true) (k22 : PySem.W.keepIn K (.ref f22) = true)
    (a23 : PySem.W.nsIn K mainGlobals "_law_bent" = some (some (.ref f23))) (l23 : K.lookup f23 = some ⟨oc23, od23, .func (PySem.W.fnOf "_law_bent" "_law_bent" (defArgs s_law_bent) (defBody s_law_bent) (defScope s_law_bent) .none kV23 dc23 pm23 an23 cd23 ct23), sl23⟩) (c23 : PySem.W.codeIn K cd23 "_law_bent" = true) (k23 : PySem.W.keepIn K (.ref f23) = true)
    (a24 : PySem.W.nsIn K mainGlobals "law" = some (some (.ref f24))) (l24 : K.lookup f24 = some ⟨oc24, od24, .func (PySem.W.fnOf "law" "law" (defArgs s_law) (defBody s_law) (defScope s_law) .none kV24 dc24 pm24 an24 cd24 ct24), sl24⟩) (c24 : PySem.W.codeIn K cd24 "law" = true) (k24 : PySem.W.keepIn K (.ref f24) = true)
    (z_abs : PySem.W.nsIn K mainGlobals "abs" = some none)
    (z_all : PySem.W.nsIn K mainGlobals "all" = some none)
    (z_bool : PySem.W.nsIn K mainGlobals "bool" = some none)
    (z_dict : PySem.W.nsIn K mainGlobals "dict" = some none)
    (z_enumerate : PySem.W.nsIn K mainGlobals "enumerate" = some none)
    (z_int : PySem.W.nsIn K mainGlobals "int" = some none)
    (z_isinstance : PySem.W.nsIn K mainGlobals "isinstance" = some none)
    (z_len : PySem.W.nsIn K mainGlobals "len" = some none)
    (z_list : PySem.W.nsIn K mainGlobals "list" = some none)
    (z_min : PySem.W.nsIn K mainGlobals "min" = some none)
    (z_range : PySem.W.nsIn K mainGlobals "range" = some none)
    (z_repr : PySem.W.nsIn K mainGlobals "repr" = some none)
    (z_set : PySem.W.nsIn K mainGlobals "set" = some none)
    (z_sorted : PySem.W.nsIn K mainGlobals "sorted" = some none)
    (z_str : PySem.W.nsIn K mainGlobals "str" = some none)
    (z_tuple : PySem.W.nsIn K mainGlobals "tuple" = some none)
    (z_type : PySem.W.nsIn K mainGlobals "type" = some none)
    {t_GREATEST : Tok} (y_GREATEST : PySem.W.nsIn K mainGlobals "GREATEST" = some (some (.int 1000000000 t_GREATEST)))
    {t_LONGEST : Tok} (y_LONGEST : PySem.W.nsIn K mainGlobals "LONGEST" = some (some (.int 8 t_LONGEST)))
    {A_LENGTHS : Addr} {h0_LENGTHS h1_LENGTHS h2_LENGTHS h3_LENGTHS h4_LENGTHS h5_LENGTHS : Int} {k0_LENGTHS k1_LENGTHS k2_LENGTHS k3_LENGTHS k4_LENGTHS k5_LENGTHS : Tok} {u0_LENGTHS u1_LENGTHS u2_LENGTHS u3_LENGTHS u4_LENGTHS u5_LENGTHS : Tok} {n_LENGTHS : Nat} (y_LENGTHS : PySem.W.nsIn K mainGlobals "LENGTHS" = some (some (.ref A_LENGTHS))) (w_LENGTHS : K.lookup A_LENGTHS = some ⟨.type "dict", none, .dict #[⟨h0_LENGTHS, .str (Str.ofString "is") k0_LENGTHS, .int (3) u0_LENGTHS⟩, ⟨h1_LENGTHS, .str (Str.ofString "below") k1_LENGTHS, .int (3) u1_LENGTHS⟩, ⟨h2_LENGTHS, .str (Str.ofString "like") k2_LENGTHS, .int (3) u2_LENGTHS⟩, ⟨h3_LENGTHS, .str (Str.ofString "not") k3_LENGTHS, .int (2) u3_LENGTHS⟩, ⟨h4_LENGTHS, .str (Str.ofString "and") k4_LENGTHS, .int (3) u4_LENGTHS⟩, ⟨h5_LENGTHS, .str (Str.ofString "or") k5_LENGTHS, .int (3) u5_LENGTHS⟩] n_LENGTHS, #[]⟩) (l_LENGTHS : PySem.W.KeysLit w.params (#[⟨h0_LENGTHS, .str (Str.ofString "is") k0_LENGTHS, .int (3) u0_LENGTHS⟩, ⟨h1_LENGTHS, .str (Str.ofString "below") k1_LENGTHS, .int (3) u1_LENGTHS⟩, ⟨h2_LENGTHS, .str (Str.ofString "like") k2_LENGTHS, .int (3) u2_LENGTHS⟩, ⟨h3_LENGTHS, .str (Str.ofString "not") k3_LENGTHS, .int (2) u3_LENGTHS⟩, ⟨h4_LENGTHS, .str (Str.ofString "and") k4_LENGTHS, .int (3) u4_LENGTHS⟩, ⟨h5_LENGTHS, .str (Str.ofString "or") k5_LENGTHS, .int (3) u5_LENGTHS⟩] : Array DictEntry).toList) (m_LENGTHS : (A_LENGTHS == sysModules) = false)
    : ∃ K' : PySem.W.Frag, K'.In h ∧ TabsH K' h ∧ ∃ fd : FuncData, (∀ (s : Shared) (v : Value), BindsTo s fd ⟨[v], []⟩ [("script", v)]) ∧ ∀ base : Heap, K'.In base → base.Ns mainGlobals mg → (∀ x c P, x ∈ lamNames K' → PySem.W.tabIn K' x = some (c, P) → LamX.TabB base mg c P) → DG.FnG l.prog w K' mg base CX0 52 fa fd ["script"] (spLaw K') := by
  have G := T0.g
  have e := hfa.symm.trans (PySem.W.mg_of X G a24)
  cases e
  have hm := has_main a24
  have es : lamNames (marked K ([] : List Str)) = ([] : List Str) := lamNames_marked K _
  generalize hK : marked K ([] : List Str) = K' at es
  replace k0 : PySem.W.keepIn K' (.ref f0) = true := by rw [← hK]; exact app_kp hm l0
  replace a0 := (app_ns (xs := ([] : List Str)) hm).trans a0
  replace l0 := (app_lk (xs := ([] : List Str)) hm _).trans l0
  replace c0 := (app_cd (xs := ([] : List Str)) hm).trans c0
  replace k1 : PySem.W.keepIn K' (.ref f1) = true := by rw [← hK]; exact app_kp hm l1
  replace a1 := (app_ns (xs := ([] : List Str)) hm).trans a1
  replace l1 := (app_lk (xs := ([] : List Str)) hm _).trans l1
  replace c1 := (app_cd (xs := ([] : List Str)) hm).trans c1
  replace k2 : PySem.W.keepIn K' (.ref f2) = true := by rw [← hK]; exact app_kp hm l2
  replace a2 := (app_ns (xs := ([] : List Str)) hm).trans a2
  replace l2 := (app_lk (xs := ([] : List Str)) hm _).trans l2
  replace c2 := (app_cd (xs := ([] : List Str)) hm).trans c2
  replace k3 : PySem.W.keepIn K' (.ref f3) = true := by rw [← hK]; exact app_kp hm l3
  replace a3 := (app_ns (xs := ([] : List Str)) hm).trans a3
  replace l3 := (app_lk (xs := ([] : List Str)) hm _).trans l3
  replace c3 := (app_cd (xs := ([] : List Str)) hm).trans c3
  replace k4 : PySem.W.keepIn K' (.ref f4) = true := by rw [← hK]; exact app_kp hm l4
  replace a4 := (app_ns (xs := ([] : List Str)) hm).trans a4
  replace l4 := (app_lk (xs := ([] : List Str)) hm _).trans l4
  replace c4 := (app_cd (xs := ([] : List Str)) hm).trans c4
  replace k5 : PySem.W.keepIn K' (.ref f5) = true := by rw [← hK]; exact app_kp hm l5
  replace a5 := (app_ns (xs := ([] : List Str)) hm).trans a5
  replace l5 := (app_lk (xs := ([] : List Str)) hm _).trans l5
  replace c5 := (app_cd (xs := ([] : List Str)) hm).trans c5
  replace k6 : PySem.W.keepIn K' (.ref f6) = true := by rw [← hK]; exact app_kp hm l6
  replace a6 := (app_ns (xs := ([] : List Str)) hm).trans a6
  replace l6 := (app_lk (xs := ([] : List Str)) hm _).trans l6
  replace c6 := (app_cd (xs := ([] : List Str)) hm).trans c6
  replace k7 : PySem.W.keepIn K' (.ref f7) = true := by rw [← hK]; exact app_kp hm l7
  replace a7 := (app_ns (xs := ([] : List Str)) hm).trans a7
  replace l7 := (app_lk (xs := ([] : List Str)) hm _).trans l7
  replace c7 := (app_cd (xs := ([] : List Str)) hm).trans c7
  replace k8 : PySem.W.keepIn K' (.ref f8) = true := by rw [← hK]; exact app_kp hm l8
  replace a8 := (app_ns (xs := ([] : List Str)) hm).trans a8
  replace l8 := (app_lk (xs := ([] : List Str)) hm _).trans l8
  replace c8 := (app_cd (xs := ([] : List Str)) hm).trans c8
  replace k9 : PySem.W.keepIn K' (.ref f9) = true := by rw [← hK]; exact app_kp hm l9
  replace a9 := (app_ns (xs := ([] : List Str)) hm).trans a9
  replace l9 := (app_lk (xs := ([] : List Str)) hm _).trans l9
  replace c9 := (app_cd (xs := ([] : List Str)) hm).trans c9
  replace k10 : PySem.W.keepIn K' (.ref f10) = true := by rw [← hK]; exact app_kp hm l10
  replace a10 := (app_ns (xs := ([] : List Str)) hm).trans a10
  replace l10 := (app_lk (xs := ([] : List Str)) hm _).trans l10
  replace c10 := (app_cd (xs := ([] : List Str)) hm).trans c10
  replace k11 : PySem.W.keepIn K' (.ref f11) = true := by rw [← hK]; exact app_kp hm l11
  replace a11 := (app_ns (xs := ([] : List Str)) hm).trans a11
  replace l11 := (app_lk (xs := ([] : List Str)) hm _).trans l11
  replace c11 := (app_cd (xs := ([] : List Str)) hm).trans c11
  replace k12 : PySem.W.keepIn K' (.ref f12) = true := by rw [← hK]; exact app_kp hm l12
  replace a12 := (app_ns (xs := ([] : List Str)) hm).trans a12
  replace l12 := (app_lk (xs := ([] : List Str)) hm _).trans l12
  replace c12 := (app_cd (xs := ([] : List Str)) hm).trans c12
  replace k13 : PySem.W.keepIn K' (.ref f13) = true := by rw [← hK]; exact app_kp hm l13
  replace a13 := (app_ns (xs := ([] : List Str)) hm).trans a13
  replace l13 := (app_lk (xs := ([] : List Str)) hm _).trans l13
  replace c13 := (app_cd (xs := ([] : List Str)) hm).trans c13
  replace k14 : PySem.W.keepIn K' (.ref f14) = true := by rw [← hK]; exact app_kp hm l14
  replace a14 := (app_ns (xs := ([] : List Str)) hm).trans a14
  replace l14 := (app_lk (xs := ([] : List Str)) hm _).trans l14
  replace c14 := (app_cd (xs := ([] : List Str)) hm).trans c14
  replace k15 : PySem.W.keepIn K' (.ref f15) = true := by rw [← hK]; exact app_kp hm l15
  replace a15 := (app_ns (xs := ([] : List Str)) hm).trans a15
  replace l15 := (app_lk (xs := ([] : List Str)) hm _).trans l15
  replace c15 := (app_cd (xs := ([] : List Str)) hm).trans c15
  replace k16 : PySem.W.keepIn K' (.ref f16) = true := by rw [← hK]; exact app_kp hm l16
  replace a16 := (app_ns (xs := ([] : List Str)) hm).trans a16
  replace l16 := (app_lk (xs := ([] : List Str)) hm _).trans l16
  replace c16 := (app_cd (xs := ([] : List Str)) hm).trans c16
  replace k17 : PySem.W.keepIn K' (.ref f17) = true := by rw [← hK]; exact app_kp hm l17
  replace a17 := (app_ns (xs := ([] : List Str)) hm).trans a17
  replace l17 := (app_lk (xs := ([] : List Str)) hm _).trans l17
  replace c17 := (app_cd (xs := ([] : List Str)) hm).trans c17
  replace k18 : PySem.W.keepIn K' (.ref f18) = true := by rw [← hK]; exact app_kp hm l18
  replace a18 := (app_ns (xs := ([] : List Str)) hm).trans a18
  replace l18 := (app_lk (xs := ([] : List Str)) hm _).trans l18
  replace c18 := (app_cd (xs := ([] : List Str)) hm).trans c18
  replace k19 : PySem.W.keepIn K' (.ref f19) = true := by rw [← hK]; exact app_kp hm l19
  replace a19 := (app_ns (xs := ([] : List Str)) hm).trans a19
  replace l19 := (app_lk (xs := ([] : List Str)) hm _).trans l19
  replace c19 := (app_cd (xs := ([] : List Str)) hm).trans c19
  replace k20 : PySem.W.keepIn K' (.ref f20) = true := by rw [← hK]; exact app_kp hm l20
  replace a20 := (app_ns (xs := ([] : List Str)) hm).trans a20
  replace l20 := (app_lk (xs := ([] : List Str)) hm _).trans l20
  replace c20 := (app_cd (xs := ([] : List Str)) hm).trans c20
  replace k21 : PySem.W.keepIn K' (.ref f21) = true := by rw [← hK]; exact app_kp hm l21
  replace a21 := (app_ns (xs := ([] : List Str)) hm).trans a21
  replace l21 := (app_lk (xs := ([] : List Str)) hm _).trans l21
  replace c21 := (app_cd (xs := ([] : List Str)) hm).trans c21
  replace k22 : PySem.W.keepIn K' (.ref f22) = true := by rw [← hK]; exact app_kp hm l22
  replace a22 := (app_ns (xs := ([] : List Str)) hm).trans a22
  replace l22 := (app_lk (xs := ([] : List Str)) hm _).trans l22
  replace c22 := (app_cd (xs := ([] : List Str)) hm).trans c22
  replace k23 : PySem.W.keepIn K' (.ref f23) = true := by rw [← hK]; exact app_kp hm l23
  replace a23 := (app_ns (xs := ([] : List Str)) hm).trans a23
  replace l23 := (app_lk (xs := ([] : List Str)) hm _).trans l23
  replace c23 := (app_cd (xs := ([] : List Str)) hm).trans c23
  replace k24 : PySem.W.keepIn K' (.ref fa) = true := by rw [← hK]; exact app_kp hm l24
  replace a24 := (app_ns (xs := ([] : List Str)) hm).trans a24
  replace l24 := (app_lk (xs := ([] : List Str)) hm _).trans l24
  replace c24 := (app_cd (xs := ([] : List Str)) hm).trans c24
  replace z_abs := (app_ns (xs := ([] : List Str)) hm).trans z_abs
  replace z_all := (app_ns (xs := ([] : List Str)) hm).trans z_all
  replace z_bool := (app_ns (xs := ([] : List Str)) hm).trans z_bool
  replace z_dict := (app_ns (xs := ([] : List Str)) hm).trans z_dict
  replace z_enumerate := (app_ns (xs := ([] : List Str)) hm).trans z_enumerate
  replace z_int := (app_ns (xs := ([] : List Str)) hm).trans z_int
  replace z_isinstance := (app_ns (xs := ([] : List Str)) hm).trans z_isinstance
  replace z_len := (app_ns (xs := ([] : List Str)) hm).trans z_len
  replace z_list := (app_ns (xs := ([] : List Str)) hm).trans z_list
  replace z_min := (app_ns (xs := ([] : List Str)) hm).trans z_min
  replace z_range := (app_ns (xs := ([] : List Str)) hm).trans z_range
  replace z_repr := (app_ns (xs := ([] : List Str)) hm).trans z_repr
  replace z_set := (app_ns (xs := ([] : List Str)) hm).trans z_set
  replace z_sorted := (app_ns (xs := ([] : List Str)) hm).trans z_sorted
  replace z_str := (app_ns (xs := ([] : List Str)) hm).trans z_str
  replace z_tuple := (app_ns (xs := ([] : List Str)) hm).trans z_tuple
  replace z_type := (app_ns (xs := ([] : List Str)) hm).trans z_type
  replace y_GREATEST := (app_ns (xs := ([] : List Str)) hm).trans y_GREATEST
  replace y_LONGEST := (app_ns (xs := ([] : List Str)) hm).trans y_LONGEST
  replace y_LENGTHS := (app_ns (xs := ([] : List Str)) hm).trans y_LENGTHS
  replace w_LENGTHS := (app_lk (xs := ([] : List Str)) hm _).trans w_LENGTHS
  replace X := app_in (xs := ([] : List Str)) hm X
  rw [hK] at a0 l0 c0 a1 l1 c1 a2 l2 c2 a3 l3 c3 a4 l4 c4 a5 l5 c5 a6 l6 c6 a7 l7 c7 a8 l8 c8 a9 l9 c9 a10 l10 c10 a11 l11 c11 a12 l12 c12 a13 l13 c13 a14 l14 c14 a15 l15 c15 a16 l16 c16 a17 l17 c17 a18 l18 c18 a19 l19 c19 a20 l20 c20 a21 l21 c21 a22 l22 c22 a23 l23 c23 a24 l24 c24 z_abs z_all z_bool z_dict z_enumerate z_int z_isinstance z_len z_list z_min z_range z_repr z_set z_sorted z_str z_tuple z_type y_GREATEST y_LONGEST y_LENGTHS w_LENGTHS X
  clear hK hm
  have TH : TabsH K' h := by
    refine ⟨fun P x hx => ?_, fun P x y hx hy => ?_, fun x c P hx ht => ?_⟩
    · obtain ⟨hx, c, ht⟩ := hx
      rw [es] at hx
      cases hx
    · obtain ⟨hx, c, ht⟩ := hx
      obtain ⟨hy, c', ht'⟩ := hy
      rw [es] at hx hy
      cases hx
    · rw [es] at hx
      cases hx
  have T : Txt K' mg := { b_abs := PySem.W.mg_none_of X G z_abs, b_all := PySem.W.mg_none_of X G z_all, b_bool := PySem.W.mg_none_of X G z_bool, b_dict := PySem.W.mg_none_of X G z_dict, b_enumerate := PySem.W.mg_none_of X G z_enumerate, b_int := PySem.W.mg_none_of X G z_int, b_isinstance := PySem.W.mg_none_of X G z_isinstance, b_len := PySem.W.mg_none_of X G z_len, b_list := PySem.W.mg_none_of X G z_list, b_min := PySem.W.mg_none_of X G z_min, b_range := PySem.W.mg_none_of X G z_range, b_repr := PySem.W.mg_none_of X G z_repr, b_set := PySem.W.mg_none_of X G z_set, b_sorted := PySem.W.mg_none_of X G z_sorted, b_str := PySem.W.mg_none_of X G z_str, b_tuple := PySem.W.mg_none_of X G z_tuple, b_type := PySem.W.mg_none_of X G z_type, c_GREATEST := ⟨_, PySem.W.mg_of X G y_GREATEST⟩, c_LONGEST := ⟨_, PySem.W.mg_of X G y_LONGEST⟩ }
  have F0 := fun_mk (st := s_is_whole) l0 c0 k0
  have D0 : Def K' mg "is_whole" s_is_whole p_is_whole f0 _ := ⟨F0, PySem.W.mg_of X G a0, F0.binds (ps := p_is_whole) fun _ _ _ _ _ _ us hl => match us, hl with | [_], _ => rfl⟩
  have F1 := fun_mk (st := s_is_number) l1 c1 k1
  have D1 : Def K' mg "is_number" s_is_number p_is_number f1 _ := ⟨F1, PySem.W.mg_of X G a1, F1.binds (ps := p_is_number) fun _ _ _ _ _ _ us hl => match us, hl with | [_], _ => rfl⟩
  have F2 := fun_mk (st := s_is_name) l2 c2 k2
  have D2 : Def K' mg "is_name" s_is_name p_is_name f2 _ := ⟨F2, PySem.W.mg_of X G a2, F2.binds (ps := p_is_name) fun _ _ _ _ _ _ us hl => match us, hl with | [_], _ => rfl⟩
  have F3 := fun_mk (st := s_fits) l3 c3 k3
  have D3 : Def K' mg "fits" s_fits p_fits f3 _ := ⟨F3, PySem.W.mg_of X G a3, F3.binds (ps := p_fits) fun _ _ _ _ _ _ us hl => match us, hl with | [_, _], _ => rfl⟩
  have F4 := fun_mk (st := s_place_of) l4 c4 k4
  have D4 : Def K' mg "place_of" s_place_of p_place_of f4 _ := ⟨F4, PySem.W.mg_of X G a4, F4.binds (ps := p_place_of) fun _ _ _ _ _ _ us hl => match us, hl with | [_, _], _ => rfl⟩
  have F5 := fun_mk (st := s_places_of) l5 c5 k5
  have D5 : Def K' mg "places_of" s_places_of p_places_of f5 _ := ⟨F5, PySem.W.mg_of X G a5, F5.binds (ps := p_places_of) fun _ _ _ _ _ _ us hl => match us, hl with | [_, _], _ => rfl⟩
  have F6 := fun_mk (st := s_kind_of) l6 c6 k6
  have D6 : Def K' mg "kind_of" s_kind_of p_kind_of f6 _ := ⟨F6, PySem.W.mg_of X G a6, F6.binds (ps := p_kind_of) fun _ _ _ _ _ _ us hl => match us, hl with | [_, _], _ => rfl⟩
  have F7 := fun_mk (st := s_has_word) l7 c7 k7
  have D7 : Def K' mg "has_word" s_has_word p_has_word f7 _ := ⟨F7, PySem.W.mg_of X G a7, F7.binds (ps := p_has_word) fun _ _ _ _ _ _ us hl => match us, hl with | [_], _ => rfl⟩
  have F8 := fun_mk (st := s_has_form) l8 c8 k8
  have D8 : Def K' mg "has_form" s_has_form p_has_form f8 _ := ⟨F8, PySem.W.mg_of X G a8, F8.binds (ps := p_has_form) fun _ _ _ _ _ _ us hl => match us, hl with | [_], _ => rfl⟩
  have F9 := fun_mk (st := s_is_check) l9 c9 k9
  have D9 : Def K' mg "is_check" s_is_check p_is_check f9 _ := ⟨F9, PySem.W.mg_of X G a9, F9.binds (ps := p_is_check) fun _ _ _ _ _ _ us hl => match us, hl with | [_, _], _ => rfl⟩
  have F10 := fun_mk (st := s_is_right) l10 c10 k10
  have D10 : Def K' mg "is_right" s_is_right p_is_right f10 _ := ⟨F10, PySem.W.mg_of X G a10, F10.binds (ps := p_is_right) fun _ _ _ _ _ _ us hl => match us, hl with | [_, _, _], _ => rfl⟩
  have F11 := fun_mk (st := s_law_hand) l11 c11 k11
  have D11 : Def K' mg "_law_hand" s_law_hand p_law_hand f11 _ := ⟨F11, PySem.W.mg_of X G a11, F11.binds (ps := p_law_hand) fun _ _ _ _ _ _ us hl => match us, hl with | [_, _], _ => rfl⟩
  have F12 := fun_mk (st := s_law_take) l12 c12 k12
  have D12 : Def K' mg "_law_take" s_law_take p_law_take f12 _ := ⟨F12, PySem.W.mg_of X G a12, F12.binds (ps := p_law_take) fun _ _ _ _ _ _ us hl => match us, hl with | [_, _], _ => rfl⟩
  have F13 := fun_mk (st := s_law_pick) l13 c13 k13
  have D13 : Def K' mg "_law_pick" s_law_pick p_law_pick f13 _ := ⟨F13, PySem.W.mg_of X G a13, F13.binds (ps := p_law_pick) fun _ _ _ _ _ _ us hl => match us, hl with | [_, _], _ => rfl⟩
  have F14 := fun_mk (st := s_law_columns) l14 c14 k14
  have D14 : Def K' mg "_law_columns" s_law_columns p_law_columns f14 _ := ⟨F14, PySem.W.mg_of X G a14, F14.binds (ps := p_law_columns) fun _ _ _ _ _ _ us hl => match us, hl with | [_], _ => rfl⟩
  have F15 := fun_mk (st := s_law_plan) l15 c15 k15
  have D15 : Def K' mg "_law_plan" s_law_plan p_law_plan f15 _ := ⟨F15, PySem.W.mg_of X G a15, F15.binds (ps := p_law_plan) fun _ _ _ _ _ _ us hl => match us, hl with | [_, _], _ => rfl⟩
  have F16 := fun_mk (st := s_law_worth) l16 c16 k16
  have D16 : Def K' mg "_law_worth" s_law_worth p_law_worth f16 _ := ⟨F16, PySem.W.mg_of X G a16, F16.binds (ps := p_law_worth) fun _ _ _ _ _ _ us hl => match us, hl with | [_, _, _], _ => rfl⟩
  have F17 := fun_mk (st := s_law_check) l17 c17 k17
  have D17 : Def K' mg "_law_check" s_law_check p_law_check f17 _ := ⟨F17, PySem.W.mg_of X G a17, F17.binds (ps := p_law_check) fun _ _ _ _ _ _ us hl => match us, hl with | [_, _, _], _ => rfl⟩
  have F18 := fun_mk (st := s_law_right) l18 c18 k18
  have D18 : Def K' mg "_law_right" s_law_right p_law_right f18 _ := ⟨F18, PySem.W.mg_of X G a18, F18.binds (ps := p_law_right) fun _ _ _ _ _ _ us hl => match us, hl with | [_, _], _ => rfl⟩
  have F19 := fun_mk (st := s_law_fits) l19 c19 k19
  have D19 : Def K' mg "_law_fits" s_law_fits p_law_fits f19 _ := ⟨F19, PySem.W.mg_of X G a19, F19.binds (ps := p_law_fits) fun _ _ _ _ _ _ us hl => match us, hl with | [_, _], _ => rfl⟩
  have F20 := fun_mk (st := s_law_is_check) l20 c20 k20
  have D20 : Def K' mg "_law_is_check" s_law_is_check p_law_is_check f20 _ := ⟨F20, PySem.W.mg_of X G a20, F20.binds (ps := p_law_is_check) fun _ _ _ _ _ _ us hl => match us, hl with | [_, _], _ => rfl⟩
  have F21 := fun_mk (st := s_law_is_right) l21 c21 k21
  have D21 : Def K' mg "_law_is_right" s_law_is_right p_law_is_right f21 _ := ⟨F21, PySem.W.mg_of X G a21, F21.binds (ps := p_law_is_right) fun _ _ _ _ _ _ us hl => match us, hl with | [_, _, _], _ => rfl⟩
  have F22 := fun_mk (st := s_law_odd) l22 c22 k22
  have D22 : Def K' mg "_law_odd" s_law_odd p_law_odd f22 _ := ⟨F22, PySem.W.mg_of X G a22, F22.binds (ps := p_law_odd) fun _ _ _ _ _ _ us hl => match us, hl with | [_], _ => rfl⟩
  have F23 := fun_mk (st := s_law_bent) l23 c23 k23
  have D23 : Def K' mg "_law_bent" s_law_bent p_law_bent f23 _ := ⟨F23, PySem.W.mg_of X G a23, F23.binds (ps := p_law_bent) fun _ _ _ _ _ _ us hl => match us, hl with | [_, _], _ => rfl⟩
  have F24 := fun_mk (st := s_law) l24 c24 k24
  have D24 : Def K' mg "law" s_law p_law fa _ := ⟨F24, PySem.W.mg_of X G a24, F24.binds (ps := p_law) fun _ _ _ _ _ _ us hl => match us, hl with | [_], _ => rfl⟩
  let B : DD K' mg := { f_is_whole := f0, fd_is_whole := _, d_is_whole := D0, f_is_number := f1, fd_is_number := _, d_is_number := D1, f_is_name := f2, fd_is_name := _, d_is_name := D2, f_fits := f3, fd_fits := _, d_fits := D3, f_place_of := f4, fd_place_of := _, d_place_of := D4, f_places_of := f5, fd_places_of := _, d_places_of := D5, f_kind_of := f6, fd_kind_of := _, d_kind_of := D6, f_has_word := f7, fd_has_word := _, d_has_word := D7, f_has_form := f8, fd_has_form := _, d_has_form := D8, f_is_check := f9, fd_is_check := _, d_is_check := D9, f_is_right := f10, fd_is_right := _, d_is_right := D10, f_law_hand := f11, fd_law_hand := _, d_law_hand := D11, f_law_take := f12, fd_law_take := _, d_law_take := D12, f_law_pick := f13, fd_law_pick := _, d_law_pick := D13, f_law_columns := f14, fd_law_columns := _, d_law_columns := D14, f_law_plan := f15, fd_law_plan := _, d_law_plan := D15, f_law_worth := f16, fd_law_worth := _, d_law_worth := D16, f_law_check := f17, fd_law_check := _, d_law_check := D17, f_law_right := f18, fd_law_right := _, d_law_right := D18, f_law_fits := f19, fd_law_fits := _, d_law_fits := D19, f_law_is_check := f20, fd_law_is_check := _, d_law_is_check := D20, f_law_is_right := f21, fd_law_is_right := _, d_law_is_right := D21, f_law_odd := f22, fd_law_odd := _, d_law_odd := D22, f_law_bent := f23, fd_law_bent := _, d_law_bent := D23, f_law := fa, fd_law := _, d_law := D24 }
  have TW : TxtW K' w mg B := { c_LENGTHS := ⟨(by unfold kvs_LENGTHS; first | decide | (repeat (first | exact List.forall_mem_nil _ | refine List.forall_mem_cons.mpr ⟨rfl, ?_⟩))), ⟨_, _, _, PySem.W.mg_of X G y_LENGTHS, ⟨w_LENGTHS, l_LENGTHS, m_LENGTHS⟩, (.cons _ rfl ⟨_, rfl⟩ (.cons _ rfl ⟨_, rfl⟩ (.cons _ rfl ⟨_, rfl⟩ (.cons _ rfl ⟨_, rfl⟩ (.cons _ rfl ⟨_, rfl⟩ (.cons _ rfl ⟨_, rfl⟩ .nil))))))⟩⟩ }
  refine ⟨K', X, TH, PySem.W.fnOf "law" "law" (defArgs s_law) (defBody s_law) (defScope s_law) .none kV24 dc24 pm24 an24 cd24 ct24, fun s v => .of_eq rfl, fun base _ _ TB => ?_⟩
  exact law_sp (ok_law T B TW) law_flaw
end K04

open PySem PySem.W PyProof.Rows in
set_option maxRecDepth 100000 in
set_option maxHeartbeats 0 in
theorem PySem.Challenge.cw_standviews_k15_what_is_a_right_holds : PySem.Challenge.rw_standviews_k15_what_is_a_right.Holds := by
  w_on; o_law; k_head; (case hw => w_witness2)
  k_fill
  refine DL.walkT (l := PySem.Challenge.rw_standviews_k15_what_is_a_right) (k := 52) rfl rfl ⟨rfl, by decide, by decide⟩ (fun w h Y => by first | exact PySem.W.kIn_of Y | exact PySem.W.km_in_of Y) ?F
  case F =>
    intro w mg mb mean fa h KX T0 hmg
    refine' K04.all_mk KX T0 hmg ?a0 ?l0 ?c0 ?k0 ?a1 ?l1 ?c1 ?k1 ?a2 ?l2 ?c2 ?k2 ?a3 ?l3 ?c3 ?k3 ?a4 ?l4 ?c4 ?k4 ?a5 ?l5 ?c5 ?k5 ?a6 ?l6 ?c6 ?k6 ?a7 ?l7 ?c7 ?k7 ?a8 ?l8 ?c8 ?k8 ?a9 ?l9 ?c9 ?k9 ?a10 ?l10 ?c10 ?k10 ?a11 ?l11 ?c11 ?k11 ?a12 ?l12 ?c12 ?k12 ?a13 ?l13 ?c13 ?k13 ?a14 ?l14 ?c14 ?k14 ?a15 ?l15 ?c15 ?k15 ?a16 ?l16 ?c16 ?k16 ?a17 ?l17 ?c17 ?k17 ?a18 ?l18 ?c18 ?k18 ?a19 ?l19 ?c19 ?k19 ?a20 ?l20 ?c20 ?k20 ?a21 ?l21 ?c21 ?k21 ?a22 ?l22 ?c22 ?k22 ?a23 ?l23 ?c23 ?k23 ?a24 ?l24 ?c24 ?k24 ?z_abs ?z_all ?z_bool ?z_dict ?z_enumerate ?z_int ?z_isinstance ?z_len ?z_list ?z_min ?z_range ?z_repr ?z_set ?z_sorted ?z_str ?z_tuple ?z_type ?y_GREATEST ?y_LONGEST ?y_LENGTHS ?w_LENGTHS ?l_LENGTHS ?m_LENGTHS
    (case a0 => k_is)
    (case l0 => k_is)
    (case c0 => k_is)
    (case k0 => k_is)
    (case a1 => k_is)
    (case l1 => k_is)
    (case c1 => k_is)
    (case k1 => k_is)
    (case a2 => k_is)
    (case l2 => k_is)
    (case c2 => k_is)
    (case k2 => k_is)
    (case a3 => k_is)
    (case l3 => k_is)
    (case c3 => k_is)
    (case k3 => k_is)
    (case a4 => k_is)
    (case l4 => k_is)
    (case c4 => k_is)
    (case k4 => k_is)
    (case a5 => k_is)
    (case l5 => k_is)
    (case c5 => k_is)
    (case k5 => k_is)
    (case a6 => k_is)
    (case l6 => k_is)
    (case c6 => k_is)
    (case k6 => k_is)
    (case a7 => k_is)
    (case l7 => k_is)
    (case c7 => k_is)
    (case k7 => k_is)
    (case a8 => k_is)
    (case l8 => k_is)
    (case c8 => k_is)
    (case k8 => k_is)
    (case a9 => k_is)
    (case l9 => k_is)
    (case c9 => k_is)
    (case k9 => k_is)
    (case a10 => k_is)
    (case l10 => k_is)
    (case c10 => k_is)
    (case k10 => k_is)
    (case a11 => k_is)
    (case l11 => k_is)
    (case c11 => k_is)
    (case k11 => k_is)
    (case a12 => k_is)
    (case l12 => k_is)
    (case c12 => k_is)
    (case k12 => k_is)
    (case a13 => k_is)
    (case l13 => k_is)
    (case c13 => k_is)
    (case k13 => k_is)
    (case a14 => k_is)
    (case l14 => k_is)
    (case c14 => k_is)
    (case k14 => k_is)
    (case a15 => k_is)
    (case l15 => k_is)
    (case c15 => k_is)
    (case k15 => k_is)
    (case a16 => k_is)
    (case l16 => k_is)
    (case c16 => k_is)
    (case k16 => k_is)
    (case a17 => k_is)
    (case l17 => k_is)
    (case c17 => k_is)
    (case k17 => k_is)
    (case a18 => k_is)
    (case l18 => k_is)
    (case c18 => k_is)
    (case k18 => k_is)
    (case a19 => k_is)
    (case l19 => k_is)
    (case c19 => k_is)
    (case k19 => k_is)
    (case a20 => k_is)
    (case l20 => k_is)
    (case c20 => k_is)
    (case k20 => k_is)
    (case a21 => k_is)
    (case l21 => k_is)
    (case c21 => k_is)
    (case k21 => k_is)
    (case a22 => k_is)
    (case l22 => k_is)
    (case c22 => k_is)
    (case k22 => k_is)
    (case a23 => k_is)
    (case l23 => k_is)
    (case c23 => k_is)
    (case k23 => k_is)
    (case a24 => k_is)
    (case l24 => k_is)
    (case c24 => k_is)
    (case k24 => k_is)
    (case z_abs => k_is)
    (case z_all => k_is)
    (case z_bool => k_is)
    (case z_dict => k_is)
    (case z_enumerate => k_is)
    (case z_int => k_is)
    (case z_isinstance => k_is)
    (case z_len => k_is)
    (case z_list => k_is)
    (case z_min => k_is)
    (case z_range => k_is)
    (case z_repr => k_is)
    (case z_set => k_is)
    (case z_sorted => k_is)
    (case z_str => k_is)
    (case z_tuple => k_is)
    (case z_type => k_is)
    (case y_GREATEST => k_is)
    (case y_LONGEST => k_is)
    (case y_LENGTHS => k_is)
    (case w_LENGTHS => k_is)
    (case l_LENGTHS => k_keys)
    (case m_LENGTHS => rfl)
