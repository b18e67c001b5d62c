import PyProof.Rows.All
import Wide.All
import OpenK.AllK
import Wide.FinOn
import HandS.Words
import HandS.Ends
import HandS.ForMost
import HandS.More
import HandS.Walk
import HandS.TupAny
import HandS.Style
import HandS.IsInst
import HandS.Zip
import HandS.Conv
import HandS.Deep
import KE.KeyNested
import KE.KNest
import HandS.Nested
import KE.GoesEnum
import HandS.Iter
import HandS.Set
import HandS.SetFor
import HandS.SetTxt0
import HandS.Strs
import PyProof.Rows.SortShellAny
import HandS.List
import PyProof.ReprRoads
import PyProof.ReprDict
import PyProof.CallFns
import PyProof.CallStr
import PyProof.EqAt
import PyProof.EqKinds
import PyProof.NeKinds
import PyProof.Rows.IntBool
import PyProof.TwoTypesSub
import PyProof.ReprLen
import PyProof.ReprRoom
import PyProof.Rows.ReprOcc
import PyProof.Rows.StrCase
import HandS.CallLocal
import PyProof.WalksMore
import KE.GoesZip
import KE.SortKeyHeap
import PyProof.P3Eq
import HandS.SortKw
import HandS.FStr
import HandS.Star
import PyProof.P3In
import KE.KDictKeyed
import KE.DataFind
import HandS.Wide
import HandS.TryOnly
import HandS.DictComp
import KE.KDictList
import HandS.RaiseMore
import KE.GoesMore
import PySem.Challenge.RW_standviews_k16_what_is_seen
set_option Elab.async false
set_option linter.all false
set_option autoImplicit false
set_option maxRecDepth 100000
set_option maxHeartbeats 4000000
/-! promises of defs where nothing is being shown (no guard stands): repr may be asked -/
namespace DG
open PySem PySem.Spec PyProof.Rows L2
structure RoomG (k : Nat) (A : Around) : Prop where
  r : Room k A
  g : A.guards = some []
theorem RoomG.mono {j k : Nat} {A : Around} (r : RoomG k A) (h : j ≤ k) : RoomG j A := ⟨r.r.mono h, r.g⟩
structure FnG (P : Program) (w : World) (K : PySem.W.Frag) (mg : Str → Option Value) (base : Heap) (CX : CXT) (k : Nat) (f : Addr) (fd : FuncData) (ps : List Str) (sp : Sp) : Prop where
  len : ∀ vs H Q E, sp vs H Q E → vs.length = ps.length
  run : ∀ (A : Around) (outer : List Env) (s : Shared) (H : Hp) (args : Args) (us : List Value) (vs : List V) (Q : VK) (E : XK), RoomG k A → Env0 P w K mg base A outer s H → BindsTo s fd args (ps.zip us) →
    Vals vs us → sp vs H Q E → codeAny (model P w) A (.call (.ref f) args) (CR CX outer P w H s Q E) s
section
variable {P : Program} {w : World} {K : PySem.W.Frag} {mg : Str → Option Value} {base : Heap} {CX : CXT} {j k : Nat} {f : Addr} {fd : FuncData} {ps : List Str} {sp sp' : Sp}
theorem FnG.mono (F : FnG P w K mg base CX j f fd ps sp) (h : j ≤ k) : FnG P w K mg base CX k f fd ps sp := ⟨F.len, fun A o s H a us vs Q E r => F.run A o s H a us vs Q E (r.mono h)⟩
theorem FnG.imp (F : FnG P w K mg base CX k f fd ps sp) (h : ∀ vs H Q E, sp' vs H Q E → sp vs H Q E) : FnG P w K mg base CX k f fd ps sp' :=
  ⟨fun vs H Q E q => F.len vs H Q E (h _ _ _ _ q), fun A o s H a us vs Q E r e b v q => F.run A o s H a us vs Q E r e b v (h _ _ _ _ q)⟩
/-- a def by its body -/
theorem fnG {x qual : Str} {st : Stmt} {N : List Str} (D : Fun K x qual st f fd) (S : FnScope N ps (defScope st)) (len : ∀ vs H Q E, sp vs H Q E → vs.length = ps.length)
    (body : ∀ (cdv : Value) (A : Around) (outer : List Env) (s : Shared) (H : Hp) (vs : List V) (Q : VK) (E : XK), RoomG k (A.deeper (envOfC qual (defScope st) s.heap.objs.size f cdv)) → sp vs H Q E →
      ∃ t, PSs (cxOf CX P w K mg base N qual (defScope st) f cdv A outer s H E) (defBody st) t ∧ t { nx := fun _ H' => Q .non H', rt := Q } (start N vs) H) : FnG P w K mg base CX (k + 1) f fd ps sp := by
  obtain ⟨oc, od, kV, doc, pm, an, cdv, ct, osl, rfl, lk, hcd⟩ := D.ex
  refine ⟨len, fun A outer s H args us vs Q E hr e0 hb r hsp => ?_⟩
  have hl := len vs H Q E hsp
  have KX : K.In s.heap := e0.mod.kin.keeps fun b o e => (e0.bs b o e).1
  have lim := e0.mod.nolimit.keeps fun b o e => (e0.bs b o e).1
  have kinds : ∀ y ∈ ps.zip us, (defScope st).names.lookup y.1 = some .local ∨ ((defScope st).names.lookup y.1 = some .cell ∧ ((cellsFrom (s.heap.objs.size + 1) (defScope st).names []).lookup y.1).isSome = true) := by
    intro y hy
    have hm := (List.of_mem_zip (a := y.1) (b := y.2) hy).1
    exact (S.par y.1 hm).imp id fun q => ⟨q, PySem.W.cellsFrom_some _ _ _ (.inl q)⟩
  apply codeAny_call_function hr.r.depth (KX _ _ lk) rfl S.co S.gen rfl (PySem.W.codeRec_of KX hcd)
  refine hb _ _ _ _ (wpAny_newFunctionEnv_cells S.kind kinds fun env he s1 x => ?_)
  subst he
  refine ⟨lim.keeps x.toInCall.keep, ?_⟩
  apply codeAny_func
  obtain ⟨t, ht, q⟩ := body cdv A outer s H vs Q E ⟨hr.r.deeper _, hr.g⟩ hsp
  have I := inv_start (CX := CX) (E := E) S hr.r.hd e0 hl r x
  refine wpAny_mono (ht.run [] s1 (start N vs) H _ I q) (fun fl s' z => ?_) fun e s' z => z
  match fl, z with
  | .ret u, ⟨v, σ', H', J, rv, q⟩ => exact ⟨v, H', J.os, J.bare, J.base, J.hok, rv, q⟩
  | .next, ⟨σ', H', J, q⟩ => exact ⟨V.non, H', J.os, J.bare, J.base, J.hok, rfl, q⟩
  | .brk, ⟨_, _, _, q⟩ => exact q.elim
  | .cont, ⟨_, _, _, q⟩ => exact q.elim
end
/-- a call of one -/
theorem pe_callG {X : Cx} {CX : CXT} {k : Nat} {f : Addr} {fd : FuncData} {ps : List Str} {sp : Sp} {E : XK} {x : Str} {p pos : Pos} {e : Expr} {es : List Expr} {t : TA} (F : FnG X.prog X.w X.K X.mg X.base CX k f fd ps sp) (hr : RoomG k X.A) (hg : Gl X x) (hm : X.mg x = some (.ref f))
    (hk : PySem.W.keepIn X.K (.ref f) = true) (hb : Binds X.K fd ps []) (hx : Passes CX X E) (ha : PA X (e :: es) t) (hdb : (x == ("__debug__" : Str)) = false := by decide)
    (he : starEach (e :: es) X.env = (false, eval e X.env) :: starEach es X.env := by rfl) (hpl : (backTo pos (starEach es X.env)).any (·.1) = false := by rfl) : PE X (.Call (.Name x p) (e :: es) [] pos) (tCall sp [] E t) := by
  refine ⟨fun pins s σ H Q I h => wpAny_Call_Name_kw (ld_glob I hg hm ?_ hdb)⟩
  refine PySem.W.callWith_K (h₀ := X.base) I.ok.mod.kin hk (thn (ha.run pos pins s σ H _ I h) fun us s1 ⟨vs, H1, I1, r, q⟩ => ⟨I1.kIn, wpAny_call ?_⟩) he hpl
  have q : sp (vs ++ []) H1 Q E := q
  rw [List.append_nil] at q
  have hl : (us ++ []).length = ps.length := by rw [List.append_nil, ← r.length]; exact F.len _ _ _ _ q
  have b := hb s1 us I1.kIn hl
  rw [List.append_nil] at b
  refine codeAny_mono (F.run X.A X.stack s1 H1 ⟨us, []⟩ us vs Q E hr I1.env0 b r q) fun r s' z => ?_
  match r, z with
  | .error e, z => exact hx pins σ H1 s1 e s' I1 z
  | .ok (.ret u), z => exact I1.after z
  | .ok .next, z => exact z.elim
  | .ok .brk, z => exact z.elim
  | .ok .cont, z => exact z.elim
end DG

set_option autoImplicit false
set_option maxRecDepth 100000
set_option maxHeartbeats 4000000
namespace DG
open PySem PySem.Spec PyProof.Rows L2
section
variable {P : Program} {w : World} {K : PySem.W.Frag} {mg mb : Str → Option Value} {CX : CXT} {k : Nat} {fa a : Addr} {fd : FuncData} {x : Str} {sp : Sp} {s : Shared} {vs : List Value} {ns : List Int}
/-- what the head wants of the law's call -/
abbrev Told (s : Shared) : Result → Shared → Prop := fun r s' => r = .ok (.ret (.bool true)) ∧ OldK s.heap s'.heap ∧ s'.os = s.os ∧ AllBare s'.gens
/-- the call at an abstract heap in which the script's place alone may be tracked -/
theorem call_at {H : Hp} (hA : ∀ b, H b ≠ none → b = a) (hK : H a ≠ none → K.lookup a = none) (hO : Only H) (hl : s.heap.get? a = some { cls := .type "list", data := .seq vs.toArray }) (hok : HOk P w H s.heap)
    (KX : K.In s.heap) (n1 : s.heap.Ns mainGlobals mg) (n2 : s.heap.Ns builtinsNs mb) (n3 : ∀ x : Str, x ≠ "__name__" → mb x = bootBuiltins x) (lim : s.heap.NoLimit) (gn : s.gens = #[]) (hr : Room k callerA)
    (F : ∀ base : Heap, K.In base → base.Ns mainGlobals mg → FnG P w K mg base CX k fa fd [x] sp) (bind : ∀ (s : Shared) (u : Value), BindsTo s fd ⟨[u], []⟩ [(x, u)])
    (hsp : sp [.ref a] H (fun v _ => v = .bl true) fun _ _ _ => False) (hCX : ∀ e s', CX [] H s (fun _ _ _ => False) e s' → False) : codeAny (model P w) callerA (.call (.ref fa) ⟨[.ref a], []⟩) (Told s) s := by
  have keep : ∀ {b : Addr} {o : Obj}, s.heap.get? b = some o → H b = none → (hidT s.heap H).get? b = some o := fun e n => hidT_get e n
  have free : ∀ {b : Addr} {o : Obj}, s.heap.get? b = some o → (∀ d n, o.data = .dict d n → H b = none) := fun {b o} e d n hd => by
    cases q : H b with
    | none => rfl
    | some u =>
      have eb := hA b (by rw [q]; intro z; cases z)
      rw [eb, hl] at e
      cases e
      cases hd
  have ns : ∀ {b : Addr} {m : Str → Option Value}, s.heap.Ns b m → (hidT s.heap H).Ns b m := fun ⟨o, d, n, e, hd, r⟩ => ⟨o, d, n, keep e (free e d n hd), hd, r⟩
  have KB : K.In (hidT s.heap H) := fun b o e => keep (KX b o e) (by
    cases q : H b with
    | none => rfl
    | some u =>
      have eb := hA b (by rw [q]; intro z; cases z)
      have := hK (by rw [← eb, q]; intro z; cases z)
      rw [eb, this] at e
      cases e)
  have M : Mod K mg (hidT s.heap H) := by
    refine ⟨KB, ns n1, ⟨mb, ns n2, n3⟩, ?_⟩
    obtain ⟨c, l1, l2⟩ := lim
    exact ⟨c, ns l1, l2⟩
  have E0 : Env0 P w K mg (hidT s.heap H) callerA [] s H := ⟨rfl, M, fun b o e => of_hidT e, Nat.le_of_eq (hidT_size _ _), trivial, fun b z => (by cases z), hok, .of_eq gn⟩
  have run := (F (hidT s.heap H) KB (ns n1)).run callerA [] s H ⟨[.ref a], []⟩ [.ref a] [.ref a] (fun v _ => v = .bl true) (fun _ _ _ => False) ⟨hr, rfl⟩ E0 (bind s _) (.cons rfl .nil) hsp
  refine codeAny_mono run fun r s' z => ?_
  match r, z with
  | .error e, z => exact (hCX e s' z).elim
  | .ok .next, z => exact z.elim
  | .ok .brk, z => exact z.elim
  | .ok .cont, z => exact z.elim
  | .ok (.ret u), ⟨v, H', os, br, un, ok', rv, q⟩ =>
    have q : v = .bl true := q
    subst q
    have eu : u = Value.bool true := rv
    refine ⟨by rw [eu], OldK.of_keep fun b o e => ?_, os, br⟩
    cases q : H b with
    | none => exact un.keep b o e q (fun z => by cases z) (fun z => by cases z)
    | some t =>
      rcases hO b with z | ⟨ob, ys, z⟩
      · rw [z] at q; cases q
      · have f1 := (hok b _ z).1
        have f2 := (ok' b _ (un.frzs b ob _ z)).1
        rw [e] at f1
        cases f1
        exact f2
theorem law_callG (KX : K.In s.heap) (n1 : s.heap.Ns mainGlobals mg) (n2 : s.heap.Ns builtinsNs mb) (n3 : ∀ x : Str, x ≠ "__name__" → mb x = bootBuiltins x) (lim : s.heap.NoLimit) (gn : s.gens = #[])
    (hl : s.heap.get? a = some { cls := .type "list", data := .seq vs.toArray }) (hi : IntsAre vs ns) (hz : ns.length ≤ sizeLine) (hr : Room k callerA)
    (F : ∀ base : Heap, K.In base → base.Ns mainGlobals mg → FnG P w K mg base CX k fa fd [x] sp) (bind : ∀ (s : Shared) (u : Value), BindsTo s fd ⟨[u], []⟩ [(x, u)])
    (hsp : ∀ H : Hp, Only H → SqL K H a (ns.map V.int) → sp [.ref a] H (fun v _ => v = .bl true) fun _ _ _ => False) (hCX : ∀ H e s', CX [] H s (fun _ _ _ => False) e s' → False) :
    codeAny (model P w) callerA (.call (.ref fa) ⟨[.ref a], []⟩) (Told s) s := by
  have vi := vals_ints hi
  have len := hi.length
  cases hk : K.lookup a with
  | some o =>
    have e := KX a o hk
    rw [hl] at e
    cases e
    have sq : SqL K (fun _ => none) a (ns.map V.int) := .inr ⟨_, vs.toArray, _, hk, rfl, rfl, rfl, (by rw [List.size_toArray]; omega), by simpa using vi⟩
    exact call_at (H := fun _ => none) (fun b z => absurd rfl z) (fun z => absurd rfl z) (fun _ => .inl rfl) hl (fun b u z => by cases z) KX n1 n2 n3 lim gn hr F bind (hsp _ (fun _ => .inl rfl) sq) fun e s' => hCX _ e s'
  | none =>
    let O : HO := .frz { cls := .type "list", data := .seq vs.toArray } (.lst (ns.map V.int))
    have h1 : ∀ b, b = a → (fun b => if b = a then some O else none) b = some O := fun b e => if_pos e
    have h2 : ∀ b, b ≠ a → (fun b => if b = a then some O else none) b = none := fun b e => if_neg e
    generalize eH : (fun b => if b = a then some O else none) = H at h1 h2
    have on : Only H := fun b => by
      by_cases e : b = a
      · exact .inr ⟨_, _, h1 b e⟩
      · exact .inl (h2 b e)
    refine call_at (H := H) (fun b z => ?_) (fun _ => hk) on hl (fun b u z => ?_) KX n1 n2 n3 lim gn hr F bind (hsp _ on (.inl (.inr ⟨_, h1 a rfl⟩))) fun e s' => hCX _ e s'
    · by_cases e : b = a
      · exact e
      · exact absurd (h2 b e) z
    · by_cases e : b = a
      · rw [h1 b e] at z
        cases z
        subst e
        exact ⟨hl, (by rw [List.length_map]; exact hz), vs, _, vi, hl⟩
      · rw [h2 b e] at z
        cases z
end
/-- the head's goal -/
theorem walkG {l : PySem.W.OpenLaw} {n k : Nat} {q : Program} {loose : List Str} {XP : (Str → Option Value) → Heap → Prop} {YP : World → Heap → Prop} {d : DefRec} {K : Params → PySem.W.Frag} {CX : World → CXT} {sp : World → Sp} {x : Str}
    (hn : l.most = some n) (hn2 : n ≤ sizeLine) (hdf : d.params.defaults = []) (hr : Room k callerA) (hY : ∀ (w : World) (h : Heap), YP w h → (K w.params).In h)
    (F : ∀ (w : World) (mg : Str → Option Value) (fa : Addr) (h : Heap), (K w.params).In h → h.Ns mainGlobals mg → mg d.name = some (.ref fa) →
      ∃ fd : FuncData, (∀ (s : Shared) (u : Value), BindsTo s fd ⟨[u], []⟩ [(x, u)]) ∧ ∀ base : Heap, (K w.params).In base → base.Ns mainGlobals mg → FnG l.prog w (K w.params) mg base (CX w) k fa fd [x] (sp w))
    (hsp : ∀ (w : World) (H : Hp) (a : Addr) (ns : List Int), ns.length ≤ n → Only H → SqL (K w.params) H a (ns.map V.int) → sp w [.ref a] H (fun v _ => v = .bl true) fun _ _ _ => False)
    (hCX : ∀ (w : World) (H : Hp) (s : Shared) (e : Value) (s' : Shared), CX w [] H s (fun _ _ _ => False) e s' → False) : PySem.W.WalkO q loose XP YP l.row.toRowW d [] (fun f vs => PySem.call f vs) := by
  apply Att.attach_call hn hdf
  intro w s0 s1 mg mb fa o pm cd doc a vs ns G Y ho hd hcd hmg hobj hints hlen hg
  have KX := hY w _ Y
  obtain ⟨fd, hb, hF⟩ := F w mg fa _ KX G.T.g hmg
  exact law_callG KX G.T.g G.T.b G.T.builtins G.T.nolimit hg hobj hints (by omega) hr hF hb (fun H hO hS => hsp w H a ns hlen hO hS) fun H e s' => hCX w H s1 e s'
end DG

set_option autoImplicit false
set_option maxRecDepth 100000
set_option maxHeartbeats 2000000
namespace DL
open PySem L2

/-! ### data -/
inductive D where
  | non | bl (b : Bool) | int (i : Int) | str (s : Str)
  | tup (xs : List D) | lst (xs : List D) | scr (xs : List D) | cel (a : Addr) | ty (n : String)

mutual
inductive Dat (K : PySem.W.Frag) (H : Hp) : V → D → Prop
  | non : Dat K H .non .non
  | bl (b : Bool) : Dat K H (.bl b) (.bl b)
  | int (i : Int) : Dat K H (.int i) (.int i)
  | str (s : Str) : Dat K H (.str s) (.str s)
  | tup {a : Addr} {vs : List V} {ds : List D} : SqT K H a vs → Dats K H vs ds → Dat K H (.ref a) (.tup ds)
  | lst {a : Addr} {vs : List V} {ds : List D} : H a = some (.lst vs) → Dats K H vs ds → Dat K H (.ref a) (.lst ds)
  | scr {a : Addr} {vs : List V} {ds : List D} : SqL K H a vs → Dats K H vs ds → Dat K H (.ref a) (.scr ds)
  | cel (a : Addr) : Dat K H (.ref a) (.cel a)
  | ty (n : String) : Dat K H (.ty n) (.ty n)
inductive Dats (K : PySem.W.Frag) (H : Hp) : List V → List D → Prop
  | nil : Dats K H [] []
  | cons {v : V} {vs : List V} {d : D} {ds : List D} : Dat K H v d → Dats K H vs ds → Dats K H (v :: vs) (d :: ds)
end

theorem same_l {K : PySem.W.Frag} {H H' : Hp} {a : Addr} {xs : List V} (e : Same H H') (h : SqL K H a xs) : SqL K H' a xs := e.seq h
theorem same_t {K : PySem.W.Frag} {H H' : Hp} {a : Addr} {xs : List V} (e : Same H H') (h : SqT K H a xs) : SqT K H' a xs := by
  rcases h with (h | ⟨o, h⟩) | h
  · exact .inl (.inl (e _ _ h))
  · exact .inl (.inr ⟨o, e _ _ h⟩)
  · exact .inr h

mutual
theorem Dat.mono {K : PySem.W.Frag} {H H' : Hp} (e : Same H H') : ∀ (d : D) (v : V), Dat K H v d → Dat K H' v d
  | .non, _, .non => .non
  | .bl _, _, .bl b => .bl b
  | .int _, _, .int i => .int i
  | .str _, _, .str s => .str s
  | .tup ds, _, .tup h hs => .tup (same_t e h) (Dats.mono e ds _ hs)
  | .lst ds, _, .lst h hs => .lst (e _ _ h) (Dats.mono e ds _ hs)
  | .scr ds, _, .scr h hs => .scr (same_l e h) (Dats.mono e ds _ hs)
  | .cel _, _, .cel a => .cel a
  | .ty _, _, .ty n => .ty n
theorem Dats.mono {K : PySem.W.Frag} {H H' : Hp} (e : Same H H') : ∀ (ds : List D) (vs : List V), Dats K H vs ds → Dats K H' vs ds
  | [], _, .nil => .nil
  | d :: ds, _, .cons h hs => .cons (Dat.mono e d _ h) (Dats.mono e ds _ hs)
end
theorem Dats.length {K : PySem.W.Frag} {H : Hp} : ∀ {vs : List V} {ds : List D}, Dats K H vs ds → vs.length = ds.length
  | _, _, .nil => rfl
  | _, _, .cons _ t => congrArg (· + 1) (Dats.length t)
theorem Dats.get {K : PySem.W.Frag} {H : Hp} : ∀ {vs : List V} {ds : List D} {i : Nat} {d : D}, Dats K H vs ds → ds[i]? = some d → ∃ v, vs[i]? = some v ∧ Dat K H v d
  | _, _, _, _, .nil, e => by simp at e
  | _, _, 0, _, .cons h _, e => by simp at e; subst e; exact ⟨_, rfl, h⟩
  | _, _, i + 1, _, .cons _ t, e => by
    obtain ⟨v, h1, h2⟩ := Dats.get (i := i) t (by simpa using e)
    exact ⟨v, by simpa using h1, h2⟩
theorem Dats.getV {K : PySem.W.Frag} {H : Hp} : ∀ {vs : List V} {ds : List D} {i : Nat} {v : V}, Dats K H vs ds → vs[i]? = some v → ∃ d, ds[i]? = some d ∧ Dat K H v d
  | _, _, _, _, .nil, e => by simp at e
  | _, _, 0, _, .cons h _, e => by simp at e; subst e; exact ⟨_, rfl, h⟩
  | _, _, i + 1, _, .cons _ t, e => by
    obtain ⟨v, h1, h2⟩ := Dats.getV (i := i) t (by simpa using e)
    exact ⟨v, by simpa using h1, h2⟩
theorem Dats.append {K : PySem.W.Frag} {H : Hp} : ∀ {vs ws : List V} {ds es : List D}, Dats K H vs ds → Dats K H ws es → Dats K H (vs ++ ws) (ds ++ es)
  | _, _, _, _, .nil, s => s
  | _, _, _, _, .cons h t, s => .cons h (Dats.append t s)
theorem Dats.one {K : PySem.W.Frag} {H : Hp} {v : V} {d : D} (h : Dat K H v d) : Dats K H [v] [d] := .cons h .nil
theorem Dats.take {K : PySem.W.Frag} {H : Hp} : ∀ {vs : List V} {ds : List D} (n : Nat), Dats K H vs ds → Dats K H (vs.take n) (ds.take n)
  | _, _, 0, _ => .nil
  | _, _, _ + 1, .nil => .nil
  | _, _, n + 1, .cons h t => .cons h (Dats.take n t)
theorem Dats.drop {K : PySem.W.Frag} {H : Hp} : ∀ {vs : List V} {ds : List D} (n : Nat), Dats K H vs ds → Dats K H (vs.drop n) (ds.drop n)
  | _, _, 0, h => h
  | _, _, _ + 1, .nil => .nil
  | _, _, n + 1, .cons _ t => Dats.drop n t
theorem Dats.set {K : PySem.W.Frag} {H : Hp} {v : V} {d : D} (h : Dat K H v d) : ∀ {vs : List V} {ds : List D} (i : Nat), Dats K H vs ds → Dats K H (vs.set i v) (ds.set i d)
  | _, _, _, .nil => .nil
  | _, _, 0, .cons _ t => .cons h t
  | _, _, i + 1, .cons q t => .cons q (Dats.set h i t)
theorem Dats.eraseIdx {K : PySem.W.Frag} {H : Hp} : ∀ {vs : List V} {ds : List D} (i : Nat), Dats K H vs ds → Dats K H (vs.eraseIdx i) (ds.eraseIdx i)
  | _, _, _, .nil => .nil
  | _, _, 0, .cons _ t => t
  | _, _, i + 1, .cons q t => .cons q (Dats.eraseIdx i t)
theorem Dats.dropLast {K : PySem.W.Frag} {H : Hp} {vs : List V} {ds : List D} (h : Dats K H vs ds) : Dats K H vs.dropLast ds.dropLast := by
  rw [List.dropLast_eq_take, List.dropLast_eq_take, h.length]; exact h.take _

/-! ### mutable cells -/
mutual
/-- a key of a dict, as data -/
def kD : NestedKey → D
  | .none => .non
  | .num i => .int i
  | .text x => .str x
  | .tup ks => .tup (kDs ks)
def kDs : List NestedKey → List D
  | [] => []
  | k :: ks => kD k :: kDs ks
end
/-- the object of a dict whose keys are tuples: its entries; o: it is just this one (while it is walked) -/
def DObj (w : World) (a : Addr) (lk : Option Obj) (xs : List (NestedKey × Addr × Value)) : Heap → Prop := fun h =>
  ∃ o es ep, h.get? a = some o ∧ (∀ o', lk = some o' → o = o') ∧ o.ExactDict ∧ o.data = .dict es ep ∧ es.toList = xs.map fun x => ⟨x.1.hash w, .ref x.2.1, x.2.2⟩
/-- an entry as data -/
def NEnt (K : PySem.W.Frag) (H : Hp) (x : NestedKey × Addr × Value) (p : NestedKey × D) : Prop := p.1 = x.1 ∧ Dat K H (.ref x.2.1) (kD x.1) ∧ x.1.depth ≤ 8 ∧ ∃ v, RelV v x.2.2 ∧ Dat K H v p.2
theorem NEnt.mono {K : PySem.W.Frag} {H H' : Hp} (e : Same H H') {x : NestedKey × Addr × Value} {p : NestedKey × D} (h : NEnt K H x p) : NEnt K H' x p :=
  let ⟨a, b, c, v, d, f⟩ := h; ⟨a, b.mono e, c, v, d, f.mono e⟩
inductive Cell where
  | lst (ds : List D)
  | dct (kvs : List (Key × D))
  /-- keys are tuples of numbers, texts, None -/
  | dnt (w : World) (a : Addr) (lk : Option Obj) (kvs : List (NestedKey × D))
  /-- a range object -/
  | rng (lo hi : Int)
  /-- the table of the code objects that the def x makes -/
  | ctab (x : Str)
  /-- a dict while a loop walks it: the object o, its entries -/
  | dcf (o : Obj) (kvs : List (Key × V)) (kds : List (Key × D))
/-- what a lambda of the def x is called -/
def lamQ (x : Str) : Str := x ++ ".<locals>." ++ "<lambda>"
/-- the names that the last entry of the known part lists: the defs that make lambdas -/
def lamNames (K : PySem.W.Frag) : List Str := match K.getLast? with
  | some (_, ⟨.none, _, .fields vs, _⟩) => vs.toList.filterMap fun v => match v with | .str x _ => some x | _ => none
  | _ => []
/-- P is the table of such a def x -/
def TabOf (K : PySem.W.Frag) (P : Addr) (x : Str) : Prop := x ∈ lamNames K ∧ ∃ c, PySem.W.tabIn K x = some (c, P)
/-- it tells only code objects of this def's lambdas -/
def TabGood (H : Hp) (ps : Array Value) (x : Str) : Prop := TriplesOk ps.toList ∧ ∀ (po : Pos) (u : Value), codeAmong po ps.toList = some u → ∃ b, u = .ref b ∧ H b = some (LamX.CodeO b (lamQ x))
theorem TabGood.mono {H H' : Hp} {ps : Array Value} {x : Str} (e : Same H H') (h : TabGood H ps x) : TabGood H' ps x := ⟨h.1, fun po u q => let ⟨b, h1, h2⟩ := h.2 po u q; ⟨b, h1, e _ _ h2⟩⟩
abbrev Mem := Addr → Option Cell
def setM (M : Mem) (a : Addr) (c : Cell) : Mem := fun b => if b = a then some c else M b
theorem setM_same {M : Mem} {a : Addr} {c : Cell} : setM M a c a = some c := by unfold setM; rw [if_pos rfl]
theorem setM_ne {M : Mem} {a b : Addr} {c : Cell} (h : b ≠ a) : setM M a c b = M b := by unfold setM; rw [if_neg h]
theorem setM_setM {M : Mem} {a : Addr} {c c' : Cell} : setM (setM M a c) a c' = setM M a c' := by
  funext b; unfold setM; split <;> rfl
theorem setM_comm {M : Mem} {a b : Addr} {c c' : Cell} (h : a ≠ b) : setM (setM M a c) b c' = setM (setM M b c') a c := by
  funext x; unfold setM; by_cases h1 : x = b <;> by_cases h2 : x = a <;> simp [h1, h2]
  · exact absurd (h2.symm.trans h1) h
  · intro e; exact absurd e.symm h
  · intro e; exact absurd e h
theorem neM {M : Mem} {a b : Addr} {c : Cell} (h : M a = some c) (h' : M b = none) : a ≠ b := by
  intro e; subst e; rw [h] at h'; cases h'

abbrev DKs (K : PySem.W.Frag) (H : Hp) : List (Key × V) → List (Key × D) → Prop := Paired fun p q => p.1 = q.1 ∧ Dat K H p.2 q.2
inductive CellOk (K : PySem.W.Frag) (H : Hp) : HO → Cell → Prop
  | lst {vs : List V} {ds : List D} : Dats K H vs ds → CellOk K H (.lst vs) (.lst ds)
  | dct {kvs : List (Key × V)} {kds : List (Key × D)} : DKs K H kvs kds → CellOk K H (.dK kvs) (.dct kds)
  | dnt {w : World} {a : Addr} {lk : Option Obj} {xs : List (NestedKey × Addr × Value)} {kvs : List (NestedKey × D)} : Paired (NEnt K H) xs kvs → (xs.map (·.1)).Nodup → xs.length ≤ sizeLine → (a == sysModules) = false →
      CellOk K H (.ext (DObj w a lk xs)) (.dnt w a lk kvs)
  | rng (lo hi : Int) : CellOk K H (.rng lo hi) (.rng lo hi)
  | dcf {o : Obj} {kvs : List (Key × V)} {kds : List (Key × D)} : DKs K H kvs kds → CellOk K H (.frz o (.dK kvs)) (.dcf o kvs kds)
  | tab {ps : Array Value} {x : Str} : TabGood H ps x → CellOk K H (.tbl ps) (.ctab x)
theorem CellOk.mono {K : PySem.W.Frag} {H H' : Hp} (e : Same H H') {o : HO} {c : Cell} (h : CellOk K H o c) : CellOk K H' o c := by
  cases h with
  | lst h => exact .lst (h.mono e)
  | dct h => exact .dct (Paired.mapP h fun _ _ q => ⟨q.1, q.2.mono e⟩)
  | dnt h h1 h2 h3 => exact .dnt (Paired.mapP h fun _ _ q => q.mono e) h1 h2 h3
  | rng lo hi => exact .rng lo hi
  | tab h => exact .tab (h.mono e)
  | dcf h => exact .dcf (Paired.mapP h fun _ _ q => ⟨q.1, q.2.mono e⟩)

/-- the persistent part H0 within H, the mutable cells M beside it -/
structure Wd (K : PySem.W.Frag) (Fr : Hp) (H0 : Hp) (M : Mem) (H : Hp) : Prop where
  ex : Same H0 H
  mem : ∀ a c, M a = some c → H0 a = none ∧ ∃ o, H a = some o ∧ CellOk K H0 o c
  fr : ∀ a o, Fr a = some o → H0 a = none ∧ M a = none ∧ H a = some o
  tb : ∀ P x, TabOf K P x → M P = some (.ctab x)
/-- any cell but a table -/
def noTab : Cell → Prop
  | .ctab _ => False
  | _ => True
theorem same_new {H : Hp} {p : Addr} {o : HO} (h : H p = none) : Same H (upd H p o) := fun a u e => by
  rw [upd_ne (ne_of_none e h)]; exact e
section
variable {K : PySem.W.Frag} {Fr H0 H : Hp} {M : Mem} {p a : Addr} {o : HO} {c : Cell}
theorem Wd.fresh (w : Wd K Fr H0 M H) (h : H p = none) : H0 p = none := w.ex.free h
theorem Wd.freshM (w : Wd K Fr H0 M H) (h : H p = none) : M p = none := by
  cases q : M p with
  | none => rfl
  | some c => obtain ⟨_, o, e, _⟩ := w.mem p c q; rw [h] at e; cases e
theorem Wd.freshF (w : Wd K Fr H0 M H) (h : H p = none) : Fr p = none := by
  cases q : Fr p with
  | none => rfl
  | some c => have e := (w.fr p c q).2.2; rw [h] at e; cases e
theorem neF {Fr : Hp} {a b : Addr} {u : HO} (h : Fr a = some u) (h' : Fr b = none) : a ≠ b := by
  intro e; subst e; rw [h] at h'; cases h'
/-- such an object becomes persistent -/
theorem Wd.adopt (w : Wd K Fr H0 M H) (h0 : H0 p = none) (hM : M p = none) (hF : Fr p = none) (h : H p = some o) : Wd K Fr (upd H0 p o) M H :=
  ⟨fun b u e => by
    by_cases hb : b = p
    · subst hb; rw [upd_same] at e; rw [h]; exact e
    · rw [upd_ne hb] at e; exact w.ex b u e, fun b c e => by
    obtain ⟨h1, o', h2, h3⟩ := w.mem b c e
    exact ⟨by rw [upd_ne (neM e hM)]; exact h1, o', h2, h3.mono (same_new h0)⟩, fun b u e => by
    obtain ⟨h1, h2, h3⟩ := w.fr b u e
    exact ⟨by rw [upd_ne (neF e hF)]; exact h1, h2, h3⟩, w.tb⟩
/-- an object that nobody tells of is changed, or is new -/
theorem Wd.tmpSet (w : Wd K Fr H0 M H) (h0 : H0 p = none) (hM : M p = none) (hF : Fr p = none) : Wd K Fr H0 M (upd H p o) :=
  ⟨fun b u e => by rw [upd_ne (ne_of_none e h0)]; exact w.ex b u e, fun b c e => by
    obtain ⟨h1, o', h2, h3⟩ := w.mem b c e
    exact ⟨h1, o', by rw [upd_ne (neM e hM)]; exact h2, h3⟩, fun b u e => by
    obtain ⟨h1, h2, h3⟩ := w.fr b u e
    exact ⟨h1, h2, by rw [upd_ne (neF e hF)]; exact h3⟩, w.tb⟩
theorem Wd.tmp (w : Wd K Fr H0 M H) (h : H p = none) : Wd K Fr H0 M (upd H p o) := w.tmpSet (w.fresh h) (w.freshM h) (w.freshF h)
/-- a new persistent object -/
theorem Wd.new (w : Wd K Fr H0 M H) (h : H p = none) : Wd K Fr (upd H0 p o) M (upd H p o) := (w.tmp h).adopt (w.fresh h) (w.freshM h) (w.freshF h) upd_same
/-- such an object becomes a cell -/
theorem Wd.adoptM (w : Wd K Fr H0 M H) (h0 : H0 p = none) (hF : Fr p = none) (h : H p = some o) (k : CellOk K H0 o c) (hc : noTab c := by trivial) : Wd K Fr H0 (setM M p c) H :=
  ⟨w.ex, fun b c' e => by
    by_cases hb : b = p
    · subst hb; rw [setM_same] at e; cases e; exact ⟨h0, o, h, k⟩
    · rw [setM_ne hb] at e; exact w.mem b c' e, fun b u e => by
    obtain ⟨h1, h2, h3⟩ := w.fr b u e
    exact ⟨h1, by rw [setM_ne (neF e hF)]; exact h2, h3⟩, fun P x e => by
    by_cases hb : P = p
    · subst hb
      obtain ⟨_, o', h2, h3⟩ := w.mem P _ (w.tb P x e)
      rw [h] at h2
      cases h2
      cases h3
      cases k
      exact hc.elim
    · rw [setM_ne hb]; exact w.tb P x e⟩
/-- a new cell -/
theorem Wd.newM (w : Wd K Fr H0 M H) (h : H p = none) (k : CellOk K H0 o c) (hc : noTab c := by trivial) : Wd K Fr H0 (setM M p c) (upd H p o) :=
  (w.tmp h).adoptM (w.fresh h) (w.freshF h) upd_same k hc
/-- a cell is changed -/
theorem Wd.set {c' : Cell} (w : Wd K Fr H0 M H) (h : M a = some c') (k : CellOk K H0 o c) (hc : noTab c' := by trivial) : Wd K Fr H0 (setM M a c) (upd H a o) := by
  refine ⟨fun b u e => ?_, fun b c2 e => ?_, fun b u e => ?_, fun P x e => ?_⟩
  · rw [upd_ne (ne_of_none e (w.mem a c' h).1)]; exact w.ex b u e
  · by_cases hb : b = a
    · subst hb; rw [setM_same] at e; cases e; exact ⟨(w.mem b c' h).1, o, upd_same, k⟩
    · rw [setM_ne hb] at e
      obtain ⟨h1, o', h2, h3⟩ := w.mem b c2 e
      exact ⟨h1, o', by rw [upd_ne hb]; exact h2, h3⟩
  · obtain ⟨h1, h2, h3⟩ := w.fr b u e
    have hb : b ≠ a := fun z => by rw [z, h] at h2; cases h2
    exact ⟨h1, by rw [setM_ne hb]; exact h2, by rw [upd_ne hb]; exact h3⟩
  · have hb : P ≠ a := fun z => by
      rw [← z, w.tb P x e] at h
      cases h
      exact hc
    rw [setM_ne hb]; exact w.tb P x e
/-- what is told of no more goes into the frame: it comes back as it is -/
theorem Wd.frame (w : Wd K Fr H0 M H) (h0 : H0 p = none) (hM : M p = none) (h : H p = some o) : Wd K (upd Fr p o) H0 M H :=
  ⟨w.ex, w.mem, fun b u e => by
    by_cases hb : b = p
    · subst hb; rw [upd_same] at e; cases e; exact ⟨h0, hM, h⟩
    · rw [upd_ne hb] at e; exact w.fr b u e, w.tb⟩
theorem Wd.unframe (w : Wd K (upd Fr p o) H0 M H) (hF : Fr p = none) : Wd K Fr H0 M H ∧ H0 p = none ∧ M p = none ∧ H p = some o :=
  ⟨⟨w.ex, w.mem, fun b u e => w.fr b u (by rw [upd_ne (neF e hF)]; exact e), w.tb⟩, w.fr p o upd_same⟩
end

/-! ### slots -/
abbrev Env := List (Option D)
structure Slots (K : PySem.W.Frag) (H : Hp) (σ : St) (Γ : Env) : Prop where
  len : σ.length = Γ.length
  get : ∀ (i : Nat) (d : D), Γ[i]? = some (some d) → ∃ v, σ[i]? = some (some v) ∧ Dat K H v d
theorem Slots.mono {K : PySem.W.Frag} {H H' : Hp} {σ : St} {Γ : Env} (e : Same H H') (h : Slots K H σ Γ) : Slots K H' σ Γ :=
  ⟨h.len, fun i d q => let ⟨v, h1, h2⟩ := h.get i d q; ⟨v, h1, h2.mono e⟩⟩
theorem Slots.set {K : PySem.W.Frag} {H : Hp} {σ : St} {Γ : Env} (h : Slots K H σ Γ) (i : Nat) {v : V} {d : D} (r : Dat K H v d) : Slots K H (σ.set i (some v)) (Γ.set i (some d)) := by
  refine ⟨by simp [h.len], fun j e q => ?_⟩
  by_cases hj : i = j
  · subst hj
    by_cases hl : i < Γ.length
    · rw [List.getElem?_set_self hl] at q; cases q
      exact ⟨v, List.getElem?_set_self (by rw [h.len]; exact hl), r⟩
    · rw [List.getElem?_eq_none (by simpa using hl)] at q; cases q
  · rw [List.getElem?_set_ne hj] at q ⊢; exact h.get j e q
def wipeD (Γ : Env) : List Nat → Env
  | [] => Γ
  | v :: vs => (wipeD Γ vs).set v none
theorem Slots.none {K : PySem.W.Frag} {H : Hp} {σ : St} {Γ : Env} (h : Slots K H σ Γ) (i : Nat) : Slots K H (σ.set i none) (Γ.set i none) := by
  refine ⟨by simp [h.len], fun j e q => ?_⟩
  by_cases hj : i = j
  · subst hj
    by_cases hl : i < Γ.length
    · rw [List.getElem?_set_self hl] at q; cases q
    · rw [List.getElem?_eq_none (by simpa using hl)] at q; cases q
  · rw [List.getElem?_set_ne hj] at q ⊢; exact h.get j e q
theorem Slots.wipe {K : PySem.W.Frag} {H : Hp} {σ : St} {Γ : Env} (h : Slots K H σ Γ) : ∀ vs : List Nat, Slots K H (wipe σ vs) (wipeD Γ vs)
  | [] => h
  | v :: vs => (Slots.wipe h vs).none v
theorem wipe_get (σ : St) : ∀ (vs : List Nat) (i : Nat), (wipe σ vs)[i]? = if i ∈ vs then (σ[i]?).map (fun _ => none) else σ[i]?
  | [], i => by simp [wipe]
  | v :: vs, i => by
    unfold wipe
    by_cases hi : v = i
    · subst hi
      by_cases hl : v < σ.length
      · rw [List.getElem?_set_self (by rw [wipe_length]; exact hl)]; simp [hl]
      · rw [List.getElem?_eq_none (by rw [List.length_set, wipe_length]; omega)]; simp [hl]
    · rw [List.getElem?_set_ne hi, wipe_get σ vs i]
      have : (i ∈ v :: vs) ↔ i ∈ vs := by simp [Ne.symm hi]
      by_cases h2 : i ∈ vs <;> simp [h2, Ne.symm hi]
theorem wipe_eq {σ σ' : St} {vs : List Nat} (hl : σ'.length = σ.length) (h : ∀ i, i ∉ vs → σ'[i]? = σ[i]?) : wipe σ' vs = wipe σ vs := by
  refine List.ext_getElem? fun i => ?_
  rw [wipe_get, wipe_get]
  by_cases hi : i ∈ vs
  · simp only [hi, if_true]
    by_cases hlt : i < σ.length
    · rw [List.getElem?_eq_getElem hlt, List.getElem?_eq_getElem (by omega : i < σ'.length)]; rfl
    · rw [List.getElem?_eq_none (by omega : σ.length ≤ i), List.getElem?_eq_none (by omega : σ'.length ≤ i)]
  · simp only [hi, if_false]; exact h i hi
theorem wipe_wipe (σ : St) (vs : List Nat) : wipe (wipe σ vs) vs = wipe σ vs :=
  wipe_eq (wipe_length σ vs) fun i hi => by rw [wipe_get]; simp [hi]

/-! ### the judgements -/
abbrev KD := D → Mem → Prop
abbrev WE := Env → Mem → KD → Prop
abbrev WT := Env → Mem → (Bool → Mem → Prop) → Prop
abbrev WA := Env → Mem → (List D → Mem → Prop) → Prop
structure KS where
  nx : Env → Mem → Prop
  rt : KD
  bk : Env → Mem → Prop
  ct : Env → Mem → Prop
abbrev WS := KS → Env → Mem → Prop

def Cont (K : PySem.W.Frag) (Fr H0 : Hp) (k : KD) (Q : VK) : Prop := ∀ v H0' H' d M', Same H0 H0' → Wd K Fr H0' M' H' → Dat K H0' v d → k d M' → Q v H'
def ContT (K : PySem.W.Frag) (Fr H0 : Hp) (k : Bool → Mem → Prop) (Q : Bool → Hp → Prop) : Prop := ∀ b H0' H' M', Same H0 H0' → Wd K Fr H0' M' H' → k b M' → Q b H'
def ContA (K : PySem.W.Frag) (Fr H0 : Hp) (k : List D → Mem → Prop) (Q : List V → Hp → Prop) : Prop := ∀ vs H0' H' ds M', Same H0 H0' → Wd K Fr H0' M' H' → Dats K H0' vs ds → k ds M' → Q vs H'
def ContS (K : PySem.W.Frag) (Fr H0 : Hp) (k : Env → Mem → Prop) (Q : St → Hp → Prop) : Prop := ∀ σ' H0' H' Γ' M', Same H0 H0' → Slots K H0' σ' Γ' → Wd K Fr H0' M' H' → k Γ' M' → Q σ' H'
structure Emb (K : PySem.W.Frag) (Fr H0 : Hp) (k : KS) (D : Ends) : Prop where
  nx : ContS K Fr H0 k.nx D.nx
  rt : Cont K Fr H0 k.rt D.rt
  bk : ContS K Fr H0 k.bk D.bk
  ct : ContS K Fr H0 k.ct D.ct
section
variable {K : PySem.W.Frag} {Fr H0 H1 : Hp}
theorem Cont.mono {k : KD} {Q : VK} (e : Same H0 H1) (c : Cont K Fr H0 k Q) : Cont K Fr H1 k Q := fun v H0' H' d M' s => c v H0' H' d M' (e.trans s)
theorem ContT.mono {k : Bool → Mem → Prop} {Q : Bool → Hp → Prop} (e : Same H0 H1) (c : ContT K Fr H0 k Q) : ContT K Fr H1 k Q := fun v H0' H' M' s => c v H0' H' M' (e.trans s)
theorem ContA.mono {k : List D → Mem → Prop} {Q : List V → Hp → Prop} (e : Same H0 H1) (c : ContA K Fr H0 k Q) : ContA K Fr H1 k Q := fun v H0' H' d M' s => c v H0' H' d M' (e.trans s)
theorem ContS.mono {k : Env → Mem → Prop} {Q : St → Hp → Prop} (e : Same H0 H1) (c : ContS K Fr H0 k Q) : ContS K Fr H1 k Q := fun v H0' H' d M' s => c v H0' H' d M' (e.trans s)
theorem Emb.mono {k : KS} {D : Ends} (e : Same H0 H1) (c : Emb K Fr H0 k D) : Emb K Fr H1 k D := ⟨c.nx.mono e, c.rt.mono e, c.bk.mono e, c.ct.mono e⟩
end
def liftE (K : PySem.W.Frag) (w : WE) : TE := fun σ H Q => ∃ Γ Fr H0 M k, Slots K H0 σ Γ ∧ Wd K Fr H0 M H ∧ w Γ M k ∧ Cont K Fr H0 k Q
def liftT (K : PySem.W.Frag) (w : WT) : TT := fun σ H Q => ∃ Γ Fr H0 M k, Slots K H0 σ Γ ∧ Wd K Fr H0 M H ∧ w Γ M k ∧ ContT K Fr H0 k Q
def liftA (K : PySem.W.Frag) (w : WA) : TA := fun σ H Q => ∃ Γ Fr H0 M k, Slots K H0 σ Γ ∧ Wd K Fr H0 M H ∧ w Γ M k ∧ ContA K Fr H0 k Q
def liftS (K : PySem.W.Frag) (w : WS) : TS := fun D σ H => ∃ Γ Fr H0 M k, Slots K H0 σ Γ ∧ Wd K Fr H0 M H ∧ w k Γ M ∧ Emb K Fr H0 k D
structure DE (X : Cx) (e : Expr) (w : WE) : Prop where
  run : PE X e (liftE X.K w)
structure DT (X : Cx) (e : Expr) (w : WT) : Prop where
  run : PT X e (liftT X.K w)
structure DW (X : Cx) (e : Expr) (w : WT) : Prop where
  run : PW X e (liftT X.K w)
structure DA (X : Cx) (es : List Expr) (w : WA) : Prop where
  run : PA X es (liftA X.K w)
structure DS (X : Cx) (st : Stmt) (w : WS) : Prop where
  run : PS X st (liftS X.K w)
structure DSs (X : Cx) (st : List Stmt) (w : WS) : Prop where
  run : PSs X st (liftS X.K w)
section
variable {X : Cx} {e a b : Expr} {es : List Expr} {st : Stmt} {sts : List Stmt}
theorem de_of {t : TE} {w : WE} (h : PE X e t) (q : ∀ σ H Q Γ Fr H0 M k, Slots X.K H0 σ Γ → Wd X.K Fr H0 M H → w Γ M k → Cont X.K Fr H0 k Q → t σ H Q) : DE X e w :=
  ⟨⟨fun pins s σ H Q I ⟨Γ, Fr, H0, M, k, h1, h2, h3, h4⟩ => h.run pins s σ H Q I (q σ H Q Γ Fr H0 M k h1 h2 h3 h4)⟩⟩
theorem dt_of {t : TT} {w : WT} (h : PT X e t) (q : ∀ σ H Q Γ Fr H0 M k, Slots X.K H0 σ Γ → Wd X.K Fr H0 M H → w Γ M k → ContT X.K Fr H0 k Q → t σ H Q) : DT X e w :=
  ⟨⟨fun pins s σ H Q I ⟨Γ, Fr, H0, M, k, h1, h2, h3, h4⟩ => h.run pins s σ H Q I (q σ H Q Γ Fr H0 M k h1 h2 h3 h4)⟩⟩
theorem dw_of {t : TT} {w : WT} (h : PW X e t) (q : ∀ σ H Q Γ Fr H0 M k, Slots X.K H0 σ Γ → Wd X.K Fr H0 M H → w Γ M k → ContT X.K Fr H0 k Q → t σ H Q) : DW X e w :=
  ⟨⟨fun wh pins s σ H Q I ⟨Γ, Fr, H0, M, k, h1, h2, h3, h4⟩ => h.run wh pins s σ H Q I (q σ H Q Γ Fr H0 M k h1 h2 h3 h4)⟩⟩
theorem da_of {t : TA} {w : WA} (h : PA X es t) (q : ∀ σ H Q Γ Fr H0 M k, Slots X.K H0 σ Γ → Wd X.K Fr H0 M H → w Γ M k → ContA X.K Fr H0 k Q → t σ H Q) : DA X es w :=
  ⟨⟨fun po pins s σ H Q I ⟨Γ, Fr, H0, M, k, h1, h2, h3, h4⟩ => h.run po pins s σ H Q I (q σ H Q Γ Fr H0 M k h1 h2 h3 h4)⟩⟩
theorem ds_of {t : TS} {w : WS} (h : PS X st t) (q : ∀ D σ H Γ Fr H0 M k, Slots X.K H0 σ Γ → Wd X.K Fr H0 M H → w k Γ M → Emb X.K Fr H0 k D → t D σ H) : DS X st w :=
  ⟨⟨fun pins s σ H D I ⟨Γ, Fr, H0, M, k, h1, h2, h3, h4⟩ => h.run pins s σ H D I (q D σ H Γ Fr H0 M k h1 h2 h3 h4)⟩⟩
theorem dss_of {t : TS} {w : WS} (h : PSs X sts t) (q : ∀ D σ H Γ Fr H0 M k, Slots X.K H0 σ Γ → Wd X.K Fr H0 M H → w k Γ M → Emb X.K Fr H0 k D → t D σ H) : DSs X sts w :=
  ⟨⟨fun pins s σ H D I ⟨Γ, Fr, H0, M, k, h1, h2, h3, h4⟩ => h.run pins s σ H D I (q D σ H Γ Fr H0 M k h1 h2 h3 h4)⟩⟩

/-! ### names, constants -/
def wVar (i : Nat) : WE := fun Γ M k => match Γ[i]? with | some (some d) => k d M | _ => False
def wC (d : D) : WE := fun _ M k => k d M
theorem dv (i : Nat) {x : Str} {pos : Pos} (hN : X.N[i]? = some x := by rfl) (hv : Vis X.env.scope x := by first | exact Or.inl rfl | exact Or.inr (Or.inl rfl) | exact Or.inr (Or.inr rfl)) (hd : (x == ("__debug__" : Str)) = false := by decide)
    (hcd : (x == ("__classdict__" : Str)) = false := by decide) : DE X (.Name x pos) (wVar i) := by
  refine de_of (pe_var hN hv hd hcd) fun σ H Q Γ Fr H0 M k h1 h2 h3 h4 => ?_
  unfold wVar at h3
  split at h3
  · rename_i d e
    obtain ⟨v, e1, r⟩ := h1.get i d e
    exact ⟨v, e1, h4 v H0 H d M (Same.refl _) h2 r h3⟩
  · exact h3.elim
theorem de_c {v : V} {d : D} (h : PE X e (tC v)) (r : ∀ H, Dat X.K H v d) : DE X e (wC d) :=
  de_of h fun _ H Q Γ Fr H0 M k _ h2 h3 h4 => h4 v H0 H d M (Same.refl _) h2 (r H0) h3
theorem de_int {i j pos} : DE X (.Constant (.int i) j pos) (wC (.int i)) := de_c pe_int fun _ => .int i
theorem de_bl {b j pos} : DE X (.Constant (.bool b) j pos) (wC (.bl b)) := de_c pe_bl fun _ => .bl b
theorem de_non {j pos} : DE X (.Constant .none j pos) (wC .non) := de_c pe_non fun _ => .non
theorem de_str {x j pos} : DE X (.Constant (.str x) j pos) (wC (.str x)) := de_c pe_str fun _ => .str x
/-- a module's int -/
theorem de_gint {x : Str} {i : Int} {t : Tok} {pos : Pos} (hm : X.mg x = some (.int i t)) (hg : Gl X x := by rfl) (hd : (x == ("__debug__" : Str)) = false := by decide) : DE X (.Name x pos) (wC (.int i)) :=
  de_c (v := .int i) (pe_glob hg hm ⟨t, rfl⟩ hd) fun _ => .int i
theorem de_ty {x : Str} {n : String} {pos : Pos} (hm : X.mg x = none) (hv : bootBuiltins x = some (.type n)) (hg : Gl X x := by rfl) (hn : x ≠ "__name__" := by decide) (hd : (x == ("__debug__" : Str)) = false := by decide) : DE X (.Name x pos) (wC (.ty n)) :=
  de_c (v := .ty n) (pe_bltn hg hm hv rfl hn hd) fun _ => .ty n

/-! ### two operands -/
def OpD (K : PySem.W.Frag) (r : R2) (rd : D → D → Mem → KD → Prop) : Prop :=
  ∀ Fr H0 M H x y vx vy k Q, Wd K Fr H0 M H → Dat K H0 vx x → Dat K H0 vy y → rd x y M k → Cont K Fr H0 k Q → r vx vy H Q
def wOp (rd : D → D → Mem → KD → Prop) (wa wb : WE) : WE := fun Γ M k => wa Γ M fun x M1 => wb Γ M1 fun y M2 => rd x y M2 k
theorem lift_op {K : PySem.W.Frag} {r : R2} {rd : D → D → Mem → KD → Prop} {wa wb : WE} (h : OpD K r rd) {σ H Q Γ Fr H0 M k} (h1 : Slots K H0 σ Γ) (h2 : Wd K Fr H0 M H) (h3 : wOp rd wa wb Γ M k) (h4 : Cont K Fr H0 k Q) :
    tOp r (liftE K wa) (liftE K wb) σ H Q := by
  refine ⟨Γ, Fr, H0, M, _, h1, h2, h3, fun v H1 H' d M' e1 w1 r1 q1 => ?_⟩
  refine ⟨Γ, Fr, H1, M', _, h1.mono e1, w1, q1, fun u H2 H'' d' M'' e2 w2 r2 q2 => ?_⟩
  exact h Fr H2 M'' H'' d d' v u k Q w2 (r1.mono e2) r2 q2 (h4.mono (e1.trans e2))
theorem de_op {op : Operator} {r : R2} {rd : D → D → Mem → KD → Prop} {wa wb : WE} {pos : Pos} (ho : OpR X (binaryOp op) r) (hd : OpD X.K r rd) (ha : DE X a wa) (hb : DE X b wb) : DE X (.BinOp a op b pos) (wOp rd wa wb) :=
  de_of (pe_op ho ha.run hb.run) fun _ _ _ _ _ _ _ _ h1 h2 h3 h4 => lift_op hd h1 h2 h3 h4
theorem de_cmp {op : CmpOp} {r : R2} {rd : D → D → Mem → KD → Prop} {wa wb : WE} {pos : Pos} (ho : OpR X (compareOp op) r) (hd : OpD X.K r rd) (ha : DE X a wa) (hb : DE X b wb) (hm : behindInMarks op b = false) : DE X (.Compare a [op] [b] pos) (wOp rd wa wb) :=
  de_of (pe_cmpR ho ha.run hb.run hm) fun _ _ _ _ _ _ _ _ h1 h2 h3 h4 => lift_op hd h1 h2 h3 h4
/-- a value as a test: it is a truth -/
def wTst (w : WE) : WT := fun Γ M k => w Γ M fun d M1 => match d with | .bl b => k b M1 | _ => False
theorem contTst {K : PySem.W.Frag} {Fr H0 : Hp} {k : Bool → Mem → Prop} {Q : Bool → Hp → Prop} (h4 : ContT K Fr H0 k Q) : Cont K Fr H0 (fun d M1 => match d with | .bl b => k b M1 | _ => False) (fun x H' => ∃ b, x = .bl b ∧ Q b H') := by
  intro v H0' H' d M' e w r q
  cases d with
  | bl b => cases r; exact ⟨b, rfl, h4 b H0' H' M' e w q⟩
  | _ => exact q.elim
theorem dt_val {w : WE} (h : DE X e w) (he : ∀ whole, isTrue e X.env whole = (do let v ← whole; standAt e.pos; holding [v] (truthy v)) := by intro _; rfl) : DT X e (wTst w) :=
  dt_of (pt_val h.run he) fun σ H Q Γ Fr H0 M k h1 h2 h3 h4 => ⟨Γ, Fr, H0, M, _, h1, h2, h3, contTst h4⟩
theorem dt_cmp {op : CmpOp} {r : R2} {rd : D → D → Mem → KD → Prop} {wa wb : WE} {pos : Pos} (ho : OpR X (compareOp op) r) (hd : OpD X.K r rd) (ha : DE X a wa) (hb : DE X b wb) (hm : behindInMarks op b = false) : DT X (.Compare a [op] [b] pos) (wTst (wOp rd wa wb)) :=
  dt_of (pt_cmpR ho ha.run hb.run hm) fun _ _ _ _ _ _ _ _ h1 h2 h3 h4 => lift_op hd h1 h2 h3 (contTst h4)
def wChain (rd rd' : D → D → Mem → KD → Prop) (wa wb wc : WE) : WE := fun Γ M k => wa Γ M fun x M1 => wb Γ M1 fun y M2 => rd x y M2 fun z M3 => match z with
  | .bl true => wc Γ M3 fun w M4 => rd' y w M4 k
  | .bl false => k (.bl false) M3
  | _ => False
theorem lift_chain {K : PySem.W.Frag} {r r' : R2} {rd rd' : D → D → Mem → KD → Prop} {wa wb wc : WE} (h : OpD K r rd) (h' : OpD K r' rd') {σ H Q Γ Fr H0 M k} (h1 : Slots K H0 σ Γ) (h2 : Wd K Fr H0 M H) (h3 : wChain rd rd' wa wb wc Γ M k) (h4 : Cont K Fr H0 k Q) :
    tChain r r' (liftE K wa) (liftE K wb) (liftE K wc) σ H Q := by
  refine ⟨Γ, Fr, H0, M, _, h1, h2, h3, fun v H1 H' d M' e1 w1 r1 q1 => ?_⟩
  refine ⟨Γ, Fr, H1, M', _, h1.mono e1, w1, q1, fun u H2 H'' d' M'' e2 w2 r2 q2 => ?_⟩
  refine h Fr H2 M'' H'' d d' v u _ _ w2 (r1.mono e2) r2 q2 fun z H3 H3' dz M3 e3 w3 rz qz => ?_
  cases dz with
  | bl b =>
    cases rz
    refine ⟨b, rfl, ?_⟩
    cases b with
    | true =>
      rw [if_pos rfl]
      refine ⟨Γ, Fr, H3, M3, _, h1.mono ((e1.trans e2).trans e3), w3, qz, fun x H4 H4' dx M4 e4 w4 rx qx => ?_⟩
      exact h' Fr H4 M4 H4' d' dx u x k Q w4 (r2.mono (e3.trans e4)) rx qx (h4.mono (((e1.trans e2).trans e3).trans e4))
    | false =>
      rw [if_neg Bool.false_ne_true]
      exact h4 _ H3 H3' _ M3 ((e1.trans e2).trans e3) w3 (.bl false) qz
  | _ => exact qz.elim
theorem de_chain {c : Expr} {op op' : CmpOp} {r r' : R2} {rd rd' : D → D → Mem → KD → Prop} {wa wb wc : WE} {pos : Pos} (ho : OpR X (compareOp op) r) (hd : OpD X.K r rd) (ho' : OpR X (compareOp op') r') (hd' : OpD X.K r' rd') (ha : DE X a wa) (hb : DE X b wb) (hc : DE X c wc)
    (hm : lastMarks [op, op'] [b, c] = false := by with_unfolding_all rfl) : DE X (.Compare a [op, op'] [b, c] pos) (wChain rd rd' wa wb wc) :=
  de_of (pe_chain ho ho' ha.run hb.run hc.run hm) fun _ _ _ _ _ _ _ _ h1 h2 h3 h4 => lift_chain hd hd' h1 h2 h3 h4
theorem dt_chain {c : Expr} {op op' : CmpOp} {r r' : R2} {rd rd' : D → D → Mem → KD → Prop} {wa wb wc : WE} {pos : Pos} (ho : OpR X (compareOp op) r) (hd : OpD X.K r rd) (ho' : OpR X (compareOp op') r') (hd' : OpD X.K r' rd') (ha : DE X a wa) (hb : DE X b wb) (hc : DE X c wc)
    (hm : lastMarks [op, op'] [b, c] = false := by with_unfolding_all rfl) : DT X (.Compare a [op, op'] [b, c] pos) (wTst (wChain rd rd' wa wb wc)) :=
  dt_of (pt_chain ho ho' ha.run hb.run hc.run hm) fun _ _ _ _ _ _ _ _ h1 h2 h3 h4 => lift_chain hd hd' h1 h2 h3 (contTst h4)
def wNotT (w : WT) : WT := fun Γ M k => w Γ M fun b M1 => k (!b) M1
def wAndT (wa wb : WT) : WT := fun Γ M k => wa Γ M fun b M1 => if b = true then wb Γ M1 k else k false M1
def wOrT (wa wb : WT) : WT := fun Γ M k => wa Γ M fun b M1 => if b = true then k true M1 else wb Γ M1 k
theorem dt_not {w : WT} {pos : Pos} (h : DT X a w) : DT X (.UnaryOp .Not a pos) (wNotT w) :=
  dt_of (pt_not h.run) fun σ H Q Γ Fr H0 M k h1 h2 h3 h4 => ⟨Γ, Fr, H0, M, _, h1, h2, h3, fun b H0' H' M' e w q => h4 _ H0' H' M' e w q⟩
theorem dw_pt {w : WT} (h : DW X e w) : DT X e w := ⟨h.run.pt⟩
theorem dw_and1 {w : WT} {pos : Pos} (h : DT X a w) : DW X (.BoolOp .And [a] pos) w := ⟨pw_and1 h.run⟩
theorem dw_or1 {w : WT} {pos : Pos} (h : DT X a w) : DW X (.BoolOp .Or [a] pos) w := ⟨pw_or1 h.run⟩
theorem dw_and {wa wb : WT} {rest : List Expr} {pos : Pos} (ha : DT X a wa) (hb : DW X (.BoolOp .And (b :: rest) pos) wb) : DW X (.BoolOp .And (a :: b :: rest) pos) (wAndT wa wb) :=
  dw_of (pw_and ha.run hb.run) fun σ H Q Γ Fr H0 M k h1 h2 h3 h4 => ⟨Γ, Fr, H0, M, _, h1, h2, h3, fun c H0' H' M' e w q => by
    cases c with
    | true => rw [if_pos rfl] at q ⊢; exact ⟨Γ, Fr, H0', M', k, h1.mono e, w, q, h4.mono e⟩
    | false => rw [if_neg Bool.false_ne_true] at q ⊢; exact h4 _ H0' H' M' e w q⟩
theorem dw_or {wa wb : WT} {rest : List Expr} {pos : Pos} (ha : DT X a wa) (hb : DW X (.BoolOp .Or (b :: rest) pos) wb) : DW X (.BoolOp .Or (a :: b :: rest) pos) (wOrT wa wb) :=
  dw_of (pw_or ha.run hb.run) fun σ H Q Γ Fr H0 M k h1 h2 h3 h4 => ⟨Γ, Fr, H0, M, _, h1, h2, h3, fun c H0' H' M' e w q => by
    cases c with
    | true => rw [if_pos rfl] at q ⊢; exact h4 _ H0' H' M' e w q
    | false => rw [if_neg Bool.false_ne_true] at q ⊢; exact ⟨Γ, Fr, H0', M', k, h1.mono e, w, q, h4.mono e⟩⟩
/-- and, or, not of truths as values -/
def wAndV (wa wb : WE) : WE := fun Γ M k => wa Γ M fun x M1 => match x with | .bl true => wb Γ M1 k | .bl false => k (.bl false) M1 | _ => False
def wOrV (wa wb : WE) : WE := fun Γ M k => wa Γ M fun x M1 => match x with | .bl true => k (.bl true) M1 | .bl false => wb Γ M1 k | _ => False
def wNotV (wa : WE) : WE := fun Γ M k => wa Γ M fun x M1 => match x with | .bl b => k (.bl (!b)) M1 | _ => False
theorem de_one {op} {w : WE} {pos : Pos} (h : DE X a w) : DE X (.BoolOp op [a] pos) w := ⟨pe_one h.run⟩
theorem de_and {wa wb : WE} {rest : List Expr} {pos : Pos} (ha : DE X a wa) (hb : DE X (.BoolOp .And (b :: rest) pos) wb) : DE X (.BoolOp .And (a :: b :: rest) pos) (wAndV wa wb) :=
  de_of (pe_and ha.run hb.run) fun σ H Q Γ Fr H0 M k h1 h2 h3 h4 => ⟨Γ, Fr, H0, M, _, h1, h2, h3, fun v H0' H' d M' e w r q => by
    cases d with
    | bl c =>
      cases r
      refine ⟨c, rfl, ?_⟩
      cases c with
      | true => rw [if_pos rfl]; exact ⟨Γ, Fr, H0', M', k, h1.mono e, w, q, h4.mono e⟩
      | false => rw [if_neg Bool.false_ne_true]; exact h4 _ H0' H' _ M' e w (.bl false) q
    | _ => exact q.elim⟩
theorem de_or {wa wb : WE} {rest : List Expr} {pos : Pos} (ha : DE X a wa) (hb : DE X (.BoolOp .Or (b :: rest) pos) wb) : DE X (.BoolOp .Or (a :: b :: rest) pos) (wOrV wa wb) :=
  de_of (pe_or ha.run hb.run) fun σ H Q Γ Fr H0 M k h1 h2 h3 h4 => ⟨Γ, Fr, H0, M, _, h1, h2, h3, fun v H0' H' d M' e w r q => by
    cases d with
    | bl c =>
      cases r
      refine ⟨c, rfl, ?_⟩
      cases c with
      | true => rw [if_pos rfl]; exact h4 _ H0' H' _ M' e w (.bl true) q
      | false => rw [if_neg Bool.false_ne_true]; exact ⟨Γ, Fr, H0', M', k, h1.mono e, w, q, h4.mono e⟩
    | _ => exact q.elim⟩
theorem de_not {w : WE} {pos : Pos} (h : DE X a w) : DE X (.UnaryOp .Not a pos) (wNotV w) :=
  de_of (pe_not h.run) fun σ H Q Γ Fr H0 M k h1 h2 h3 h4 => ⟨Γ, Fr, H0, M, _, h1, h2, h3, fun v H0' H' d M' e w r q => by
    cases d with
    | bl c => cases r; exact ⟨c, rfl, h4 _ H0' H' _ M' e w (.bl _) q⟩
    | _ => exact q.elim⟩
def wIf (wc : WT) (wa wb : WE) : WE := fun Γ M k => wc Γ M fun c M1 => if c = true then wa Γ M1 k else wb Γ M1 k
theorem de_if {c : Expr} {wc : WT} {wa wb : WE} {pos : Pos} (hc : DT X c wc) (ha : DE X a wa) (hb : DE X b wb) : DE X (.IfExp c a b pos) (wIf wc wa wb) :=
  de_of (pe_ifExp hc.run ha.run hb.run) fun σ H Q Γ Fr H0 M k h1 h2 h3 h4 => ⟨Γ, Fr, H0, M, _, h1, h2, h3, fun c H0' H' M' e w q => by
    cases c with
    | true => rw [if_pos rfl] at q ⊢; exact ⟨Γ, Fr, H0', M', k, h1.mono e, w, q, h4.mono e⟩
    | false => rw [if_neg Bool.false_ne_true] at q ⊢; exact ⟨Γ, Fr, H0', M', k, h1.mono e, w, q, h4.mono e⟩⟩

/-! ### arguments, displays, calls -/
def wNil : WA := fun _ M k => k [] M
def wCons (we : WE) (wr : WA) : WA := fun Γ M k => we Γ M fun d M1 => wr Γ M1 fun ds M2 => k (d :: ds) M2
theorem da_nil : DA X [] wNil := da_of pa_nil fun _ H Q Γ Fr H0 M k h1 h2 h3 h4 => h4 [] H0 H [] M (Same.refl _) h2 .nil h3
theorem da_cons {we : WE} {wr : WA} (he : DE X e we) (hr : DA X es wr) (hs : starEach (e :: es) X.env = (false, eval e X.env) :: starEach es X.env := by rfl) : DA X (e :: es) (wCons we wr) :=
  da_of (pa_cons he.run hr.run hs) fun σ H Q Γ Fr H0 M k h1 h2 h3 h4 => ⟨Γ, Fr, H0, M, _, h1, h2, h3, fun v H1 H' d M' e1 w1 r1 q1 =>
    ⟨Γ, Fr, H1, M', _, h1.mono e1, w1, q1, fun vs H2 H'' ds M'' e2 w2 r2 q2 => h4 _ H2 H'' _ M'' (e1.trans e2) w2 (.cons (r1.mono e2) r2) q2⟩⟩
def wTup (wa : WA) : WE := fun Γ M k => wa Γ M fun ds M1 => ds.length ≤ sizeLine ∧ k (.tup ds) M1
theorem de_tup {wa : WA} {x1} {pos : Pos} (h : DA X es wa) : DE X (.Tuple es x1 pos) (wTup wa) :=
  de_of (pe_tup h.run) fun σ H Q Γ Fr H0 M k h1 h2 h3 h4 => ⟨Γ, Fr, H0, M, _, h1, h2, h3, fun vs H1 H' ds M' e1 w1 r1 q1 =>
    ⟨by rw [r1.length]; exact q1.1, fun p hp => h4 _ _ _ _ M' (e1.trans (same_new (w1.fresh hp))) (w1.new hp) (.tup (.of upd_same) (r1.mono (same_new (w1.fresh hp)))) q1.2⟩⟩
/-- a list: persistent -/
def wLst (wa : WA) : WE := fun Γ M k => wa Γ M fun ds M1 => ds.length ≤ sizeLine ∧ k (.lst ds) M1
theorem de_lst {wa : WA} {pos : Pos} (h : DA X es wa) : DE X (.List es pos) (wLst wa) :=
  de_of (pe_lst h.run) fun σ H Q Γ Fr H0 M k h1 h2 h3 h4 => ⟨Γ, Fr, H0, M, _, h1, h2, h3, fun vs H1 H' ds M' e1 w1 r1 q1 =>
    ⟨by rw [r1.length]; exact q1.1, fun p hp => h4 _ _ _ _ M' (e1.trans (same_new (w1.fresh hp))) (w1.new hp) (.lst upd_same (r1.mono (same_new (w1.fresh hp)))) q1.2⟩⟩
/-- a list: a cell -/
def wLstM (wa : WA) : WE := fun Γ M k => wa Γ M fun ds M1 => ds.length ≤ sizeLine ∧ ∀ p, M1 p = none → k (.cel p) (setM M1 p (.lst ds))
theorem de_lstM {wa : WA} {pos : Pos} (h : DA X es wa) : DE X (.List es pos) (wLstM wa) :=
  de_of (pe_lst h.run) fun σ H Q Γ Fr H0 M k h1 h2 h3 h4 => ⟨Γ, Fr, H0, M, _, h1, h2, h3, fun vs H1 H' ds M' e1 w1 r1 q1 =>
    ⟨by rw [r1.length]; exact q1.1, fun p hp => h4 _ H1 _ _ _ e1 (w1.newM hp (.lst r1)) (.cel p) (q1.2 p (w1.freshM hp))⟩⟩

abbrev FD := List D → Mem → KD → Prop
def liftF (K : PySem.W.Frag) (F : FD) : Sp := fun vs H Q _ => ∃ Fr H0 M ds k, Wd K Fr H0 M H ∧ Dats K H0 vs ds ∧ F ds M k ∧ Cont K Fr H0 k Q
def wCall (F : FD) (wa : WA) : WE := fun Γ M k => wa Γ M fun ds M1 => F ds M1 k
abbrev DFn (P : Program) (w : World) (K : PySem.W.Frag) (mg : Str → Option Value) (base : Heap) (k : Nat) (f : Addr) (fd : FuncData) (ps : List Str) (F : FD) : Prop := DG.FnG P w K mg base CX0 k f fd ps (liftF K F)
theorem de_call {F : FD} {f : Addr} {fd : FuncData} {ps : List Str} {x : Str} {k : Nat} {p pos : Pos} {wa : WA} (G : DFn X.prog X.w X.K X.mg X.base k f fd ps F) (hr : DG.RoomG k X.A) (hm : X.mg x = some (.ref f)) (hk : PySem.W.keepIn X.K (.ref f) = true) (hb : Binds X.K fd ps [])
    (ha : DA X (e :: es) wa) (hg : Gl X x := by rfl) (hdb : (x == ("__debug__" : Str)) = false := by decide) (he : starEach (e :: es) X.env = (false, eval e X.env) :: starEach es X.env := by rfl) (hpl : (backTo pos (starEach es X.env)).any (·.1) = false := by rfl) : DE X (.Call (.Name x p) (e :: es) [] pos) (wCall F wa) :=
  de_of (DG.pe_callG G hr hg hm hk hb pass0 ha.run hdb he hpl) fun σ H Q Γ Fr H0 M k h1 h2 h3 h4 => ⟨Γ, Fr, H0, M, _, h1, h2, h3, fun vs H1 H' ds M' e1 w1 r1 q1 =>
    ⟨Fr, H1, M', ds, k, w1, by rw [List.append_nil]; exact r1, q1, h4.mono e1⟩⟩
/-- a built-in, by values -/
def CallD (K : PySem.W.Frag) (r : List V → Hp → VK → Prop) (rd : FD) : Prop := ∀ Fr H0 M H vs ds k Q, Wd K Fr H0 M H → Dats K H0 vs ds → rd ds M k → Cont K Fr H0 k Q → r vs H Q
theorem de_callB {r : List V → Hp → VK → Prop} {rd : FD} {id : String} {x : Str} {p pos : Pos} {wa : WA} (hc : CallR X (.builtin id) r) (hd : CallD X.K r rd) (hm : X.mg x = none) (hv : bootBuiltins x = some (.builtin id)) (ha : DA X (e :: es) wa) (hg : Gl X x := by rfl) (hn : x ≠ "__name__" := by decide) (hdb : (x == ("__debug__" : Str)) = false := by decide)
    (he : starEach (e :: es) X.env = (false, eval e X.env) :: starEach es X.env := by rfl) (hpl : (backTo pos (starEach es X.env)).any (·.1) = false := by rfl) : DE X (.Call (.Name x p) (e :: es) [] pos) (wCall rd wa) :=
  de_of (pe_callB hc hg hm hv ha.run hn hdb he hpl) fun σ H Q Γ Fr H0 M k h1 h2 h3 h4 => ⟨Γ, Fr, H0, M, _, h1, h2, h3, fun vs H1 H' ds M' e1 w1 r1 q1 => hd Fr H1 M' H' vs ds k Q w1 r1 q1 (h4.mono e1)⟩
theorem de_callTy {r : List V → Hp → VK → Prop} {rd : FD} {T : String} {x : Str} {p pos : Pos} {wa : WA} (hc : CallR X (.type T) r) (hd : CallD X.K r rd) (hm : X.mg x = none) (hv : bootBuiltins x = some (.type T)) (ha : DA X (e :: es) wa) (hg : Gl X x := by rfl) (hn : x ≠ "__name__" := by decide) (hdb : (x == ("__debug__" : Str)) = false := by decide)
    (he : starEach (e :: es) X.env = (false, eval e X.env) :: starEach es X.env := by rfl) (hpl : (backTo pos (starEach es X.env)).any (·.1) = false := by rfl) : DE X (.Call (.Name x p) (e :: es) [] pos) (wCall rd wa) :=
  de_of (pe_callTy hc hg hm hv ha.run hn hdb he hpl) fun σ H Q Γ Fr H0 M k h1 h2 h3 h4 => ⟨Γ, Fr, H0, M, _, h1, h2, h3, fun vs H1 H' ds M' e1 w1 r1 q1 => hd Fr H1 M' H' vs ds k Q w1 r1 q1 (h4.mono e1)⟩
end
end DL

set_option autoImplicit false
set_option maxRecDepth 100000
set_option maxHeartbeats 2000000
namespace DL
open PySem L2
section
variable {X : Cx} {e a b : Expr} {es : List Expr} {st : Stmt} {sts : List Stmt}

theorem dats1 {K : PySem.W.Frag} {H : Hp} {vs : List V} {d : D} (h : Dats K H vs [d]) : ∃ v, vs = [v] ∧ Dat K H v d := by
  cases h with | cons a t => cases t; exact ⟨_, rfl, a⟩
theorem dats2 {K : PySem.W.Frag} {H : Hp} {vs : List V} {d e : D} (h : Dats K H vs [d, e]) : ∃ v u, vs = [v, u] ∧ Dat K H v d ∧ Dat K H u e := by
  cases h with | cons a t => obtain ⟨u, rfl, b⟩ := dats1 t; exact ⟨_, _, rfl, a, b⟩
theorem dats3 {K : PySem.W.Frag} {H : Hp} {vs : List V} {d e f : D} (h : Dats K H vs [d, e, f]) : ∃ v u t, vs = [v, u, t] ∧ Dat K H v d ∧ Dat K H u e ∧ Dat K H t f := by
  cases h with | cons a t => obtain ⟨u, t, rfl, b, c⟩ := dats2 t; exact ⟨_, _, _, rfl, a, b, c⟩
theorem dats0 {K : PySem.W.Frag} {H : Hp} {vs : List V} (h : Dats K H vs []) : vs = [] := by cases h; rfl

/-! ### statements -/
def wNext : WS := fun k Γ M => k.nx Γ M
def wSeq (u v : WS) : WS := fun k Γ M => u ⟨v k, k.rt, k.bk, k.ct⟩ Γ M
theorem dss_nil : DSs X [] wNext := dss_of pss_nil fun _ σ H Γ Fr H0 M k h1 h2 h3 h4 => h4.nx σ H0 H Γ M (Same.refl _) h1 h2 h3
theorem emb_seq {K : PySem.W.Frag} {Fr H0 : Hp} {k : KS} {D : Ends} {v : WS} (h4 : Emb K Fr H0 k D) : Emb K Fr H0 ⟨v k, k.rt, k.bk, k.ct⟩ { D with nx := liftS K v D } :=
  ⟨fun σ' H0' H' Γ' M' e s w q => ⟨Γ', Fr, H0', M', k, s, w, q, h4.mono e⟩, h4.rt, h4.bk, h4.ct⟩
theorem dss_cons {u v : WS} (h1 : DS X st u) (h2 : DSs X sts v) : DSs X (st :: sts) (wSeq u v) :=
  dss_of (pss_cons h1.run h2.run) fun D σ H Γ Fr H0 M k h1 h2 h3 h4 => ⟨Γ, Fr, H0, M, _, h1, h2, h3, emb_seq h4⟩
theorem dss_one {u : WS} (h1 : DS X st u) : DSs X [st] u := ⟨pss_one h1.run⟩
theorem ds_pass {pos : Pos} : DS X (.Pass pos) wNext := ds_of ps_pass fun _ σ H Γ Fr H0 M k h1 h2 h3 h4 => h4.nx σ H0 H Γ M (Same.refl _) h1 h2 h3
def wBreak : WS := fun k Γ M => k.bk Γ M
def wContinue : WS := fun k Γ M => k.ct Γ M
theorem ds_break {pos : Pos} : DS X (.Break pos) wBreak := ds_of ps_break fun _ σ H Γ Fr H0 M k h1 h2 h3 h4 => h4.bk σ H0 H Γ M (Same.refl _) h1 h2 h3
theorem ds_continue {pos : Pos} : DS X (.Continue pos) wContinue := ds_of ps_continue fun _ σ H Γ Fr H0 M k h1 h2 h3 h4 => h4.ct σ H0 H Γ M (Same.refl _) h1 h2 h3
def wExpr (w : WE) : WS := fun k Γ M => w Γ M fun _ M1 => k.nx Γ M1
theorem ds_expr {w : WE} {pos : Pos} (he : DE X e w) (hs : swapsWith e none pos.line X.env = pure false := by rfl) : DS X (.Expr e pos) (wExpr w) :=
  ds_of (ps_expr he.run hs) fun D σ H Γ Fr H0 M k h1 h2 h3 h4 => ⟨Γ, Fr, H0, M, _, h1, h2, h3, fun v H1 H' d M' e1 w1 r1 q1 => h4.nx σ H1 H' Γ M' e1 (h1.mono e1) w1 q1⟩
def wRet (w : WE) : WS := fun k Γ M => w Γ M k.rt
theorem ds_ret {w : WE} {pos : Pos} (he : DE X e w) : DS X (.Return (some e) pos) (wRet w) :=
  ds_of (ps_ret he.run) fun D σ H Γ Fr H0 M k h1 h2 h3 h4 => ⟨Γ, Fr, H0, M, _, h1, h2, h3, h4.rt⟩
def wRetN : WS := fun k _ M => k.rt .non M
theorem ds_retN {pos : Pos} : DS X (.Return none pos) wRetN := ds_of ps_retN fun _ σ H Γ Fr H0 M k h1 h2 h3 h4 => h4.rt _ H0 H _ M (Same.refl _) h2 .non h3
def wIfS (wc : WT) (u v : WS) : WS := fun k Γ M => wc Γ M fun c M1 => if c = true then u k Γ M1 else v k Γ M1
theorem ds_if {c : Expr} {p q : List Stmt} {wc : WT} {u v : WS} {pos : Pos} (hc : DT X c wc) (ha : DSs X p u) (hb : DSs X q v) : DS X (.If c p q pos) (wIfS wc u v) :=
  ds_of (ps_if hc.run ha.run hb.run) fun D σ H Γ Fr H0 M k h1 h2 h3 h4 => ⟨Γ, Fr, H0, M, _, h1, h2, h3, fun c H0' H' M' e w q => by
    cases c with
    | true => rw [if_pos rfl] at q ⊢; exact ⟨Γ, Fr, H0', M', k, h1.mono e, w, q, h4.mono e⟩
    | false => rw [if_neg Bool.false_ne_true] at q ⊢; exact ⟨Γ, Fr, H0', M', k, h1.mono e, w, q, h4.mono e⟩⟩

/-! ### targets -/
/-- what a target does to the slots: within own -/
def GD (K : PySem.W.Frag) (g : TG) (own : List Nat) (gd : D → Env → Option Env) : Prop :=
  ∀ Fr H0 M H σ Γ Γ' v d Q, Slots K H0 σ Γ → Wd K Fr H0 M H → Dat K H0 v d → gd d Γ = some Γ' → (∀ σ', Slots K H0 σ' Γ' → (∀ i, i ∉ own → σ'[i]? = σ[i]?) → σ'.length = σ.length → Q σ' H) → g v σ H Q
def GDs (K : PySem.W.Frag) (g : TGs) (own : List Nat) (gd : List D → Env → Option Env) : Prop :=
  ∀ Fr H0 M H σ Γ Γ' vs ds Q, Slots K H0 σ Γ → Wd K Fr H0 M H → Dats K H0 vs ds → gd ds Γ = some Γ' → (∀ σ', Slots K H0 σ' Γ' → (∀ i, i ∉ own → σ'[i]? = σ[i]?) → σ'.length = σ.length → Q σ' H) → g vs σ H Q
structure DG (X : Cx) (tg : Expr) (g : TG) (own : List Nat) (gd : D → Env → Option Env) : Prop where
  pg : PG X tg g
  gd : GD X.K g own gd
structure DGs (X : Cx) (tg : List Expr) (g : TGs) (own : List Nat) (gd : List D → Env → Option Env) : Prop where
  pg : PGs X tg g
  gd : GDs X.K g own gd
def gN (i : Nat) : D → Env → Option Env := fun d Γ => some (Γ.set i (some d))
theorem gd_name {K : PySem.W.Frag} {i : Nat} : GD K (gName i) [i] (gN i) := fun Fr H0 M H σ Γ Γ' v d Q h1 h2 h3 h4 h5 => by
    cases h4
    refine h5 _ (h1.set i h3) (fun j hj => ?_) (by simp)
    exact List.getElem?_set_ne (fun e => hj (by simp [e]))
theorem dg_name {i : Nat} {x : Str} {pos : Pos} (hN : X.N.Nodup) (hi : X.N[i]? = some x := by rfl) (hx : Loc X.env.scope x := by first | exact Or.inl rfl | exact Or.inr rfl) (hf : X.fn x = true ∨ X.env.scope.names.lookup x = some .local := by first | exact .inl rfl | exact .inr rfl | assumption) : DG X (.Name x pos) (gName i) [i] (gN i) :=
  ⟨pg_name hN hi hx hf, gd_name⟩
def gsNil : List D → Env → Option Env := fun ds Γ => match ds with | [] => some Γ | _ => none
def gsCons (g : D → Env → Option Env) (gs : List D → Env → Option Env) : List D → Env → Option Env := fun ds Γ => match ds with | d :: ds => (match g d Γ with | some Γ' => gs ds Γ' | none => none) | [] => none
theorem gds_nil {K : PySem.W.Frag} : GDs K gNil [] gsNil := fun Fr H0 M H σ Γ Γ' vs ds Q h1 h2 h3 h4 h5 => by
  cases h3 with
  | nil => cases h4; exact ⟨rfl, h5 σ h1 (fun _ _ => rfl) rfl⟩
  | cons _ _ => cases h4
theorem gds_cons {K : PySem.W.Frag} {g : TG} {gs : TGs} {o1 o2 : List Nat} {gd : D → Env → Option Env} {gds : List D → Env → Option Env} (h1 : GD K g o1 gd) (h2 : GDs K gs o2 gds) : GDs K (gCons g gs) (o1 ++ o2) (gsCons gd gds) := fun Fr H0 M H σ Γ Γ' vs ds Q s w r e q => by
    cases r with
    | nil => cases e
    | cons r rs =>
      rename_i v vs d ds
      unfold gsCons at e
      simp only at e
      split at e
      · rename_i Γ1 e1
        refine ⟨v, vs, rfl, h1 Fr H0 M H σ Γ Γ1 v d _ s w r e1 fun σ1 s1 k1 l1 => ?_⟩
        refine h2 Fr H0 M H σ1 Γ1 Γ' vs ds _ s1 w rs e fun σ2 s2 k2 l2 => ?_
        refine q σ2 s2 (fun i hi => ?_) (l2.trans l1)
        rw [k2 i (fun z => hi (List.mem_append_right _ z)), k1 i (fun z => hi (List.mem_append_left _ z))]
      · cases e
theorem dgs_nil : DGs X [] gNil [] gsNil := ⟨pgs_nil, gds_nil⟩
theorem dgs_cons {t : Expr} {ts : List Expr} {g : TG} {gs : TGs} {o1 o2 : List Nat} {gd : D → Env → Option Env} {gds : List D → Env → Option Env} (h1 : DG X t g o1 gd) (h2 : DGs X ts gs o2 gds) (hs : (assignEach (t :: ts) X.env).map (·.2) = assign t X.env :: (assignEach ts X.env).map (·.2) := by rfl) : DGs X (t :: ts) (gCons g gs) (o1 ++ o2) (gsCons gd gds) :=
  ⟨pgs_cons h1.pg h2.pg hs, gds_cons h1.gd h2.gd⟩
def gT (gs : List D → Env → Option Env) : D → Env → Option Env := fun d Γ => match d with | .tup ds => gs ds Γ | _ => none
theorem gd_tup {K : PySem.W.Frag} {n : Nat} {gs : TGs} {own : List Nat} {gds : List D → Env → Option Env} (h : GDs K gs own gds) (hn : ∀ ds Γ Γ', gds ds Γ = some Γ' → ds.length = n) : GD K (gTup K n gs) own (gT gds) := fun Fr H0 M H σ Γ Γ' v d Q s w r e q => by
    cases r with
    | tup hs hd =>
      rename_i a vs ds
      exact ⟨a, vs, rfl, same_t w.ex hs, by rw [hd.length]; exact hn ds Γ Γ' e, h Fr H0 M H σ Γ Γ' vs ds Q s w hd e q⟩
    | _ => cases e
theorem dg_tup {ts : List Expr} {k n : Nat} {gs : TGs} {own : List Nat} {gds : List D → Env → Option Env} {pos : Pos} (hc : X.calm = true) (h : DGs X ts gs own gds) (hn : ∀ ds Γ Γ', gds ds Γ = some Γ' → ds.length = n) (hl : (assignEach ts X.env).length = n := by rfl) (hst : (assignEach ts X.env).findIdx? (·.1) = none := by rfl) :
    DG X (.Tuple ts k pos) (gTup X.K n gs) own (gT gds) := ⟨pg_tup hc h.pg hl hst, gd_tup h.gd hn⟩
theorem gsNil_len : ∀ ds Γ Γ', gsNil ds Γ = some Γ' → ds.length = 0 := fun ds Γ Γ' h => by
  cases ds with
  | nil => rfl
  | cons _ _ => cases h
theorem gsCons_len {g : D → Env → Option Env} {gs : List D → Env → Option Env} {n : Nat} (hn : ∀ ds Γ Γ', gs ds Γ = some Γ' → ds.length = n) : ∀ ds Γ Γ', gsCons g gs ds Γ = some Γ' → ds.length = n + 1 := fun ds Γ Γ' h => by
  cases ds with
  | nil => cases h
  | cons d ds =>
    unfold gsCons at h
    simp only at h
    split at h
    · rw [List.length_cons, hn _ _ _ h]
    · cases h

/-! ### assignments -/
def wSet (i : Nat) (w : WE) : WS := fun k Γ M => w Γ M fun d M1 => k.nx (Γ.set i (some d)) M1
theorem ds_set {i : Nat} {x : Str} {w : WE} {p pos : Pos} (hN : X.N.Nodup) (he : DE X e w) (hi : X.N[i]? = some x := by rfl) (hx : Loc X.env.scope x := by first | exact Or.inl rfl | exact Or.inr rfl) (hs : swapsWith e (some (.Name x p)) pos.line X.env = pure false := by rfl)
    (hf : X.fn x = true ∨ X.env.scope.names.lookup x = some .local := by first | exact .inl rfl | exact .inr rfl | assumption) : DS X (.Assign [.Name x p] e pos) (wSet i w) :=
  ds_of (ps_set hN hi hx he.run hs hf) fun D σ H Γ Fr H0 M k h1 h2 h3 h4 => ⟨Γ, Fr, H0, M, _, h1, h2, h3, fun v H1 H' d M' e1 w1 r1 q1 => h4.nx _ H1 H' _ M' e1 ((h1.mono e1).set i r1) w1 q1⟩
/-- a target of any form that stores into names -/
def wAsg (gd : D → Env → Option Env) (w : WE) : WS := fun k Γ M => w Γ M fun d M1 => match gd d Γ with | some Γ' => k.nx Γ' M1 | none => False
theorem ds_asg {tg : Expr} {g : TG} {own : List Nat} {gd : D → Env → Option Env} {w : WE} {pos : Pos} (hg : DG X tg g own gd) (he : DE X e w) (hs : swapsWithSole [tg] e pos.line X.env = pure false := by rfl) (hw : swappedStores [tg] e X.env = pure none := by rfl) (h1 : (assignEach [tg] X.env).map (·.2) = [assign tg X.env] := by rfl) : DS X (.Assign [tg] e pos) (wAsg gd w) :=
  ds_of (ps_asg he.run hg.pg hs hw h1) fun D σ H Γ Fr H0 M k h1 h2 h3 h4 => ⟨Γ, Fr, H0, M, _, h1, h2, h3, fun v H1 H' d M' e1 w1 r1 q1 => by
    split at q1
    · rename_i Γ' e2
      exact hg.gd Fr H1 M' H' σ Γ Γ' v d _ (h1.mono e1) w1 r1 e2 fun σ' s' _ _ => h4.nx σ' H1 H' Γ' M' e1 s' w1 q1
    · exact q1.elim⟩
def wPar (i j : Nat) (wa : WA) : WS := fun k Γ M => wa Γ M fun ds M1 => match ds with | [x, y] => k.nx ((Γ.set i (some x)).set j (some y)) M1 | _ => False
def wPar3 (i j l : Nat) (wa : WA) : WS := fun k Γ M => wa Γ M fun ds M1 => match ds with | [x, y, z] => k.nx (((Γ.set i (some x)).set j (some y)).set l (some z)) M1 | _ => False
theorem ds_par {i j : Nat} {x y : Str} {wa : WA} {px py pt pos : Pos} {kt k2 pt2} (hc : X.calm = true) (hN : X.N.Nodup) (ha : DA X [a, b] wa) (hi : X.N[i]? = some x) (hj : X.N[j]? = some y) (hij : i ≠ j)
    (hx : X.env.scope.names.lookup x = some .local) (hy : X.env.scope.names.lookup y = some .local)
    (hw : swappedStores [.Tuple [.Name x px, .Name y py] kt pt] (.Tuple [a, b] k2 pt2) X.env = pure (some [x, y]))
    (hs : swapsWithSole [.Tuple [.Name x px, .Name y py] kt pt] (.Tuple [a, b] k2 pt2) pos.line X.env = pure false := by rfl) :
    DS X (.Assign [.Tuple [.Name x px, .Name y py] kt pt] (.Tuple [a, b] k2 pt2) pos) (wPar i j wa) :=
  ds_of (ps_par hc hN hi hj hij hx hy ha.run hw hs) fun D σ H Γ Fr H0 M k h1 h2 h3 h4 => ⟨Γ, Fr, H0, M, _, h1, h2, h3, fun vs H1 H' ds M' e1 w1 r1 q1 => by
    split at q1
    · obtain ⟨v, u, rfl, ra, rb⟩ := dats2 r1
      exact ⟨v, u, rfl, h4.nx _ H1 H' _ M' e1 (((h1.mono e1).set i ra).set j rb) w1 q1⟩
    · exact q1.elim⟩
theorem ds_par3 {i j l : Nat} {x y z : Str} {c : Expr} {wa : WA} {px py pz pt pos : Pos} {kt k2 pt2} (hc : X.calm = true) (hN : X.N.Nodup) (ha : DA X [a, b, c] wa) (hi : X.N[i]? = some x) (hj : X.N[j]? = some y) (hl : X.N[l]? = some z) (hij : i ≠ j) (hil : i ≠ l) (hjl : j ≠ l)
    (hx : X.env.scope.names.lookup x = some .local) (hy : X.env.scope.names.lookup y = some .local) (hz : X.env.scope.names.lookup z = some .local)
    (hw : swappedStores [.Tuple [.Name x px, .Name y py, .Name z pz] kt pt] (.Tuple [a, b, c] k2 pt2) X.env = pure (some [x, y, z]))
    (hs : swapsWithSole [.Tuple [.Name x px, .Name y py, .Name z pz] kt pt] (.Tuple [a, b, c] k2 pt2) pos.line X.env = pure false := by rfl) :
    DS X (.Assign [.Tuple [.Name x px, .Name y py, .Name z pz] kt pt] (.Tuple [a, b, c] k2 pt2) pos) (wPar3 i j l wa) :=
  ds_of (ps_par3 hc hN hi hj hl hij hil hjl hx hy hz ha.run hw hs) fun D σ H Γ Fr H0 M k h1 h2 h3 h4 => ⟨Γ, Fr, H0, M, _, h1, h2, h3, fun vs H1 H' ds M' e1 w1 r1 q1 => by
    split at q1
    · obtain ⟨v, u, t, rfl, ra, rb, rc⟩ := dats3 r1
      exact ⟨v, u, t, rfl, h4.nx _ H1 H' _ M' e1 ((((h1.mono e1).set i ra).set j rb).set l rc) w1 q1⟩
    · exact q1.elim⟩

/-! ### lists as they stand -/
/-- a list that is tracked -/
def asL (M : Mem) : D → Option (List D)
  | .lst ds => some ds
  | .cel a => match M a with | some (.lst ds) => some ds | _ => none
  | _ => none
/-- a list that may be read -/
def asR (M : Mem) : D → Option (List D)
  | .lst ds => some ds
  | .scr ds => some ds
  | .cel a => match M a with | some (.lst ds) => some ds | _ => none
  | _ => none
theorem asL_ok {K : PySem.W.Frag} {Fr H0 H : Hp} {M : Mem} {v : V} {d : D} {ds : List D} (w : Wd K Fr H0 M H) (r : Dat K H0 v d) (h : asL M d = some ds) : ∃ a vs, v = .ref a ∧ H a = some (.lst vs) ∧ Dats K H0 vs ds := by
  cases r with
  | lst hs hd => cases h; exact ⟨_, _, rfl, w.ex _ _ hs, hd⟩
  | cel a =>
    unfold asL at h
    simp only at h
    split at h
    · rename_i ds' e
      cases h
      obtain ⟨_, o, e2, c⟩ := w.mem a _ e
      cases c with
      | lst hd => exact ⟨a, _, rfl, e2, hd⟩
    · cases h
  | _ => cases h
theorem asR_ok {K : PySem.W.Frag} {Fr H0 H : Hp} {M : Mem} {v : V} {d : D} {ds : List D} (w : Wd K Fr H0 M H) (r : Dat K H0 v d) (h : asR M d = some ds) : ∃ a vs, v = .ref a ∧ SqL K H a vs ∧ Dats K H0 vs ds := by
  cases r with
  | lst hs hd => cases h; exact ⟨_, _, rfl, .of (w.ex _ _ hs), hd⟩
  | scr hs hd => cases h; exact ⟨_, _, rfl, same_l w.ex hs, hd⟩
  | cel a =>
    obtain ⟨a', vs, e1, e2, e3⟩ := asL_ok w (.cel a) (show asL M (.cel a) = some ds from h)
    exact ⟨a', vs, e1, .of e2, e3⟩
  | _ => cases h

/-! ### what is walked -/
abbrev WI := Env → Mem → (List D → (Mem → Prop) → Mem → Prop) → Prop
def WalkD (K : PySem.W.Frag) (Fr : Hp) (J : It) (H0 : Hp) (its : List D) (G : Mem → Prop) : Prop :=
  ∀ H0' M H, Same H0 H0' → Wd K Fr H0' M H → G M → (∀ i, i < its.length → J.go i H) ∧ J.stop its.length H ∧
    ∀ i x H' d, its[i]? = some d → J.yld i H x H' → ∃ H0'', Same H0' H0'' ∧ Wd K Fr H0'' M H' ∧ Dat K H0'' x d
theorem WalkD.mono {K : PySem.W.Frag} {Fr Fr' : Hp} {J : It} {H0 H1 : Hp} {its : List D} {G : Mem → Prop} (h : WalkD K Fr J H0 its G) (e : Same H0 H1) : WalkD K Fr J H1 its G := fun H0' M H s => h H0' M H (e.trans s)
/-- over lists: any frame -/
def Walks (K : PySem.W.Frag) (J : It) (H0 : Hp) (its : List D) (G : Mem → Prop) : Prop := ∀ Fr, WalkD K Fr J H0 its G
structure DI (X : Cx) (tg iter : Expr) (wi : WI) : Prop where
  run : ∃ ti : TI, PI X tg iter ti ∧ ∀ σ H Γ Fr H0 M k R, Slots X.K H0 σ Γ → Wd X.K Fr H0 M H → wi Γ M k →
    (∀ J its G H1 H0' M', Same H0 H0' → Wd X.K Fr H0' M' H1 → k its G M' → Walks X.K J H0' its G → R J H1) → ti σ H R
def gAny : Mem → Prop := fun _ => True
def gAt (d : D) (ds : List D) : Mem → Prop := fun M => asR M d = some ds
/-- a list -/
def wiL (w : WE) : WI := fun Γ M k => w Γ M fun d M1 => match asR M1 d with | some ds => k ds (gAt d ds) M1 | none => False
theorem walks_list {K : PySem.W.Frag} {H0 : Hp} {a : Addr} {d : D} {ds : List D} (r : Dat K H0 (.ref a) d) : Walks K (Itl K a) H0 ds (gAt d ds) := fun Fr H0' M H e w g => by
  obtain ⟨a', vs, ea, hs, hd⟩ := asR_ok w (r.mono e) g
  cases ea
  refine ⟨fun i hi => ?_, ⟨vs, hs, by rw [hd.length]; exact Nat.le_refl _⟩, fun i x H' d' hd' y => ?_⟩
  · have hl : i < vs.length := by rw [hd.length]; exact hi
    exact ⟨vs, vs[i], hs, by simp [hl]⟩
  · obtain ⟨e1, y⟩ := y
    subst e1
    obtain ⟨v, e2, r2⟩ := hd.get hd'
    have e3 := y vs hs
    rw [e2] at e3; cases e3
    exact ⟨H0', Same.refl _, w, r2⟩
theorem di_list {tg l : Expr} {w : WE} (h : DE X l w) : DI X tg l (wiL w) := ⟨_, pi_list h.run, fun σ H Γ Fr H0 M k R h1 h2 h3 h4 => ⟨Γ, Fr, H0, M, _, h1, h2, h3, fun v H1 H' d M' e1 w1 r1 q1 => by
  split at q1
  · rename_i ds e2
    obtain ⟨a, vs, rfl, hs, hd⟩ := asR_ok w1 r1 e2
    exact ⟨a, rfl, ⟨vs, hs⟩, h4 _ ds _ H' H1 M' e1 w1 q1 (walks_list r1)⟩
  · exact q1.elim⟩⟩
/-- a tuple -/
def wiT (w : WE) : WI := fun Γ M k => w Γ M fun d M1 => match d with | .tup ds => k ds gAny M1 | _ => False
theorem walks_tup {K : PySem.W.Frag} {H0 : Hp} {a : Addr} {vs : List V} {ds : List D} (hs : SqT K H0 a vs) (hd : Dats K H0 vs ds) : Walks K (Itt K a) H0 ds gAny := fun Fr H0' M H e w g => by
  have hs' := same_t (e.trans w.ex) hs
  refine ⟨fun i hi => ?_, ⟨vs, hs', by rw [hd.length]; exact Nat.le_refl _⟩, fun i x H' d' hd' y => ?_⟩
  · have hl : i < vs.length := by rw [hd.length]; exact hi
    exact ⟨vs, vs[i], hs', by simp [hl]⟩
  · obtain ⟨e1, y⟩ := y
    subst e1
    obtain ⟨v, e2, r2⟩ := hd.get hd'
    have e3 := y vs hs'
    rw [e2] at e3; cases e3
    exact ⟨H0', Same.refl _, w, r2.mono e⟩
theorem di_tup {tg l : Expr} {w : WE} (h : DE X l w) : DI X tg l (wiT w) := ⟨_, pi_tup h.run, fun σ H Γ Fr H0 M k R h1 h2 h3 h4 => ⟨Γ, Fr, H0, M, _, h1, h2, h3, fun v H1 H' d M' e1 w1 r1 q1 => by
  cases r1 with
  | tup hs hd => exact ⟨_, rfl, ⟨_, same_t w1.ex hs⟩, h4 _ _ _ H' H1 M' e1 w1 q1 (walks_tup hs hd)⟩
  | _ => exact q1.elim⟩⟩
/-- a text -/
def signs (x : Str) : List D := x.cps.toList.map fun c => .str ⟨#[c]⟩
def wiS (w : WE) : WI := fun Γ M k => w Γ M fun d M1 => match d with | .str x => k (signs x) gAny M1 | _ => False
theorem walks_str {K : PySem.W.Frag} {H0 : Hp} {x : Str} : Walks K (Its x) H0 (signs x) gAny := fun Fr H0' M H e w g => by
  have hl : (signs x).length = x.cps.size := by unfold signs; simp
  refine ⟨fun i hi => ?_, ?_, fun i y H' d hd q => ?_⟩
  · show i < x.cps.size
    rw [← hl]; exact hi
  · show x.cps.size ≤ (signs x).length
    rw [hl]; exact Nat.le_refl _
  · obtain ⟨e1, c, e2, e3⟩ := q
    subst e1 e3
    unfold signs at hd
    rw [List.getElem?_map, Array.getElem?_toList, e2] at hd
    cases hd
    exact ⟨H0', Same.refl _, w, .str _⟩
theorem di_str {tg l : Expr} {w : WE} (h : DE X l w) : DI X tg l (wiS w) := ⟨_, pi_str h.run, fun σ H Γ Fr H0 M k R h1 h2 h3 h4 => ⟨Γ, Fr, H0, M, _, h1, h2, h3, fun v H1 H' d M' e1 w1 r1 q1 => by
  cases r1 with
  | str x => exact ⟨x, rfl, h4 _ _ _ H' H1 M' e1 w1 q1 walks_str⟩
  | _ => exact q1.elim⟩⟩
/-- range(n) -/
def rng (lo : Int) (n : Nat) : List D := (List.range n).map fun (i : Nat) => .int (lo + i)
def wiR (wa : WA) : WI := fun Γ M k => wa Γ M fun ds M1 => match ds with | [.int n] => (-(2 ^ 62) ≤ n ∧ n < 2 ^ 62) ∧ k (rng 0 n.toNat) gAny M1 | _ => False
theorem walks_rng {K : PySem.W.Frag} {H0 : Hp} {lo : Int} {n : Nat} : Walks K (Itr lo n) H0 (rng lo n) gAny := fun Fr H0' M H e w g => by
  have hl : (rng lo n).length = n := by unfold rng; simp
  refine ⟨fun i hi => ?_, ?_, fun i y H' d hd q => ?_⟩
  · show i < n
    rw [← hl]; exact hi
  · show n ≤ (rng lo n).length
    rw [hl]; exact Nat.le_refl _
  · obtain ⟨e1, e3⟩ := q
    subst e1 e3
    unfold rng at hd
    rw [List.getElem?_map] at hd
    have hi : i < n := by
      cases q : (List.range n)[i]? with
      | none => rw [q] at hd; cases hd
      | some z => exact by have := (List.getElem?_eq_some_iff.mp q).1; simpa using this
    rw [List.getElem?_range hi] at hd
    cases hd
    exact ⟨H0', Same.refl _, w, .int _⟩
theorem di_range {tg : Expr} {wa : WA} {p pos : Pos} (hm : X.mg "range" = none) (ha : DA X [a] wa) (hg : Gl X "range" := by rfl) (hs : starEach [a] X.env = [(false, eval a X.env)] := by rfl) : DI X tg (.Call (.Name "range" p) [a] [] pos) (wiR wa) :=
  ⟨_, pi_range1 hg hm ha.run hs, fun σ H Γ Fr H0 M k R h1 h2 h3 h4 => ⟨Γ, Fr, H0, M, _, h1, h2, h3, fun vs H1 H' ds M' e1 w1 r1 q1 => by
  split at q1
  · obtain ⟨v, rfl, r⟩ := dats1 r1
    cases r
    exact ⟨_, rfl, q1.1.1, q1.1.2, h4 _ _ _ H' H1 M' e1 w1 q1.2 walks_rng⟩
  · exact q1.elim⟩⟩

/-! ### for -/
def loopD (gd : D → Env → Option Env) (wb : WS) (G : Mem → Prop) : List D → KS → Env → Mem → Prop
  | [], k, Γ, M => G M ∧ k.nx Γ M
  | d :: ds, k, Γ, M => G M ∧ match gd d Γ with | some Γ' => wb ⟨loopD gd wb G ds k, k.rt, k.nx, loopD gd wb G ds k⟩ Γ' M | none => False
def wFor (wi : WI) (gd : D → Env → Option Env) (wb : WS) : WS := fun k Γ M => wi Γ M fun its G M1 => loopD gd wb G its k Γ M1
theorem drop_cons {α : Type} {l : List α} {i : Nat} (h : i < l.length) : l.drop i = l[i] :: l.drop (i + 1) := List.drop_eq_getElem_cons h
theorem ds_for {tg iter : Expr} {body : List Stmt} {wi : WI} {g : TG} {own : List Nat} {gd : D → Env → Option Env} {wb : WS} {pos : Pos} (hc : X.calm = true) (hi : DI X tg iter wi) (hg : DG X tg g own gd) (hb : DSs X body wb)
    (hp : PassesOwn (model X.prog X.w) X.A X.env X.xe := by exact PassesOwn.never) (hs : ∀ x, foldedSetIterable iter X.env x = pure x := by intro _; rfl) : DS X (.For tg iter body [] pos) (wFor wi gd wb) := by
  obtain ⟨ti, hpi, hti⟩ := hi.run
  refine ds_of (ps_for hp hc hpi hg.pg hb.run hs) fun D σ H Γ Fr H0 M k h1 h2 h3 h4 => ?_
  refine hti σ H Γ Fr H0 M _ _ h1 h2 h3 fun J its G H1 H0' M' e1 w1 q1 wk => ?_
  refine ⟨fun i m σ H => m = its.length - i ∧ i ≤ its.length ∧ ∃ Γ H2 M, Same H0' H2 ∧ Slots X.K H2 σ Γ ∧ Wd X.K Fr H2 M H ∧ loopD gd wb G (its.drop i) k Γ M, ⟨its.length, by simp, Nat.zero_le _, Γ, H0', M', Same.refl _, h1.mono e1, w1, q1⟩, ?_⟩
  rintro i m σ H ⟨rfl, hle, Γ, H2, M, e2, s2, w2, q2⟩
  by_cases hlt : i < its.length
  · right
    rw [drop_cons hlt] at q2
    obtain ⟨g2, q2⟩ := q2
    obtain ⟨k1, k2, k3⟩ := wk Fr H2 M H e2 w2 g2
    refine ⟨k1 i hlt, fun σ' H' => ∃ Γ H3 M, Same H0' H3 ∧ Slots X.K H3 σ' Γ ∧ Wd X.K Fr H3 M H' ∧ loopD gd wb G (its.drop (i + 1)) k Γ M, fun σ' H' z => ⟨its.length - (i + 1), by omega, rfl, hlt, z⟩, fun x H' y => ?_⟩
    obtain ⟨H3, e3, w3, r3⟩ := k3 i x H' its[i] (List.getElem?_eq_getElem hlt) y
    split at q2
    · rename_i Γ' eg
      refine hg.gd Fr H3 M H' σ Γ Γ' x its[i] _ (s2.mono e3) w3 r3 eg fun σ' s' _ _ => ?_
      refine ⟨Γ', Fr, H3, M, _, s', w3, q2, ⟨fun σ'' H4 H'' Γ'' M'' e4 s4 w4 q4 => ?_, ?_, ?_, fun σ'' H4 H'' Γ'' M'' e4 s4 w4 q4 => ?_⟩⟩
      · exact ⟨Γ'', H4, M'', (e2.trans e3).trans e4, s4, w4, q4⟩
      · exact (h4.mono ((e1.trans e2).trans e3)).rt
      · exact (h4.mono ((e1.trans e2).trans e3)).nx
      · exact ⟨Γ'', H4, M'', (e2.trans e3).trans e4, s4, w4, q4⟩
    · exact q2.elim
  · left
    have ei : i = its.length := by omega
    subst ei
    rw [List.drop_length] at q2
    obtain ⟨g2, q2⟩ := q2
    exact ⟨(wk Fr H2 M H e2 w2 g2).2.1, h4.nx σ H2 H Γ M (e1.trans e2) s2 w2 q2⟩
/-- by an invariant over what is left -/
theorem loop_inv {gd : D → Env → Option Env} {wb : WS} {G : Mem → Prop} {k : KS} (I : List D → Env → Mem → Prop) (hG : ∀ ds Γ M, I ds Γ M → G M) (h0 : ∀ Γ M, I [] Γ M → k.nx Γ M)
    (hs : ∀ d ds Γ M, I (d :: ds) Γ M → ∃ Γ', gd d Γ = some Γ' ∧ ∀ k' : KS, k'.rt = k.rt → k'.bk = k.nx → (∀ Γ M, I ds Γ M → k'.nx Γ M) → (∀ Γ M, I ds Γ M → k'.ct Γ M) → wb k' Γ' M) :
    ∀ its Γ M, I its Γ M → loopD gd wb G its k Γ M
  | [], Γ, M, h => ⟨hG _ _ _ h, h0 Γ M h⟩
  | d :: ds, Γ, M, h => by
    refine ⟨hG _ _ _ h, ?_⟩
    obtain ⟨Γ', e, q⟩ := hs d ds Γ M h
    rw [e]
    exact q _ rfl rfl (fun Γ M h => loop_inv I hG h0 hs ds Γ M h) (fun Γ M h => loop_inv I hG h0 hs ds Γ M h)

/-! ### while -/
def wWhile (wc : WT) (wb : WS) : WS := fun k Γ M => ∃ (I : Nat → Env → Mem → Prop), (∃ n, I n Γ M) ∧ ∀ n Γ M, I n Γ M →
  wc Γ M fun b M1 => if b = true then wb ⟨fun Γ' M' => ∃ n', n' < n ∧ I n' Γ' M', k.rt, k.nx, fun Γ' M' => ∃ n', n' < n ∧ I n' Γ' M'⟩ Γ M1 else k.nx Γ M1
theorem ds_while {c : Expr} {body : List Stmt} {wc : WT} {wb : WS} {pos : Pos} (hc : DT X c wc) (hb : DSs X body wb) (hp : PassesOwn (model X.prog X.w) X.A X.env X.xe := by exact PassesOwn.never) : DS X (.While c body [] pos) (wWhile wc wb) := by
  refine ds_of (ps_while hp hc.run hb.run) fun D σ H Γ Fr H0 M k h1 h2 h3 h4 => ?_
  obtain ⟨I, ⟨n, i0⟩, hI⟩ := h3
  refine ⟨fun m σ H => ∃ Γ H1 M, Same H0 H1 ∧ Slots X.K H1 σ Γ ∧ Wd X.K Fr H1 M H ∧ I m Γ M, ⟨n, Γ, H0, M, Same.refl _, h1, h2, i0⟩, ?_⟩
  rintro m σ H ⟨Γ, H1, M, e1, s1, w1, i1⟩
  refine ⟨Γ, Fr, H1, M, _, s1, w1, hI m Γ M i1, fun b H2 H' M' e2 w2 q2 => ?_⟩
  cases b with
  | true =>
    rw [if_pos rfl] at q2 ⊢
    refine ⟨fun σ' H'' => ∃ Γ H3 M, Same H0 H3 ∧ Slots X.K H3 σ' Γ ∧ Wd X.K Fr H3 M H'' ∧ ∃ n', n' < m ∧ I n' Γ M, fun σ' H'' ⟨Γ, H3, M, a1, a2, a3, n', a4, a5⟩ => ⟨n', a4, Γ, H3, M, a1, a2, a3, a5⟩, ?_⟩
    refine ⟨Γ, Fr, H2, M', _, s1.mono e2, w2, q2, ⟨fun σ'' H4 H'' Γ'' M'' e4 s4 w4 q4 => ⟨Γ'', H4, M'', (e1.trans e2).trans e4, s4, w4, q4⟩, (h4.mono (e1.trans e2)).rt, (h4.mono (e1.trans e2)).nx, fun σ'' H4 H'' Γ'' M'' e4 s4 w4 q4 => ⟨Γ'', H4, M'', (e1.trans e2).trans e4, s4, w4, q4⟩⟩⟩
  | false =>
    rw [if_neg Bool.false_ne_true] at q2 ⊢
    exact h4.nx σ H2 H' Γ M' (e1.trans e2) (s1.mono e2) w2 q2

/-! ### comprehensions -/
def lcD (gd : D → Env → Option Env) (wt : WT) (we : WE) (G : Mem → Prop) (Γ : Env) : List D → List D → Mem → (List D → Mem → Prop) → Prop
  | [], acc, M, k => G M ∧ k acc M
  | d :: ds, acc, M, k => G M ∧ match gd d Γ with
    | some Γ' => wt Γ' M fun b M1 => if b = true then we Γ' M1 fun y M2 => acc.length < sizeLine ∧ lcD gd wt we G Γ ds (acc ++ [y]) M2 k else lcD gd wt we G Γ ds acc M1 k
    | none => False
structure DTs (X : Cx) (ifs : List Expr) (w : WT) : Prop where
  run : PTs X ifs (liftT X.K w)
def wYes : WT := fun _ M k => k true M
theorem dts_nil : DTs X [] wYes := ⟨⟨fun pins s σ H Q I ⟨Γ, Fr, H0, M, k, h1, h2, h3, h4⟩ => pts_nil.run pins s σ H Q I (h4 true H0 H M (Same.refl _) h2 h3)⟩⟩
theorem dts_one {c : Expr} {w : WT} (h : DT X c w) : DTs X [c] w := ⟨pts_one h.run⟩
def wLc (wi : WI) (gd : D → Env → Option Env) (wt : WT) (we : WE) (vs : List Nat) : WE := fun Γ M k => wi Γ M fun its G M1 => lcD gd wt we G (wipeD Γ vs) its [] M1 fun ds M2 => k (.lst ds) M2
def wLcM (wi : WI) (gd : D → Env → Option Env) (wt : WT) (we : WE) (vs : List Nat) : WE := fun Γ M k => wi Γ M fun its G M1 => lcD gd wt we G (wipeD Γ vs) its [] M1 fun ds M2 => ∀ p, M2 p = none → k (.cel p) (setM M2 p (.lst ds))
/-- the heart of both: the list at L lies in the frame while an element is worked out -/
theorem lc_heart {K : PySem.W.Frag} {wi : WI} {ti : TI} {g : TG} {own : List Nat} {gd : D → Env → Option Env} {wt : WT} {we : WE} {vs : List Nat} {Qd : Addr → Hp → Prop} {kd : List D → Mem → Prop}
    (hg : GD K g own gd) (ho : ∀ i ∈ own, i ∈ vs) {σ : St} {H H0 Fr : Hp} {Γ : Env} {M : Mem} {J : It} {its : List D} {G : Mem → Prop} (s : Slots K H0 σ Γ) (w : Wd K Fr H0 M H) (wk : Walks K J H0 its G)
    (h : lcD gd wt we G (wipeD Γ vs) its [] M kd) {L : Addr} (hL : H L = none)
    (hk : ∀ H1 H' M' ds vs', Same H0 H1 → Wd K Fr H1 M' H' → H1 L = none → M' L = none → Fr L = none → H' L = some (.lst vs') → Dats K H1 vs' ds → kd ds M' → Qd L H') :
    ∃ W : Nat → Nat → Hp → Prop, (∃ m, W 0 m (upd H L (.lst []))) ∧ ∀ i m H, W i m H →
      (J.stop i H ∧ Qd L H) ∨ (J.go i H ∧ ∃ Nx : Hp → Prop, (∀ H', Nx H' → ∃ m', m' < m ∧ W (i + 1) m' H') ∧ ∀ x H', J.yld i H x H' → g x (wipe σ vs) H' fun σ2 H2 => wipe σ2 vs = wipe σ vs ∧ liftT K wt σ2 H2 fun b H3 =>
        if b = true then liftE K we σ2 H3 fun y H4 => ∃ acc, H4 L = some (.lst acc) ∧ acc.length < sizeLine ∧ Nx (upd H4 L (.lst (acc ++ [y]))) else Nx H3) := by
  have hF : Fr L = none := w.freshF hL
  refine ⟨fun i m H => m = its.length - i ∧ i ≤ its.length ∧ ∃ H1 M av acc, Same H0 H1 ∧ Wd K (upd Fr L (.lst av)) H1 M H ∧ Dats K H1 av acc ∧ lcD gd wt we G (wipeD Γ vs) (its.drop i) acc M kd,
    ⟨its.length, by simp, Nat.zero_le _, H0, M, [], [], Same.refl _, (w.tmp hL).frame (w.fresh hL) (w.freshM hL) upd_same, .nil, h⟩, ?_⟩
  rintro i m H ⟨rfl, hle, H1, M, av, acc, e1, w1, ra, q1⟩
  by_cases hlt : i < its.length
  · right
    rw [drop_cons hlt] at q1
    obtain ⟨g1, q1⟩ := q1
    obtain ⟨k1, k2, k3⟩ := wk _ H1 M H e1 w1 g1
    refine ⟨k1 i hlt, fun H' => ∃ H2 M av acc, Same H0 H2 ∧ Wd K (upd Fr L (.lst av)) H2 M H' ∧ Dats K H2 av acc ∧ lcD gd wt we G (wipeD Γ vs) (its.drop (i + 1)) acc M kd, fun H' z => ⟨its.length - (i + 1), by omega, rfl, hlt, z⟩, fun x H' y => ?_⟩
    obtain ⟨H2, e2, w2, r2⟩ := k3 i x H' its[i] (List.getElem?_eq_getElem hlt) y
    split at q1
    · rename_i Γ' eg
      refine hg _ H2 M H' _ _ Γ' x its[i] _ ((s.wipe vs).mono (e1.trans e2)) w2 r2 eg fun σ' s' hout hlen => ⟨?_, ?_⟩
      · rw [← wipe_wipe σ vs]
        refine wipe_eq hlen fun i hi => hout i fun z => hi (ho i z)
      · refine ⟨Γ', _, H2, M, _, s', w2, q1, fun b H3 H'' M3 e3 w3 q3 => ?_⟩
        cases b with
        | true =>
          rw [if_pos rfl] at q3 ⊢
          refine ⟨Γ', _, H3, M3, _, s'.mono e3, w3, q3, fun v H4 H4' d M4 e4 w4 r4 q4 => ?_⟩
          obtain ⟨w5, n1, n2, n3⟩ := w4.unframe hF
          have e04 := (e1.trans e2).trans (e3.trans e4)
          have ra4 := ra.mono (e2.trans (e3.trans e4))
          exact ⟨av, n3, by rw [ra4.length]; exact q4.1, H4, M4, av ++ [v], acc ++ [d], e04, (w5.tmpSet n1 n2 hF).frame n1 n2 upd_same, ra4.append (.one r4), q4.2⟩
        | false =>
          rw [if_neg Bool.false_ne_true] at q3 ⊢
          exact ⟨H3, M3, av, acc, (e1.trans e2).trans e3, w3, ra.mono (e2.trans e3), q3⟩
    · exact q1.elim
  · left
    have ei : i = its.length := by omega
    subst ei
    rw [List.drop_length] at q1
    obtain ⟨g1, q1⟩ := q1
    obtain ⟨w5, n1, n2, n3⟩ := w1.unframe hF
    exact ⟨(wk _ H1 M H e1 w1 g1).2.1, hk H1 H M acc av e1 w5 n1 n2 hF n3 ra q1⟩
theorem de_lcX {elt tg iter : Expr} {ifs : List Expr} {scope : Scope} {own : List (Str × Nat)} {pos : Pos} {wi : WI} {g : TG} {ow : List Nat} {gd : D → Env → Option Env} {wt : WT} {we : WE} {wx : WE} (hc : X.calm = true) (hN : X.N.Nodup) (hi : DI X tg iter wi) (ok : BlkOk X.N X.env.scope scope own)
    (hg : ∀ (s : Shared) (H : Hp) (C : Addr) (cl : List (Str × Addr)) (fp : List Addr), DG (X.blk s H scope (compEnvC scope cl C X.env) fp) tg g ow gd) (hgd : GD X.K g ow gd)
    (ht : ∀ (s : Shared) (H : Hp) (C : Addr) (cl : List (Str × Addr)) (fp : List Addr), DTs (X.blk s H scope (compEnvC scope cl C X.env) fp) ifs wt)
    (he : ∀ (s : Shared) (H : Hp) (C : Addr) (cl : List (Str × Addr)) (fp : List Addr), DE (X.blk s H scope (compEnvC scope cl C X.env) fp) elt we)
    (ho : ∀ i ∈ ow, i ∈ own.map (·.2)) (hs : ∀ x, foldedSetIterable iter X.env x = pure x)
    (hx : ∀ Γ M k, wx Γ M k → ∃ kd, wi Γ M (fun its G M1 => lcD gd wt we G (wipeD Γ (own.map (·.2))) its [] M1 kd) ∧ ∀ Fr H0 H M ds vs L Q, Cont X.K Fr H0 k Q → Wd X.K Fr H0 M H → H0 L = none → M L = none → Fr L = none → H L = some (.lst vs) → Dats X.K H0 vs ds → kd ds M → Q (.ref L) H) :
    DE X (.ListComp elt [⟨tg, iter, ifs, 0⟩] scope pos) wx := by
  obtain ⟨ti, hpi, hti⟩ := hi.run
  refine de_of (pe_lc (tt := liftT X.K wt) (te := liftE X.K we) hc hN hpi ok (fun s H C cl fp => (hg s H C cl fp).pg) (fun s H C cl fp => (ht s H C cl fp).run) (fun s H C cl fp => (he s H C cl fp).run) hs) fun σ H Q Γ Fr H0 M k h1 h2 h3 h4 => ?_
  obtain ⟨kd, h3, hk⟩ := hx Γ M k h3
  refine hti σ H Γ Fr H0 M _ _ h1 h2 h3 fun J its G H1 H0' M' e1 w1 q1 wk L hL => ?_
  exact lc_heart (Qd := fun L H => Q (.ref L) H) (ti := ti) (wi := wi) hgd ho (h1.mono e1) w1 wk q1 hL fun H2 H' M2 ds vs' e2 w2 n1 n2 n3 n4 rd qk => hk Fr H2 H' M2 ds vs' L Q (h4.mono (e1.trans e2)) w2 n1 n2 n3 n4 rd qk
theorem de_lc {elt tg iter : Expr} {ifs : List Expr} {scope : Scope} {own : List (Str × Nat)} {pos : Pos} {wi : WI} {g : TG} {ow : List Nat} {gd : D → Env → Option Env} {wt : WT} {we : WE} (hc : X.calm = true) (hN : X.N.Nodup) (hi : DI X tg iter wi) (ok : BlkOk X.N X.env.scope scope own)
    (hg : ∀ (s : Shared) (H : Hp) (C : Addr) (cl : List (Str × Addr)) (fp : List Addr), DG (X.blk s H scope (compEnvC scope cl C X.env) fp) tg g ow gd) (hgd : GD X.K g ow gd)
    (ht : ∀ (s : Shared) (H : Hp) (C : Addr) (cl : List (Str × Addr)) (fp : List Addr), DTs (X.blk s H scope (compEnvC scope cl C X.env) fp) ifs wt)
    (he : ∀ (s : Shared) (H : Hp) (C : Addr) (cl : List (Str × Addr)) (fp : List Addr), DE (X.blk s H scope (compEnvC scope cl C X.env) fp) elt we)
    (ho : ∀ i ∈ ow, i ∈ own.map (·.2) := by decide) (hs : ∀ x, foldedSetIterable iter X.env x = pure x := by intro _; rfl) : DE X (.ListComp elt [⟨tg, iter, ifs, 0⟩] scope pos) (wLc wi gd wt we (own.map (·.2))) :=
  de_lcX hc hN hi ok hg hgd ht he ho hs fun Γ M k h => ⟨_, h, fun Fr H0 H M ds vs L Q h4 w n1 n2 n3 n4 rd qk =>
    h4 _ (upd H0 L (.lst vs)) H _ M (same_new n1) (w.adopt n1 n2 n3 n4) (.lst upd_same (rd.mono (same_new n1))) qk⟩
theorem de_lcM {elt tg iter : Expr} {ifs : List Expr} {scope : Scope} {own : List (Str × Nat)} {pos : Pos} {wi : WI} {g : TG} {ow : List Nat} {gd : D → Env → Option Env} {wt : WT} {we : WE} (hc : X.calm = true) (hN : X.N.Nodup) (hi : DI X tg iter wi) (ok : BlkOk X.N X.env.scope scope own)
    (hg : ∀ (s : Shared) (H : Hp) (C : Addr) (cl : List (Str × Addr)) (fp : List Addr), DG (X.blk s H scope (compEnvC scope cl C X.env) fp) tg g ow gd) (hgd : GD X.K g ow gd)
    (ht : ∀ (s : Shared) (H : Hp) (C : Addr) (cl : List (Str × Addr)) (fp : List Addr), DTs (X.blk s H scope (compEnvC scope cl C X.env) fp) ifs wt)
    (he : ∀ (s : Shared) (H : Hp) (C : Addr) (cl : List (Str × Addr)) (fp : List Addr), DE (X.blk s H scope (compEnvC scope cl C X.env) fp) elt we)
    (ho : ∀ i ∈ ow, i ∈ own.map (·.2) := by decide) (hs : ∀ x, foldedSetIterable iter X.env x = pure x := by intro _; rfl) : DE X (.ListComp elt [⟨tg, iter, ifs, 0⟩] scope pos) (wLcM wi gd wt we (own.map (·.2))) :=
  de_lcX hc hN hi ok hg hgd ht he ho hs fun Γ M k h => ⟨_, h, fun Fr H0 H M ds vs L Q h4 w n1 n2 n3 n4 rd qk =>
    h4 _ H0 H _ _ (Same.refl _) (w.adoptM n1 n3 n4 (.lst rd)) (.cel L) (qk L n2)⟩
/-- name = [..] on one line -/
theorem ds_setLcX {i : Nat} {y : Str} {py : Pos} {elt tg iter : Expr} {ifs : List Expr} {scope : Scope} {own : List (Str × Nat)} {pos spos : Pos} {wi : WI} {g : TG} {ow : List Nat} {gd : D → Env → Option Env} {wt : WT} {we : WE} {wx : WE} (hc : X.calm = true) (hN : X.N.Nodup) (hy : X.N[i]? = some y) (hyl : X.env.scope.names.lookup y = some .local)
    (hsw : swapsWith (.ListComp elt [⟨tg, iter, ifs, 0⟩] scope pos) (some (.Name y py)) spos.line X.env = pure true) (hi : DI X tg iter wi) (ok : BlkOk X.N X.env.scope scope own)
    (hg : ∀ (s : Shared) (H : Hp) (C : Addr) (cl : List (Str × Addr)) (fp : List Addr), DG (X.blk s H scope (compEnvC scope cl C X.env) fp) tg g ow gd) (hgd : GD X.K g ow gd)
    (ht : ∀ (s : Shared) (H : Hp) (C : Addr) (cl : List (Str × Addr)) (fp : List Addr), DTs (X.blk s H scope (compEnvC scope cl C X.env) fp) ifs wt)
    (he : ∀ (s : Shared) (H : Hp) (C : Addr) (cl : List (Str × Addr)) (fp : List Addr), DE (X.blk s H scope (compEnvC scope cl C X.env) fp) elt we)
    (ho : ∀ i ∈ ow, i ∈ own.map (·.2)) (hs : ∀ x, foldedSetIterable iter X.env x = pure x)
    (hx : ∀ Γ M k, wx Γ M k → ∃ kd, wi Γ M (fun its G M1 => lcD gd wt we G (wipeD Γ (own.map (·.2))) its [] M1 kd) ∧ ∀ Fr H0 H M ds vs L Q, Cont X.K Fr H0 k Q → Wd X.K Fr H0 M H → H0 L = none → M L = none → Fr L = none → H L = some (.lst vs) → Dats X.K H0 vs ds → kd ds M → Q (.ref L) H) :
    DS X (.Assign [.Name y py] (.ListComp elt [⟨tg, iter, ifs, 0⟩] scope pos) spos) (wSet i wx) := by
  obtain ⟨ti, hpi, hti⟩ := hi.run
  refine ds_of (ps_setLc (tt := liftT X.K wt) (te := liftE X.K we) hc hN hy hyl hsw hpi ok (fun s H C cl fp => (hg s H C cl fp).pg) (fun s H C cl fp => (ht s H C cl fp).run) (fun s H C cl fp => (he s H C cl fp).run) hs) fun D σ H Γ Fr H0 M k h1 h2 h3 h4 => ?_
  obtain ⟨kd, h3, hk⟩ := hx Γ M _ h3
  refine hti σ H Γ Fr H0 M _ _ h1 h2 h3 fun J its G H1 H0' M' e1 w1 q1 wk L hL => ?_
  refine lc_heart (Qd := fun L H => gName i (.ref L) σ H D.nx) (ti := ti) (wi := wi) hgd ho (h1.mono e1) w1 wk q1 hL fun H2 H' M2 ds vs' e2 w2 n1 n2 n3 n4 rd qk => ?_
  refine hk Fr H2 H' M2 ds vs' L (fun v H => gName i v σ H D.nx) (fun v H3 H'' d M3 e3 w3 r3 q3 => ?_) w2 n1 n2 n3 n4 rd qk
  exact h4.nx _ H3 H'' _ M3 ((e1.trans e2).trans e3) ((h1.mono ((e1.trans e2).trans e3)).set i r3) w3 q3
theorem ds_setLc {i : Nat} {y : Str} {py : Pos} {elt tg iter : Expr} {ifs : List Expr} {scope : Scope} {own : List (Str × Nat)} {pos spos : Pos} {wi : WI} {g : TG} {ow : List Nat} {gd : D → Env → Option Env} {wt : WT} {we : WE} (hc : X.calm = true) (hN : X.N.Nodup) (hi : DI X tg iter wi) (ok : BlkOk X.N X.env.scope scope own)
    (hg : ∀ (s : Shared) (H : Hp) (C : Addr) (cl : List (Str × Addr)) (fp : List Addr), DG (X.blk s H scope (compEnvC scope cl C X.env) fp) tg g ow gd) (hgd : GD X.K g ow gd)
    (ht : ∀ (s : Shared) (H : Hp) (C : Addr) (cl : List (Str × Addr)) (fp : List Addr), DTs (X.blk s H scope (compEnvC scope cl C X.env) fp) ifs wt)
    (he : ∀ (s : Shared) (H : Hp) (C : Addr) (cl : List (Str × Addr)) (fp : List Addr), DE (X.blk s H scope (compEnvC scope cl C X.env) fp) elt we)
    (hsw : swapsWith (.ListComp elt [⟨tg, iter, ifs, 0⟩] scope pos) (some (.Name y py)) spos.line X.env = pure true)
    (hy : X.N[i]? = some y := by rfl) (hyl : X.env.scope.names.lookup y = some .local := by rfl)
    (ho : ∀ i ∈ ow, i ∈ own.map (·.2) := by decide) (hs : ∀ x, foldedSetIterable iter X.env x = pure x := by intro _; rfl) : DS X (.Assign [.Name y py] (.ListComp elt [⟨tg, iter, ifs, 0⟩] scope pos) spos) (wSet i (wLc wi gd wt we (own.map (·.2)))) :=
  ds_setLcX hc hN hy hyl hsw hi ok hg hgd ht he ho hs fun Γ M k h => ⟨_, h, fun Fr H0 H M ds vs L Q h4 w n1 n2 n3 n4 rd qk =>
    h4 _ (upd H0 L (.lst vs)) H _ M (same_new n1) (w.adopt n1 n2 n3 n4) (.lst upd_same (rd.mono (same_new n1))) qk⟩
theorem ds_setLcM {i : Nat} {y : Str} {py : Pos} {elt tg iter : Expr} {ifs : List Expr} {scope : Scope} {own : List (Str × Nat)} {pos spos : Pos} {wi : WI} {g : TG} {ow : List Nat} {gd : D → Env → Option Env} {wt : WT} {we : WE} (hc : X.calm = true) (hN : X.N.Nodup) (hi : DI X tg iter wi) (ok : BlkOk X.N X.env.scope scope own)
    (hg : ∀ (s : Shared) (H : Hp) (C : Addr) (cl : List (Str × Addr)) (fp : List Addr), DG (X.blk s H scope (compEnvC scope cl C X.env) fp) tg g ow gd) (hgd : GD X.K g ow gd)
    (ht : ∀ (s : Shared) (H : Hp) (C : Addr) (cl : List (Str × Addr)) (fp : List Addr), DTs (X.blk s H scope (compEnvC scope cl C X.env) fp) ifs wt)
    (he : ∀ (s : Shared) (H : Hp) (C : Addr) (cl : List (Str × Addr)) (fp : List Addr), DE (X.blk s H scope (compEnvC scope cl C X.env) fp) elt we)
    (hsw : swapsWith (.ListComp elt [⟨tg, iter, ifs, 0⟩] scope pos) (some (.Name y py)) spos.line X.env = pure true)
    (hy : X.N[i]? = some y := by rfl) (hyl : X.env.scope.names.lookup y = some .local := by rfl)
    (ho : ∀ i ∈ ow, i ∈ own.map (·.2) := by decide) (hs : ∀ x, foldedSetIterable iter X.env x = pure x := by intro _; rfl) : DS X (.Assign [.Name y py] (.ListComp elt [⟨tg, iter, ifs, 0⟩] scope pos) spos) (wSet i (wLcM wi gd wt we (own.map (·.2)))) :=
  ds_setLcX hc hN hy hyl hsw hi ok hg hgd ht he ho hs fun Γ M k h => ⟨_, h, fun Fr H0 H M ds vs L Q h4 w n1 n2 n3 n4 rd qk =>
    h4 _ H0 H _ _ (Same.refl _) (w.adoptM n1 n3 n4 (.lst rd)) (.cel L) (qk L n2)⟩
end
/-! ### a def -/
section
variable {P : Program} {w : World} {K : PySem.W.Frag} {mg : Str → Option Value} {base : Heap}
def startD (N : List Str) (ds : List D) : Env := ds.map some ++ List.replicate (N.length - ds.length) none
theorem slots_start {K : PySem.W.Frag} {H : Hp} {N : List Str} {vs : List V} {ds : List D} (h : Dats K H vs ds) : Slots K H (L2.start N vs) (startD N ds) := by
  have hl := h.length
  refine ⟨by unfold L2.start startD; simp [hl], fun i d e => ?_⟩
  unfold startD at e
  by_cases hi : i < ds.length
  · rw [List.getElem?_append_left (by simpa using hi), List.getElem?_map] at e
    cases q : ds[i]? with
    | none => rw [q] at e; cases e
    | some d' =>
      rw [q] at e; cases e
      obtain ⟨v, e2, r⟩ := h.get q
      refine ⟨v, ?_, r⟩
      unfold L2.start
      rw [List.getElem?_append_left (by simpa [hl] using hi), List.getElem?_map, e2]; rfl
  · rw [List.getElem?_append_right (by simpa using hi)] at e
    have := List.mem_of_getElem? e
    simp at this
abbrev fin (k : KD) : KS := ⟨fun _ M => k .non M, k, fun _ _ => False, fun _ _ => False⟩
theorem Fun.okD {x qual : Str} {st : Stmt} {f : Addr} {fd : FuncData} {N ps : List Str} {k : Nat} {F : FD} {ws : WS} (Fu : Fun K x qual st f fd) (S : FnScope N ps (defScope st))
    (hbody : ∀ (cdv : Value) (A : Around) (outer : List PySem.Env) (s : Shared) (H : Hp) (E : XK), DG.RoomG k (A.deeper (PyProof.Rows.envOfC qual (defScope st) s.heap.objs.size f cdv)) → DSs (cxOf CX0 P w K mg base N qual (defScope st) f cdv A outer s H E).nox (defBody st) ws)
    (hw : ∀ ds M kd, F ds M kd → ds.length = ps.length ∧ ws (fin kd) (startD N ds) M) : DFn P w K mg base (k + 1) f fd ps F := by
  refine DG.fnG Fu S (fun vs H Q E h => ?_) (fun cdv A outer s H vs Q E hr h => ?_)
  · obtain ⟨Fr, H0, M, ds, kd, w, r, q, c⟩ := h
    rw [r.length]; exact (hw ds M kd q).1
  · obtain ⟨Fr, H0, M, ds, kd, w, r, q, c⟩ := h
    refine ⟨_, (hbody cdv A outer s H E hr).run.nox, ?_⟩
    refine ⟨startD N ds, Fr, H0, M, fin kd, slots_start r, w, (hw ds M kd q).2, ⟨fun σ' H0' H' Γ' M' e s w q => c .non H0' H' .non M' e w .non q, c, fun _ _ _ _ _ _ _ _ q => q.elim, fun _ _ _ _ _ _ _ _ q => q.elim⟩⟩
end
end DL

set_option autoImplicit false
set_option maxRecDepth 100000
set_option maxHeartbeats 2000000
namespace DL
open PySem L2
section
variable {X : Cx} {K : PySem.W.Frag} {e a b : Expr} {es : List Expr}

/-! ### + - * // % ** -/
def rdAdd : D → D → Mem → KD → Prop := fun x y M k => match x, y with
  | .int i, .int j => k (.int (i + j)) M
  | .str s, .str t => s.length + t.length ≤ sizeLine ∧ k (.str (s ++ t)) M
  | .tup xs, .tup ys => xs.length + ys.length ≤ sizeLine ∧ k (.tup (xs ++ ys)) M
  | x, y => match asL M x, asL M y with
    | some xs, some ys => xs.length + ys.length ≤ sizeLine ∧ k (.lst (xs ++ ys)) M
    | _, _ => False
theorem dats_nil {H : Hp} {vs : List V} {ds : List D} (h : Dats K H vs ds) : vs = [] ↔ ds = [] := by
  cases h <;> simp
theorem op_addA : ∃ r, OpR X (binaryOp .Add) r ∧ OpD X.K r rdAdd := by
  refine ⟨_, op_add.or (op_add_str.or (op_catA.or op_cat)), fun Fr H0 M H x y vx vy k Q w rx ry h c => ?_⟩
  unfold rdAdd at h
  split at h
  · cases rx; cases ry; exact .inl ⟨_, _, rfl, rfl, c _ H0 H _ M (Same.refl _) w (.int _) h⟩
  · cases rx; cases ry; exact .inr (.inl ⟨_, _, rfl, rfl, h.1, c _ H0 H _ M (Same.refl _) w (.str _) h.2⟩)
  · cases rx with
    | tup hs hd =>
      cases ry with
      | tup hs2 hd2 =>
        rename_i a vs b ws
        refine .inr (.inr (.inl ⟨a, b, vs, ws, rfl, rfl, same_t w.ex hs, same_t w.ex hs2, by rw [hd.length, hd2.length]; exact h.1, fun e => ?_, fun e1 e2 => ?_, fun _ _ p hp => ?_⟩))
        · have : _ = [] := (dats_nil hd).mp e
          subst this
          exact c _ H0 H _ M (Same.refl _) w (.tup hs2 hd2) (by simpa using h.2)
        · have : _ = [] := (dats_nil hd2).mp e2
          subst this
          exact c _ H0 H _ M (Same.refl _) w (.tup hs hd) (by simpa using h.2)
        · exact c _ _ _ _ M (same_new (w.fresh hp)) (w.new hp) (.tup (.of upd_same) ((hd.append hd2).mono (same_new (w.fresh hp)))) h.2
  · split at h
    · rename_i xs ys e1 e2
      obtain ⟨a, vs, rfl, h1, d1⟩ := asL_ok w rx e1
      obtain ⟨b, ws, rfl, h2, d2⟩ := asL_ok w ry e2
      refine .inr (.inr (.inr ⟨a, b, vs, ws, rfl, rfl, h1, h2, by rw [d1.length, d2.length]; exact h.1, fun p hp => ?_⟩))
      exact c _ _ _ _ M (same_new (w.fresh hp)) (w.new hp) (.lst upd_same ((d1.append d2).mono (same_new (w.fresh hp)))) h.2
    · exact h.elim
theorem de_add {wa wb : WE} {pos : Pos} (ha : DE X a wa) (hb : DE X b wb) : DE X (.BinOp a .Add b pos) (wOp rdAdd wa wb) := by
  obtain ⟨r, h1, h2⟩ := op_addA (X := X)
  exact de_op h1 h2 ha hb
/-- two ints under a condition -/
def rdI (C : Int → Int → Prop) (g : Int → Int → D) : D → D → Mem → KD → Prop := fun x y M k => match x, y with | .int i, .int j => C i j ∧ k (g i j) M | _, _ => False
theorem opd_I {C : Int → Int → Prop} {g : Int → Int → V} {g' : Int → Int → D} (hg : ∀ i j H, Dat K H (g i j) (g' i j)) : OpD K (rI C g) (rdI C g') := fun Fr H0 M H x y vx vy k Q w rx ry h c => by
  unfold rdI at h
  split at h
  · cases rx; cases ry; exact ⟨_, _, rfl, rfl, h.1, c _ H0 H _ M (Same.refl _) w (hg _ _ _) h.2⟩
  · exact h.elim
def rdI0 (g : Int → Int → D) : D → D → Mem → KD → Prop := fun x y M k => match x, y with | .int i, .int j => k (g i j) M | _, _ => False
theorem opd_I0 {g : Int → Int → V} {g' : Int → Int → D} (hg : ∀ i j H, Dat K H (g i j) (g' i j)) : OpD K (rI0 g) (rdI0 g') := fun Fr H0 M H x y vx vy k Q w rx ry h c => by
  unfold rdI0 at h
  split at h
  · cases rx; cases ry; exact ⟨_, _, rfl, rfl, c _ H0 H _ M (Same.refl _) w (hg _ _ _) h⟩
  · exact h.elim
theorem de_sub {wa wb : WE} {pos : Pos} (ha : DE X a wa) (hb : DE X b wb) : DE X (.BinOp a .Sub b pos) (wOp (rdI0 fun i j => .int (i - j)) wa wb) := de_op op_sub (opd_I0 fun _ _ _ => .int _) ha hb
theorem de_mul {wa wb : WE} {pos : Pos} (ha : DE X a wa) (hb : DE X b wb) : DE X (.BinOp a .Mult b pos) (wOp (rdI CMul fun i j => .int (i * j)) wa wb) := de_op op_mul (opd_I fun _ _ _ => .int _) ha hb
/-- by a positive divisor below 2 ^ 30 -/
theorem de_div {wa wb : WE} {pos : Pos} (ha : DE X a wa) (hb : DE X b wb) : DE X (.BinOp a .FloorDiv b pos) (wOp (rdI CDiv fun i j => .int (i / j)) wa wb) := de_op op_fdiv (opd_I fun _ _ _ => .int _) ha hb
theorem de_mod {wa wb : WE} {pos : Pos} (ha : DE X a wa) (hb : DE X b wb) : DE X (.BinOp a .Mod b pos) (wOp (rdI (fun _ j => 0 < j) fun i j => .int (i % j)) wa wb) := de_op op_mod (opd_I fun _ _ _ => .int _) ha hb
theorem de_pow {wa wb : WE} {pos : Pos} (ha : DE X a wa) (hb : DE X b wb) : DE X (.BinOp a .Pow b pos) (wOp (rdI CPow fun i j => .int (i ^ j.toNat)) wa wb) := de_op op_pow (opd_I fun _ _ _ => .int _) ha hb
def rdU (g : Int → D) : D → Mem → KD → Prop := fun x M k => match x with | .int i => k (g i) M | _ => False
def wUn (rd : D → Mem → KD → Prop) (wa : WE) : WE := fun Γ M k => wa Γ M fun x M1 => rd x M1 k
theorem de_neg {wa : WE} {pos : Pos} (ha : DE X a wa) : DE X (.UnaryOp .USub a pos) (wUn (rdU fun i => .int (-i)) wa) :=
  de_of (pe_un un_neg ha.run) fun σ H Q Γ Fr H0 M k h1 h2 h3 h4 => ⟨Γ, Fr, H0, M, _, h1, h2, h3, fun v H1 H' d M' e1 w1 r1 q1 => by
    unfold rdU at q1
    split at q1
    · cases r1; exact ⟨_, rfl, h4 _ H1 H' _ M' e1 w1 (.int _) q1⟩
    · exact q1.elim⟩

/-! ### comparisons -/
def rdOrd (p : Int → Int → Bool) (q : Str → Str → Bool) : D → D → Mem → KD → Prop := fun x y M k => match x, y with
  | .int i, .int j => k (.bl (p i j)) M
  | .str i, .str j => k (.bl (q i j)) M
  | _, _ => False
theorem opd_ord {p : Int → Int → Bool} {q : Str → Str → Bool} {r r' : R2} (h : ∀ i j H (Q : VK), Q (.bl (p i j)) H → r (.int i) (.int j) H Q) (h' : ∀ i j H (Q : VK), Q (.bl (q i j)) H → r' (.str i) (.str j) H Q) : OpD K (fun x y H Q => r x y H Q ∨ r' x y H Q) (rdOrd p q) := fun Fr H0 M H x y vx vy k Q w rx ry z c => by
  unfold rdOrd at z
  split at z
  · cases rx; cases ry; exact .inl (h _ _ _ _ (c _ H0 H _ M (Same.refl _) w (.bl _) z))
  · cases rx; cases ry; exact .inr (h' _ _ _ _ (c _ H0 H _ M (Same.refl _) w (.bl _) z))
  · exact z.elim
abbrev rdLt := rdOrd (fun i j => decide (i < j)) (fun i j => decide (i.cps.toList < j.cps.toList))
abbrev rdLe := rdOrd (fun i j => decide (i ≤ j)) (fun i j => !decide (j.cps.toList < i.cps.toList))
theorem op_ltA : ∃ r, OpR X (compareOp .Lt) r ∧ OpD X.K r rdLt := ⟨_, op_lt.or op_lt_str, opd_ord (fun _ _ _ _ z => ⟨_, _, rfl, rfl, z⟩) fun _ _ _ _ z => ⟨_, _, rfl, rfl, z⟩⟩
theorem op_leA : ∃ r, OpR X (compareOp .LtE) r ∧ OpD X.K r rdLe := ⟨_, op_le.or op_le_str, opd_ord (fun _ _ _ _ z => ⟨_, _, rfl, rfl, z⟩) fun _ _ _ _ z => ⟨_, _, rfl, rfl, z⟩⟩
abbrev rdGt := rdOrd (fun i j => decide (j < i)) (fun i j => decide (j.cps.toList < i.cps.toList))
abbrev rdGe := rdOrd (fun i j => decide (j ≤ i)) (fun i j => !decide (i.cps.toList < j.cps.toList))
theorem op_gtA : ∃ r, OpR X (compareOp .Gt) r ∧ OpD X.K r rdGt := ⟨_, op_gt.or op_gt_str, opd_ord (fun _ _ _ _ z => ⟨_, _, rfl, rfl, z⟩) fun _ _ _ _ z => ⟨_, _, rfl, rfl, z⟩⟩
theorem op_geA : ∃ r, OpR X (compareOp .GtE) r ∧ OpD X.K r rdGe := ⟨_, op_ge.or op_ge_str, opd_ord (fun _ _ _ _ z => ⟨_, _, rfl, rfl, z⟩) fun _ _ _ _ z => ⟨_, _, rfl, rfl, z⟩⟩

mutual
/-- what == looks at -/
def toP (M : Mem) : D → Option PyData
  | .non => some .none
  | .bl b => some (.bool b)
  | .int i => some (.int i)
  | .str s => some (.str s)
  | .tup ds => match toPs M ds with | some ps => some (.tuple ps) | none => none
  | .lst ds => match toPs M ds with | some ps => some (.list ps) | none => none
  | _ => none
def toPs (M : Mem) : List D → Option (List PyData)
  | [] => some []
  | d :: ds => match toP M d, toPs M ds with | some p, some ps => some (p :: ps) | _, _ => none
end
/-- a cell at the outmost place -/
def toPC (M : Mem) : D → Option PyData
  | .cel a => match M a with | some (.lst ds) => (match toPs M ds with | some ps => some (.list ps) | none => none) | _ => none
  | d => toP M d
mutual
theorem toP_ok {Fr H0 H : Hp} {M : Mem} (w : Wd K Fr H0 M H) : ∀ (d : D) (v : V) (p : PyData), Dat K H0 v d → toP M d = some p → Dp K H v p
  | .non, _, _, .non, e => by cases e; exact .non
  | .bl _, _, _, .bl b, e => by cases e; exact .bl b
  | .int _, _, _, .int b, e => by cases e; exact .int b
  | .str _, _, _, .str b, e => by cases e; exact .str b
  | .tup ds, _, _, .tup hs hd, e => by
    unfold toP at e
    split at e
    · rename_i ps q; cases e; exact .tup (same_t w.ex hs) (toPs_ok w ds _ ps hd q)
    · cases e
  | .lst ds, _, _, .lst hs hd, e => by
    unfold toP at e
    split at e
    · rename_i ps q; cases e; exact .lst (.of (w.ex _ _ hs)) (toPs_ok w ds _ ps hd q)
    · cases e
  | .scr _, _, _, _, e => by cases e
  | .cel _, _, _, _, e => by cases e
  | .ty _, _, _, _, e => by cases e
theorem toPs_ok {Fr H0 H : Hp} {M : Mem} (w : Wd K Fr H0 M H) : ∀ (ds : List D) (vs : List V) (ps : List PyData), Dats K H0 vs ds → toPs M ds = some ps → DpAll K H vs ps
  | [], _, _, .nil, e => by cases e; exact .nil
  | d :: ds, _, _, .cons h hs, e => by
    unfold toPs at e
    split at e
    · rename_i p ps q1 q2; cases e; exact .cons (toP_ok w d _ p h q1) (toPs_ok w ds _ ps hs q2)
    · cases e
end
theorem toPC_ok {Fr H0 H : Hp} {M : Mem} (w : Wd K Fr H0 M H) {d : D} {v : V} {p : PyData} (r : Dat K H0 v d) (e : toPC M d = some p) : Dp K H v p := by
  cases d with
  | cel a =>
    unfold toPC at e
    simp only at e
    split at e
    · rename_i ds q
      obtain ⟨a', vs, rfl, h1, h2⟩ := asL_ok (ds := ds) w r (by unfold asL; simp only [q])
      split at e
      · rename_i ps q2; cases e; exact .lst (.of h1) (toPs_ok w ds _ ps h2 q2)
      · cases e
    · cases e
  | _ => exact toP_ok w _ v p r e
def rdEqP (f : Bool → Bool) : D → D → Mem → KD → Prop := fun x y M k => match toPC M x, toPC M y with
  | some p, some q => SeqAt.shaped p = true ∧ SeqAt.shaped q = true ∧ k (.bl (f (PyData.eqv p q))) M
  | _, _ => False
def rdEq (f : Bool → Bool) : D → D → Mem → KD → Prop := fun x y M k => match x, y with
  | .str s, .str t => k (.bl (f (decide (s = t)))) M
  | x, y => rdEqP f x y M k
theorem str_dec {s t : Str} : decide (V.str s = V.str t) = decide (s = t) := by rw [decide_eq_decide]; simp
theorem opd_eqP : OpD K (rEqD K) (rdEqP id) := fun Fr H0 M H x y vx vy k Q w rx ry h c => by
  unfold rdEqP at h
  split at h
  · rename_i p q e1 e2
    exact ⟨p, q, toPC_ok w rx e1, toPC_ok w ry e2, h.1, h.2.1, c _ H0 H _ M (Same.refl _) w (.bl _) h.2.2⟩
  · exact h.elim
theorem opd_neP : OpD K (rNeD K) (rdEqP not) := fun Fr H0 M H x y vx vy k Q w rx ry h c => by
  unfold rdEqP at h
  split at h
  · rename_i p q e1 e2
    exact ⟨p, q, toPC_ok w rx e1, toPC_ok w ry e2, h.1, h.2.1, c _ H0 H _ M (Same.refl _) w (.bl _) h.2.2⟩
  · exact h.elim
theorem opd_eq : OpD K (fun x y H Q => rEq x y H Q ∨ rEqD K x y H Q) (rdEq id) := fun Fr H0 M H x y vx vy k Q w rx ry h c => by
  unfold rdEq at h
  split at h
  · cases rx; cases ry
    exact .inl ⟨rfl, by rw [str_dec]; exact c _ H0 H _ M (Same.refl _) w (.bl _) h⟩
  · exact .inr (opd_eqP Fr H0 M H _ _ _ _ k Q w rx ry h c)
theorem opd_ne : OpD K (fun x y H Q => rNe x y H Q ∨ rNeD K x y H Q) (rdEq not) := fun Fr H0 M H x y vx vy k Q w rx ry h c => by
  unfold rdEq at h
  split at h
  · cases rx; cases ry
    exact .inl ⟨rfl, by rw [str_dec]; exact c _ H0 H _ M (Same.refl _) w (.bl _) h⟩
  · exact .inr (opd_neP Fr H0 M H _ _ _ _ k Q w rx ry h c)
/-- is None, of types, of truths -/
def rdIs (f : Bool → Bool) : D → D → Mem → KD → Prop := fun x y M k => match x, y with
  | .ty m, .ty n => k (.bl (f (decide (m = n)))) M
  | .bl m, .bl n => k (.bl (f (decide (m = n)))) M
  | .non, .non => k (.bl (f true)) M
  | .bl _, .non => k (.bl (f false)) M
  | .int _, .non => k (.bl (f false)) M
  | .str _, .non => k (.bl (f false)) M
  | .tup _, .non => k (.bl (f false)) M
  | .lst _, .non => k (.bl (f false)) M
  | .cel _, .non => k (.bl (f false)) M
  | _, _ => False
theorem op_isA : ∃ r, OpR X (compareOp .Is) r ∧ OpD X.K r (rdIs id) := ⟨_, op_isTyB.or (op_isBl.or op_isN), fun Fr H0 M H x y vx vy k Q w rx ry h c => by
  unfold rdIs at h
  split at h
  · cases rx; cases ry; exact .inl ⟨_, _, rfl, rfl, c _ H0 H _ M (Same.refl _) w (.bl _) h⟩
  · cases rx; cases ry; exact .inr (.inl ⟨_, _, rfl, rfl, c _ H0 H _ M (Same.refl _) w (.bl _) h⟩)
  all_goals first
    | exact h.elim
    | (cases ry; cases rx <;> exact .inr (.inr ⟨rfl, c _ H0 H _ M (Same.refl _) w (.bl _) h⟩))⟩
theorem op_isnA : ∃ r, OpR X (compareOp .IsNot) r ∧ OpD X.K r (rdIs not) := ⟨_, op_notTyB.or (op_notBl.or op_notN), fun Fr H0 M H x y vx vy k Q w rx ry h c => by
  unfold rdIs at h
  split at h
  · cases rx; cases ry; exact .inl ⟨_, _, rfl, rfl, c _ H0 H _ M (Same.refl _) w (.bl _) h⟩
  · cases rx; cases ry; exact .inr (.inl ⟨_, _, rfl, rfl, c _ H0 H _ M (Same.refl _) w (.bl _) h⟩)
  all_goals first
    | exact h.elim
    | (cases ry; cases rx <;> exact .inr (.inr ⟨rfl, c _ H0 H _ M (Same.refl _) w (.bl _) h⟩))⟩
/-- in, of flat things -/
def flatD : D → Option V
  | .non => some .non
  | .bl b => some (.bl b)
  | .int i => some (.int i)
  | .str s => some (.str s)
  | _ => none
def flatsD : List D → Option (List V)
  | [] => some []
  | d :: ds => match flatD d, flatsD ds with | some v, some vs => some (v :: vs) | _, _ => none
theorem flatD_ok {H : Hp} {d : D} {v u : V} (r : Dat K H v d) (e : flatD d = some u) : v = u ∧ flatV u = true := by
  cases r <;> cases e <;> exact ⟨rfl, rfl⟩
theorem flatsD_ok {H : Hp} : ∀ {ds : List D} {vs us : List V}, Dats K H vs ds → flatsD ds = some us → vs = us ∧ us.all flatV = true
  | [], _, _, .nil, e => by cases e; exact ⟨rfl, rfl⟩
  | d :: ds, _, us, .cons h hs, e => by
    unfold flatsD at e
    split at e
    · rename_i v vs q1 q2
      cases e
      obtain ⟨rfl, f1⟩ := flatD_ok h q1
      obtain ⟨rfl, f2⟩ := flatsD_ok hs q2
      exact ⟨rfl, by rw [List.all_cons, f1, f2]; rfl⟩
    · cases e
def seqD (M : Mem) : D → Option (List D)
  | .tup ds => some ds
  | d => asR M d
def rdIn (f : Bool → Bool) : D → D → Mem → KD → Prop := fun x y M k => match seqD M y with
  | some ds => (match flatD x, flatsD ds with | some v, some vs => k (.bl (f (inV v vs))) M | _, _ => False)
  | none => False
theorem seqD_ok {Fr H0 H : Hp} {M : Mem} {v : V} {d : D} {ds : List D} (w : Wd K Fr H0 M H) (r : Dat K H0 v d) (h : seqD M d = some ds) : ∃ a vs, v = .ref a ∧ (SqL K H a vs ∨ SqT K H a vs) ∧ Dats K H0 vs ds := by
  cases d with
  | tup ds => cases h; cases r with | tup hs hd => exact ⟨_, _, rfl, .inr (same_t w.ex hs), hd⟩
  | _ => obtain ⟨a, vs, e, h1, h2⟩ := asR_ok (ds := ds) w r (by exact h); exact ⟨a, vs, e, .inl h1, h2⟩
theorem opd_in {f : Bool → Bool} {neg : Bool} (hf : ∀ c, f c = if neg then !c else c) : OpD K (rIn K neg) (rdIn f) := fun Fr H0 M H x y vx vy k Q w rx ry h c => by
  unfold rdIn at h
  split at h
  · rename_i ds e
    obtain ⟨a, vs, rfl, hs, hd⟩ := seqD_ok w ry e
    split at h
    · rename_i v vs' e1 e2
      obtain ⟨rfl, f1⟩ := flatD_ok rx e1
      obtain ⟨rfl, f2⟩ := flatsD_ok hd e2
      rw [hf] at h
      refine ⟨a, _, rfl, hs, f1, f2, ?_⟩
      cases neg
      · exact c _ H0 H _ M (Same.refl _) w (.bl _) h
      · exact c _ H0 H _ M (Same.refl _) w (.bl _) h
    · exact h.elim
  · exact h.elim

/-! ### subscripts -/
def rdIx : D → D → Mem → KD → Prop := fun x y M k => match y with
  | .int i => (match x with
    | .str z => z.length ≤ sizeLine ∧ (match atI z.cps.toList i with | some c => k (.str ⟨#[c]⟩) M | none => False)
    | x => match seqD M x with | some ds => (match atI ds i with | some d => k d M | none => False) | none => False)
  | _ => False
theorem atI_dats {H : Hp} {vs : List V} {ds : List D} {i : Int} {d : D} (h : Dats K H vs ds) (e : atI ds i = some d) : ∃ v, atI vs i = some v ∧ Dat K H v d := by
  unfold atI at e ⊢
  rw [h.length]
  cases q : ixN ds.length i with
  | none => rw [q] at e; cases e
  | some j =>
    rw [q] at e
    obtain ⟨v, h1, h2⟩ := h.get (i := j) e
    exact ⟨v, h1, h2⟩
theorem opd_ix : OpD K (rIx K) rdIx := fun Fr H0 M H x y vx vy k Q w rx ry h c => by
  unfold rdIx at h
  split at h
  · rename_i i
    cases ry
    split at h
    · rename_i z
      cases rx
      obtain ⟨hz, h⟩ := h
      split at h
      · rename_i c' e; exact .inr (.inr ⟨_, _, _, rfl, rfl, hz, e, c _ H0 H _ M (Same.refl _) w (.str _) h⟩)
      · exact h.elim
    · split at h
      · rename_i ds e
        obtain ⟨a, vs, rfl, hs, hd⟩ := seqD_ok w rx e
        split at h
        · rename_i d e2
          obtain ⟨v, h1, h2⟩ := atI_dats hd e2
          rcases hs with hs | hs
          · exact .inl ⟨a, vs, _, v, rfl, rfl, hs, h1, c _ H0 H _ M (Same.refl _) w h2 h⟩
          · exact .inr (.inl ⟨a, vs, _, v, rfl, rfl, hs, h1, c _ H0 H _ M (Same.refl _) w h2 h⟩)
        · exact h.elim
      · exact h.elim
  · exact h.elim
theorem de_ix {wa wb : WE} {pos : Pos} (ha : DE X a wa) (hb : DE X b wb) (hs : PlainIx b := by exact fun _ _ => rfl) : DE X (.Subscript a b pos) (wOp rdIx wa wb) :=
  de_of (pe_ix ix_seq ha.run hb.run hs) fun _ _ _ _ _ _ _ _ h1 h2 h3 h4 => lift_op opd_ix h1 h2 h3 h4
/-- d[k] -/
def keyD : D → Option Key
  | .int i => some (.inl i)
  | .str s => some (.inr s)
  | _ => none
def lookD (kvs : List (Key × D)) (k : Key) : Option D := (kvs.find? fun kv => decide (kv.1 = k)).map (·.2)
def rdGet : D → D → Mem → KD → Prop := fun x y M k => match x with
  | .cel a => (match M a with
    | some (.dct kvs) => (match keyD y with
      | some κ => (match lookD kvs κ with | some d => k d M | none => False)
      | none => False)
    | _ => False)
  | _ => False
theorem keyD_ok {H : Hp} {v : V} {d : D} {κ : Key} (r : Dat K H v d) (e : keyD d = some κ) : v = kV κ := by
  cases r <;> cases e <;> rfl
theorem look_ok {H : Hp} {κ : Key} : ∀ {kvs : List (Key × V)} {kds : List (Key × D)}, DKs K H kvs kds → (∀ d, lookD kds κ = some d → ∃ v, valV kvs κ = some v ∧ Dat K H v d) ∧ (lookD kds κ = none → valV kvs κ = none)
  | _, _, .nil => ⟨fun d e => (by simp [lookD] at e), fun _ => rfl⟩
  | _, _, .cons (a := p) (b := q) h t => by
    obtain ⟨i1, i2⟩ := look_ok (κ := κ) t
    by_cases e : q.1 = κ
    · have e' : p.1 = κ := h.1.trans e
      refine ⟨fun d z => ?_, fun z => ?_⟩
      · have this : ∀ l, lookD (q :: l) κ = some q.2 := fun l => by unfold lookD; rw [List.find?_cons]; simp [e]
        rw [this] at z; cases z
        exact ⟨p.2, valV_pos e', h.2⟩
      · have this : ∀ l, lookD (q :: l) κ = some q.2 := fun l => by unfold lookD; rw [List.find?_cons]; simp [e]
        rw [this] at z; cases z
    · have e' : ¬ p.1 = κ := fun z => e (h.1.symm.trans z)
      have : ∀ l, lookD (q :: l) κ = lookD l κ := fun l => by unfold lookD; rw [List.find?_cons]; simp [e]
      rw [this, valV_neg e']
      exact ⟨i1, i2⟩
def wGet (wa wb : WE) : WE := wOp rdGet wa wb
theorem de_get {wa wb : WE} {pos : Pos} (hu : X.A.units + 1 < cLine) (ha : DE X a wa) (hb : DE X b wb) (hs : NoSl b := by exact fun _ _ => rfl) : DE X (.Subscript a b pos) (wGet wa wb) :=
  de_of (pe_dget hu ha.run hb.run hs) fun σ H Q Γ Fr H0 M k h1 h2 h3 h4 => by
    refine ⟨Γ, Fr, H0, M, _, h1, h2, h3, fun v H1 H' d M' e1 w1 r1 q1 => ?_⟩
    refine ⟨Γ, Fr, H1, M', _, h1.mono e1, w1, q1, fun u H2 H'' d' M'' e2 w2 r2 q2 => ?_⟩
    unfold rdGet at q2
    split at q2
    · rename_i a
      split at q2
      · rename_i kvs e
        split at q2
        · rename_i κ ek
          split at q2
          · rename_i dd ed
            obtain ⟨_, o, ho, ck⟩ := w2.mem a _ e
            cases ck with
            | dct hk =>
              obtain ⟨v', h5, h6⟩ := (look_ok (κ := κ) hk).1 dd ed
              cases r1
              have := keyD_ok r2 ek
              subst this
              exact ⟨a, v', rfl, by rw [← h5]; exact .k ho, h4 v' H2 H'' dd M'' (e1.trans e2) w2 h6 q2⟩
          · exact q2.elim
        · exact q2.elim
      · exact q2.elim
    · exact q2.elim
/-- slices -/
abbrev WO := Env → Mem → (Option Int → Mem → Prop) → Prop
def liftO (K : PySem.W.Frag) (w : WO) : TO := fun σ H Q => ∃ Γ Fr H0 M k, Slots K H0 σ Γ ∧ Wd K Fr H0 M H ∧ w Γ M k ∧ ∀ o H0' H' M', Same H0 H0' → Wd K Fr H0' M' H' → k o M' → Q o H'
structure DO (X : Cx) (e : Option Expr) (w : WO) : Prop where
  run : PO X e (liftO X.K w)
def woNone : WO := fun _ M k => k none M
def woSome (w : WE) : WO := fun Γ M k => w Γ M fun d M1 => match d with | .int i => k (some i) M1 | _ => False
theorem do_none : DO X none woNone := ⟨⟨fun pins s σ H Q I ⟨Γ, Fr, H0, M, k, h1, h2, h3, h4⟩ => po_none.run pins s σ H Q I (h4 none H0 H M (Same.refl _) h2 h3)⟩⟩
theorem do_some {w : WE} (h : DE X e w) : DO X (some e) (woSome w) := ⟨⟨fun pins s σ H Q I ⟨Γ, Fr, H0, M, k, h1, h2, h3, h4⟩ => (po_some h.run).run pins s σ H Q I ⟨Γ, Fr, H0, M, _, h1, h2, h3, fun v H1 H' d M' e1 w1 r1 q1 => by
  split at q1
  · cases r1; exact ⟨_, rfl, h4 _ H1 H' M' e1 w1 q1⟩
  · exact q1.elim⟩⟩⟩
def cutD {α : Type} (xs : List α) (lo hi : Option Int) : List α := (xs.drop (HT.sIx xs.length 0 lo)).take (HT.sIx xs.length xs.length hi - HT.sIx xs.length 0 lo)
theorem cut_dats {H : Hp} {vs : List V} {ds : List D} (h : Dats K H vs ds) (lo hi : Option Int) : Dats K H (cutV vs lo hi) (cutD ds lo hi) := by
  unfold cutV cutD; rw [h.length]; exact (h.drop _).take _
def rdSl : D → Option Int → Option Int → Mem → KD → Prop := fun x lo hi M k => match x with
  | .tup ds => k (.tup (cutD ds lo hi)) M
  | .str z => z.length ≤ sizeLine ∧ k (.str (cutS z lo hi)) M
  | x => match asR M x with | some ds => k (.lst (cutD ds lo hi)) M | none => False
def wSl (we : WE) (wl wh : WO) : WE := fun Γ M k => we Γ M fun x M1 => wl Γ M1 fun lo M2 => wh Γ M2 fun hi M3 => rdSl x lo hi M3 k
theorem cutD_whole {α : Type} {xs : List α} {lo hi : Option Int} (h : HT.sIx xs.length 0 lo = 0 ∧ HT.sIx xs.length xs.length hi = xs.length) : cutD xs lo hi = xs := by
  unfold cutD; rw [h.1, h.2]; simp
theorem de_slice {lo hi : Option Expr} {we : WE} {wl wh : WO} {pos p2 : Pos} (he : DE X e we) (hl : DO X lo wl) (hh : DO X hi wh) : DE X (.Subscript e (.Slice lo hi none p2) pos) (wSl we wl wh) :=
  de_of (pe_slice (sl_tupA.or (sl_str.or sl_list)) he.run hl.run hh.run) fun σ H Q Γ Fr H0 M k h1 h2 h3 h4 => by
    refine ⟨Γ, Fr, H0, M, _, h1, h2, h3, fun v H1 H' d M' e1 w1 r1 q1 => ?_⟩
    refine ⟨Γ, Fr, H1, M', _, h1.mono e1, w1, q1, fun l H2 H'' M'' e2 w2 q2 => ?_⟩
    refine ⟨Γ, Fr, H2, M'', _, h1.mono (e1.trans e2), w2, q2, fun u H3 H''' M3 e3 w3 q3 => ?_⟩
    have r3 := r1.mono (e2.trans e3)
    have c3 := h4.mono ((e1.trans e2).trans e3)
    unfold rdSl at q3
    split at q3
    · cases r3 with
      | tup hs hd =>
        rename_i a vs
        refine .inl ⟨a, vs, rfl, same_t w3.ex hs, fun hw => ?_, fun _ p hp => ?_⟩
        · rw [hd.length] at hw
          rw [cutD_whole hw] at q3
          exact c3 _ H3 H''' _ M3 (Same.refl _) w3 (.tup hs hd) q3
        · exact c3 _ _ _ _ M3 (same_new (w3.fresh hp)) (w3.new hp) (.tup (.of upd_same) ((cut_dats hd _ _).mono (same_new (w3.fresh hp)))) q3
    · cases r3; exact .inr (.inl ⟨_, rfl, q3.1, c3 _ H3 H''' _ M3 (Same.refl _) w3 (.str _) q3.2⟩)
    · split at q3
      · rename_i ds ed
        obtain ⟨a, vs, rfl, hs, hd⟩ := asR_ok w3 r3 ed
        exact .inr (.inr ⟨a, vs, rfl, hs, fun p hp => c3 _ _ _ _ M3 (same_new (w3.fresh hp)) (w3.new hp) (.lst upd_same ((cut_dats hd _ _).mono (same_new (w3.fresh hp)))) q3⟩)
      · exact q3.elim
/-- a list: a cell -/
def wSlM (we : WE) (wl wh : WO) : WE := fun Γ M k => we Γ M fun x M1 => wl Γ M1 fun lo M2 => wh Γ M2 fun hi M3 => match asR M3 x with | some ds => ∀ p, M3 p = none → k (.cel p) (setM M3 p (.lst (cutD ds lo hi))) | none => False

/-! ### stores into a list -/
def rdSt (x y v : D) (M : Mem) (k : Mem → Prop) : Prop := match x, y with
  | .cel a, .int i => (match M a with
    | some (.lst ds) => (match ixN ds.length i with | some j => k (setM M a (.lst (ds.set j v))) | none => False)
    | _ => False)
  | _, _ => False
def wSub (wa wi wv : WE) : WS := fun k Γ M => wv Γ M fun v M1 => wa Γ M1 fun x M2 => wi Γ M2 fun y M3 => rdSt x y v M3 (k.nx Γ)
theorem ds_sub {o i v : Expr} {wa wi wv : WE} {pos' pos : Pos} (ho : DE X o wa) (hi : DE X i wi) (hv : DE X v wv)
    (ha : ∀ v, assign (.Subscript o i pos') X.env v = (do
      let ov ← holding [v] (eval o X.env)
      let iv ← holding [v, ov] (eval i X.env)
      standAt pos'
      holding [v, ov, iv] (setItem ov iv v)
      release [v, ov, iv] []) := by intro _; rfl) (hs : swapsWithSole [.Subscript o i pos'] v pos.line X.env = pure false := by rfl) (hw : swappedStores [.Subscript o i pos'] v X.env = pure none := by rfl)
    (h1 : (assignEach [.Subscript o i pos'] X.env).map (·.2) = [assign (.Subscript o i pos') X.env] := by rfl) : DS X (.Assign [.Subscript o i pos'] v pos) (wSub wa wi wv) :=
  ds_of (ps_asg hv.run (pg_sub ho.run hi.run set_list ha) hs hw h1) fun D σ H Γ Fr H0 M k h1 h2 h3 h4 => by
    refine ⟨Γ, Fr, H0, M, _, h1, h2, h3, fun v H1 H' d M' e1 w1 r1 q1 => ?_⟩
    refine ⟨Γ, Fr, H1, M', _, h1.mono e1, w1, q1, fun x H2 H'' dx M2 e2 w2 r2 q2 => ?_⟩
    refine ⟨Γ, Fr, H2, M2, _, h1.mono (e1.trans e2), w2, q2, fun y H3 H''' dy M3 e3 w3 r3 q3 => ?_⟩
    unfold rdSt at q3
    split at q3
    · rename_i a i
      split at q3
      · rename_i ds e
        split at q3
        · rename_i j ej
          obtain ⟨_, o, ho, ck⟩ := w3.mem a _ e
          cases ck with
          | lst hd =>
            cases r2; cases r3
            refine ⟨a, _, i, j, rfl, rfl, ho, by rw [hd.length]; exact ej, ?_⟩
            exact h4.nx σ H3 _ Γ _ ((e1.trans e2).trans e3) (h1.mono ((e1.trans e2).trans e3)) (w3.set e (.lst (hd.set (r1.mono (e2.trans e3)) j))) q3
        · exact q3.elim
      · exact q3.elim
    · exact q3.elim

/-! ### methods of lists -/
def MtD (K : PySem.W.Frag) (r : V → List V → Hp → VK → Prop) (rd : D → List D → Mem → KD → Prop) : Prop :=
  ∀ Fr H0 M H v d vs ds k Q, Wd K Fr H0 M H → Dat K H0 v d → Dats K H0 vs ds → rd d ds M k → Cont K Fr H0 k Q → r v vs H Q
def isCel (M : Mem) : D → Prop | .cel a => ∃ ds, M a = some (.lst ds) | _ => False
def wMt (rd : D → List D → Mem → KD → Prop) (wo : WE) (wa : WA) : WE := fun Γ M k => wo Γ M fun d M1 => isCel M1 d ∧ wa Γ M1 fun ds M2 => rd d ds M2 k
theorem de_mt {o : Expr} {name : Str} {id : String} {apos cpos : Pos} {wo : WE} {wa : WA} {r : V → List V → Hp → VK → Prop} {rd : D → List D → Mem → KD → Prop} (slot : Slot "list" name id) (hty : typeOf (.builtin id) = pure (.type "method_descriptor")) (hm : MtR X id r) (hd : MtD X.K r rd) (ho : DE X o wo) (ha : DA X (e :: es) wa)
    (hbase : attributeBase o name X.env (eval o X.env) = eval o X.env := by rfl)
    (hfew : ((backTo cpos (starEach (e :: es) X.env)).all (fun x => !x.1) && (backToKw cpos (keywordEach [] X.env)).all (fun x => x.1.isSome)
      && decide ((e :: es).length + ([] : List Keyword).length + (if ([] : List Keyword).isEmpty then 0 else 1) < 30)) = true := by rfl)
    (hline : (apos.endLine == cpos.line) = true := by rfl) (hs : starEach (e :: es) X.env = (false, eval e X.env) :: starEach es X.env := by rfl) (hplain : (backTo cpos (starEach es X.env)).any (·.1) = false := by rfl) :
    DE X (.Call (.Attribute o name apos) (e :: es) [] cpos) (wMt rd wo wa) :=
  de_of (pe_bm PySem.F.plainAttrs_list slot hty hm ho.run ha.run hbase hfew hline hs hplain) fun σ H Q Γ Fr H0 M k h1 h2 h3 h4 => by
    refine ⟨Γ, Fr, H0, M, _, h1, h2, h3, fun v H1 H' d M' e1 w1 r1 q1 => ?_⟩
    obtain ⟨qc, q1⟩ := q1
    refine ⟨?_, Γ, Fr, H1, M', _, h1.mono e1, w1, q1, fun vs H2 H'' ds M2 e2 w2 r2 q2 => hd Fr H2 M2 H'' v d vs ds k Q w2 (r1.mono e2) r2 q2 (h4.mono (e1.trans e2))⟩
    cases d with
    | cel a =>
      obtain ⟨ds, hc⟩ := qc
      obtain ⟨a', vs, e3, e4, e5⟩ := asL_ok (ds := ds) w1 r1 (by unfold asL; simp only [hc])
      subst e3
      exact .inl ⟨rfl, _, .of e4⟩
    | _ => exact qc.elim
theorem de_mt0 {o : Expr} {name : Str} {id : String} {apos cpos : Pos} {wo : WE} {r : V → List V → Hp → VK → Prop} {rd : D → List D → Mem → KD → Prop} (slot : Slot "list" name id) (hty : typeOf (.builtin id) = pure (.type "method_descriptor")) (hm : MtR X id r) (hd : MtD X.K r rd) (ho : DE X o wo)
    (hbase : attributeBase o name X.env (eval o X.env) = eval o X.env := by rfl) (hline : (apos.endLine == cpos.line) = true := by rfl) : DE X (.Call (.Attribute o name apos) [] [] cpos) (wMt rd wo wNil) :=
  de_of (pe_bm0 PySem.F.plainAttrs_list slot hty hm ho.run hbase hline) fun σ H Q Γ Fr H0 M k h1 h2 h3 h4 => by
    refine ⟨Γ, Fr, H0, M, _, h1, h2, h3, fun v H1 H' d M' e1 w1 r1 q1 => ?_⟩
    obtain ⟨qc, q1⟩ := q1
    refine ⟨?_, hd Fr H1 M' H' v d [] [] k Q w1 r1 .nil q1 (h4.mono e1)⟩
    cases d with
    | cel a =>
      obtain ⟨ds, hc⟩ := qc
      obtain ⟨a', vs, e3, e4, e5⟩ := asL_ok (ds := ds) w1 r1 (by unfold asL; simp only [hc])
      subst e3
      exact .inl ⟨rfl, _, .of e4⟩
    | _ => exact qc.elim
def rdAppend : D → List D → Mem → KD → Prop := fun x ds M k => match x, ds with
  | .cel a, [y] => (match M a with | some (.lst xs) => xs.length < sizeLine ∧ k .non (setM M a (.lst (xs ++ [y]))) | _ => False)
  | _, _ => False
theorem mtd_append : MtD K rAppend rdAppend := fun Fr H0 M H v d vs ds k Q w r rs h c => by
  cases d with
  | cel a =>
    match ds, rs, h with
    | [y], rs, h =>
      simp only [rdAppend] at h
      split at h
      · rename_i xs e
        obtain ⟨u, rfl, ru⟩ := dats1 rs
        obtain ⟨_, o, ho, ck⟩ := w.mem a _ e
        cases ck with
        | lst hd => cases r; exact ⟨a, _, u, rfl, rfl, ho, by rw [hd.length]; exact h.1, c _ H0 _ _ _ (Same.refl _) (w.set e (.lst (hd.append (.one ru)))) .non h.2⟩
      · exact h.elim
  | _ => exact h.elim
theorem de_append {o : Expr} {apos cpos : Pos} {wo we : WE} (ho : DE X o wo) (he : DE X e we)
    (hs : starEach [e] X.env = [(false, eval e X.env)] := by rfl)
    (hbase : attributeBase o "append" X.env (eval o X.env) = eval o X.env := by rfl)
    (hfew : ((backTo cpos (starEach [e] X.env)).all (fun x => !x.1) && (backToKw cpos (keywordEach [] X.env)).all (fun x => x.1.isSome)
      && decide ([e].length + ([] : List Keyword).length + (if ([] : List Keyword).isEmpty then 0 else 1) < 30)) = true := by rfl)
    (hline : (apos.endLine == cpos.line) = true := by rfl) (hplain : (backTo cpos (starEach [] X.env)).any (·.1) = false := by rfl) : DE X (.Call (.Attribute o "append" apos) [e] [] cpos) (wMt rdAppend wo (wCons we wNil)) :=
  de_mt PySem.F.slot_list_append PySem.F.type_list_append mt_append mtd_append ho (da_cons he da_nil hs) hbase hfew hline hs hplain
def rdPop : D → List D → Mem → KD → Prop := fun x ds M k => match x, ds with
  | .cel a, [] => (match M a with | some (.lst xs) => (match xs[xs.length - 1]? with | some y => k y (setM M a (.lst xs.dropLast)) | none => False) | _ => False)
  | _, _ => False
theorem mtd_pop : MtD K rPop rdPop := fun Fr H0 M H v d vs ds k Q w r rs h c => by
  cases d with
  | cel a =>
    match ds, rs, h with
    | [], rs, h =>
      simp only [rdPop] at h
      split at h
      · rename_i xs e
        split at h
        · rename_i y ey
          cases rs
          obtain ⟨_, o, ho, ck⟩ := w.mem a _ e
          cases ck with
          | lst hd =>
            cases r
            obtain ⟨u, e1, ru⟩ := hd.get ey
            exact ⟨a, _, u, rfl, rfl, ho, by rw [hd.length]; exact e1, c _ H0 _ _ _ (Same.refl _) (w.set e (.lst hd.dropLast)) ru h⟩
        · exact h.elim
      · exact h.elim
  | _ => exact h.elim
theorem de_pop {o : Expr} {apos cpos : Pos} {wo : WE} (ho : DE X o wo) (hbase : attributeBase o "pop" X.env (eval o X.env) = eval o X.env := by rfl) (hline : (apos.endLine == cpos.line) = true := by rfl) : DE X (.Call (.Attribute o "pop" apos) [] [] cpos) (wMt rdPop wo wNil) :=
  de_mt0 PySem.F.slot_list_pop PySem.F.type_list_pop mt_pop mtd_pop ho hbase hline
def rdPopAt : D → List D → Mem → KD → Prop := fun x ds M k => match x, ds with
  | .cel a, [.int i] => (match M a with
    | some (.lst xs) => (-(2 ^ 63) ≤ i ∧ i < 2 ^ 63) ∧ (match seqIndex? i xs.length with
      | some j => (match xs[j]? with | some y => k y (setM M a (.lst (xs.eraseIdx j))) | none => False)
      | none => False)
    | _ => False)
  | _, _ => False
theorem mtd_popAt : MtD K rPopAt rdPopAt := fun Fr H0 M H v d vs ds k Q w r rs h c => by
  cases d with
  | cel a =>
    match ds, rs, h with
    | [.int i], rs, h =>
      simp only [rdPopAt] at h
      split at h
      · rename_i xs e
        obtain ⟨hb, h⟩ := h
        split at h
        · rename_i j ej
          split at h
          · rename_i y ey
            obtain ⟨u, rfl, ru⟩ := dats1 rs
            cases ru
            obtain ⟨_, o, ho, ck⟩ := w.mem a _ e
            cases ck with
            | lst hd =>
              cases r
              obtain ⟨u, e1, ru⟩ := hd.get ey
              exact ⟨a, _, i, j, u, rfl, rfl, ho, hb.1, hb.2, by rw [hd.length]; exact ej, e1, c _ H0 _ _ _ (Same.refl _) (w.set e (.lst (hd.eraseIdx j))) ru h⟩
          · exact h.elim
        · exact h.elim
      · exact h.elim
  | _ => exact h.elim
theorem de_popAt {o : Expr} {apos cpos : Pos} {wo we : WE} (ho : DE X o wo) (he : DE X e we)
    (hs : starEach [e] X.env = [(false, eval e X.env)] := by rfl)
    (hbase : attributeBase o "pop" X.env (eval o X.env) = eval o X.env := by rfl)
    (hfew : ((backTo cpos (starEach [e] X.env)).all (fun x => !x.1) && (backToKw cpos (keywordEach [] X.env)).all (fun x => x.1.isSome)
      && decide ([e].length + ([] : List Keyword).length + (if ([] : List Keyword).isEmpty then 0 else 1) < 30)) = true := by rfl)
    (hline : (apos.endLine == cpos.line) = true := by rfl) (hplain : (backTo cpos (starEach [] X.env)).any (·.1) = false := by rfl) : DE X (.Call (.Attribute o "pop" apos) [e] [] cpos) (wMt rdPopAt wo (wCons we wNil)) :=
  de_mt PySem.F.slot_list_pop PySem.F.type_list_pop mt_popAt mtd_popAt ho (da_cons he da_nil hs) hbase hfew hline hs hplain
/-- sep.join(texts) -/
def strsD : List D → Option (List Str)
  | [] => some []
  | .str s :: ds => match strsD ds with | some l => some (s :: l) | none => none
  | _ => none
theorem strsD_ok {H : Hp} : ∀ {ds : List D} {vs : List V} {l : List Str}, Dats K H vs ds → strsD ds = some l → vs = l.map V.str
  | [], _, _, .nil, e => by cases e; rfl
  | .str s :: ds, _, _, .cons h hs, e => by
    unfold strsD at e
    split at e
    · rename_i l q; cases e; cases h; rw [strsD_ok hs q]; rfl
    · cases e
  | .non :: _, _, _, _, e => by cases e
  | .bl _ :: _, _, _, _, e => by cases e
  | .int _ :: _, _, _, _, e => by cases e
  | .tup _ :: _, _, _, _, e => by cases e
  | .lst _ :: _, _, _, _, e => by cases e
  | .scr _ :: _, _, _, _, e => by cases e
  | .cel _ :: _, _, _, _, e => by cases e
  | .ty _ :: _, _, _, _, e => by cases e
def wJoin (wo we : WE) : WE := fun Γ M k => wo Γ M fun x M1 => match x with
  | .str a => we Γ M1 fun y M2 => (match seqD M2 y with
    | some ds => (match strsD ds with | some l => (l.map (·.length)).sum + l.length * a.length ≤ 16777216 ∧ k (.str (Txt.join a l)) M2 | none => False)
    | none => False)
  | _ => False
theorem de_join {o : Expr} {wo we : WE} {apos pos : Pos} (ho : DE X o wo) (he : DE X e we) (hs : starEach [e] X.env = [(false, eval e X.env)] := by rfl) (hbase : attributeBase o "join" X.env (eval o X.env) = eval o X.env := by rfl) (hline : (apos.endLine == pos.line) = true := by rfl) :
    DE X (.Call (.Attribute o "join" apos) [e] [] pos) (wJoin wo we) :=
  de_of (pe_join ho.run he.run hs hbase hline) fun σ H Q Γ Fr H0 M k h1 h2 h3 h4 => by
    refine ⟨Γ, Fr, H0, M, _, h1, h2, h3, fun v H1 H' d M' e1 w1 r1 q1 => ?_⟩
    split at q1
    · rename_i a
      cases r1
      refine ⟨⟨a, rfl⟩, Γ, Fr, H1, M', _, h1.mono e1, w1, q1, fun y H2 H'' dy M2 e2 w2 r2 q2 => ?_⟩
      split at q2
      · rename_i ds ed
        split at q2
        · rename_i l el
          obtain ⟨p, vs, rfl, hs, hd⟩ := seqD_ok w2 r2 ed
          have := strsD_ok hd el
          subst this
          exact ⟨a, p, l, rfl, rfl, hs, q2.1, h4 _ H2 H'' _ M2 (e1.trans e2) w2 (.str _) q2.2⟩
        · exact q2.elim
      · exact q2.elim
    · exact q1.elim

/-! ### built-ins -/
def rdLen : FD := fun ds M k => match ds with
  | [.str z] => z.length ≤ sizeLine ∧ k (.int z.length) M
  | [x] => (match seqD M x with | some xs => k (.int xs.length) M | none => False)
  | _ => False
theorem one_of {vs : List V} {ds : List D} {H : Hp} (r : Dats K H vs ds) {d : D} (e : ds = [d]) : ∃ v, vs = [v] ∧ Dat K H v d := by subst e; exact dats1 r
theorem calld_len : CallD K (fun xs H Q => (∃ z, xs = [V.str z] ∧ z.length ≤ sizeLine ∧ Q (.int z.length) H) ∨ ∃ p ys, xs = [V.ref p] ∧ (SqL K H p ys ∨ SqT K H p ys) ∧ Q (.int ys.length) H) rdLen := fun Fr H0 M H vs ds k Q w r h c => by
  unfold rdLen at h
  split at h
  · obtain ⟨v, rfl, rv⟩ := dats1 r
    cases rv
    exact .inl ⟨_, rfl, h.1, c _ H0 H _ M (Same.refl _) w (.int _) h.2⟩
  · obtain ⟨v, rfl, rv⟩ := dats1 r
    split at h
    · rename_i xs e
      obtain ⟨a, ws, rfl, hs, hd⟩ := seqD_ok w rv e
      exact .inr ⟨a, ws, rfl, hs, by rw [hd.length]; exact c _ H0 H _ M (Same.refl _) w (.int _) h⟩
    · exact h.elim
  · exact h.elim
theorem de_len {we : WE} {p pos : Pos} (hm : X.mg "len" = none) (he : DE X e we) (hs : starEach [e] X.env = (false, eval e X.env) :: starEach [] X.env := by rfl) (hg : Gl X "len" := by rfl) (hpl : (backTo pos (starEach [] X.env)).any (·.1) = false := by rfl) : DE X (.Call (.Name "len" p) [e] [] pos) (wCall rdLen (wCons we wNil)) :=
  de_callB (call_len_str.or call_len_seq) calld_len hm PySem.boot_len (da_cons he da_nil hs) hg (by decide) (by decide) hs hpl
/-- type(x) -/
def tyD (M : Mem) : D → Option String
  | .non => some "NoneType"
  | .bl _ => some "bool"
  | .int _ => some "int"
  | .str _ => some "str"
  | .tup _ => some "tuple"
  | .lst _ => some "list"
  | .scr _ => some "list"
  | .cel a => (match M a with | some (.lst _) => some "list" | some (.dct _) => some "dict" | _ => none)
  | .ty _ => none
theorem tyB_ok {Fr H0 H : Hp} {M : Mem} {v : V} {d : D} {T : String} (w : Wd K Fr H0 M H) (r : Dat K H0 v d) (e : tyD M d = some T) : TyB K H v T := by
  cases r with
  | cel a =>
    unfold tyD at e
    simp only at e
    split at e
    · rename_i ds q
      cases e
      obtain ⟨_, o, ho, ck⟩ := w.mem a _ q
      cases ck with | lst hd => exact .lst (.of ho)
    · rename_i kvs q
      cases e
      obtain ⟨_, o, ho, ck⟩ := w.mem a _ q
      cases ck with | dct hd => exact .dK ho
    · cases e
  | non => cases e; exact .non
  | bl b => cases e; exact .bl b
  | int b => cases e; exact .int b
  | str b => cases e; exact .str b
  | tup hs hd => cases e; exact .tup (same_t w.ex hs)
  | lst hs hd => cases e; exact .lst (.of (w.ex _ _ hs))
  | scr hs hd => cases e; exact .lst (same_l w.ex hs)
  | ty n => cases e
def rdType : FD := fun ds M k => match ds with | [x] => (match tyD M x with | some T => k (.ty T) M | none => False) | _ => False
theorem calld_type : CallD K (rTyp K) rdType := fun Fr H0 M H vs ds k Q w r h c => by
  unfold rdType at h
  split at h
  · obtain ⟨v, rfl, rv⟩ := dats1 r
    split at h
    · rename_i T e
      exact ⟨v, T, rfl, tyB_ok w rv e, c _ H0 H _ M (Same.refl _) w (.ty T) h⟩
    · exact h.elim
  · exact h.elim
theorem de_type {we : WE} {p pos : Pos} (hm : X.mg "type" = none) (he : DE X e we) (hs : starEach [e] X.env = (false, eval e X.env) :: starEach [] X.env := by rfl) (hg : Gl X "type" := by rfl) (hpl : (backTo pos (starEach [] X.env)).any (·.1) = false := by rfl) : DE X (.Call (.Name "type" p) [e] [] pos) (wCall rdType (wCons we wNil)) :=
  de_callTy call_type1 calld_type hm PyProof.Rows.boot_type (da_cons he da_nil hs) hg (by decide) (by decide) hs hpl
/-- isinstance(x, T), T a built-in class -/
def isiB (a b : String) : Bool := a == b || (a == "bool" && b == "int")
def rdIsi : FD := fun ds M k => match ds with
  | [x, .ty T] => (match tyD M x with | some S => (["bool", "int", "str", "tuple", "list"].contains T = true ∧ k (.bl (isiB S T)) M) | none => False)
  | _ => False
end
end DL

set_option autoImplicit false
set_option maxRecDepth 100000
namespace DL
open PySem PySem.Spec PyProof.Rows L2
open Sem (wp)
set_option maxHeartbeats 2000000
theorem enum_new1 {v : Value} {o : Obj} {C : Heap → Prop} (B : Begins v o C) :
    Meets (Builtin.«enumerate.__new__» ⟨[.type "enumerate", v], []⟩) (fun _ R s => C s.heap ∧
      R (.ok (.ret (.ref (s.heap.push o).objs.size)))
        { s with heap := (s.heap.push o).push { cls := .type "enumerate", data := .fields #[.none, .bool false, .ref s.heap.objs.size, rawInt 0, .none, .none] } }) :=
  .of_wp fun prog w A R s h => by
    obtain ⟨hp, g, d, tk, os⟩ := s
    obtain ⟨h1, h⟩ := h
    have hsub := sub_enumerate
    have q1 : ∀ {A' : Around} {E : Value → Shared → Prop} {Q : Value → Shared → Prop}, Q (.ref hp.objs.size) ⟨hp.push o, g, d, tk, os⟩ →
        wpAny (model prog w) A' (pyIter v) Q E ⟨hp, g, d, tk, os⟩ := fun q => B.iter prog w _ _ ⟨hp, g, d, tk, os⟩ _ h1 q
    wp_walk using q1
    refine wpAny_stack_any fun st => wpAny_pure ?_
    split
    · rename_i c _ _ _ _ _
      cases (c == Value.type "enumerate") <;> (wp_walk using q1; exact ⟨_, rfl, h⟩)
    · (wp_walk using q1; exact ⟨_, rfl, h⟩)
section
variable {prog : Program} {w : World} {A : Around} {E : Value → Shared → Prop} {s : Shared}
theorem enum_of {v : Value} {o : Obj} {C : Heap → Prop} {Q : Value → Shared → Prop} (B : Begins v o C) (h1 : C s.heap)
    (h : ∀ h', IsEnum h' (s.heap.objs.size + 1) s.heap.objs.size 0 .none → h'.get? s.heap.objs.size = some o → h'.objs.size = s.heap.objs.size + 2 →
      (∀ b u, s.heap.get? b = some u → h'.get? b = some u) → Q (.ref (s.heap.objs.size + 1)) { s with heap := h' }) :
    wpAny (model prog w) A (call (.type "enumerate") [v]) Q E s := by
  refine callType_new F.called_enumerate (by decide) (F.typeCall_enumerate_1 _) (F.newCall_enumerate_1 _) (fun ob => F.args_object_init_2 ob _) F.entry_enumerate_new (enum_new1 B) ⟨h1, ?_⟩
  have hz : (s.heap.push o).objs.size = s.heap.objs.size + 1 := Heap.size_push ..
  show _ ∧ _
  rw [hz]
  have he : IsEnum ((s.heap.push o).push { cls := .type "enumerate", data := .fields #[.none, .bool false, .ref s.heap.objs.size, rawInt 0, .none, .none] }) (s.heap.objs.size + 1) s.heap.objs.size 0 .none := by
    have q := Heap.get?_push_size (s.heap.push o) (o := { cls := .type "enumerate", data := .fields #[.none, .bool false, .ref s.heap.objs.size, rawInt 0, .none, .none] }) rfl
    rw [hz] at q
    exact q
  exact ⟨⟨_, he, rfl⟩, h _ he (Heap.get?_push_of_some _ (Heap.get?_push_size _ B.free)) (by rw [Heap.size_push, hz]) fun b u x => Heap.get?_push_of_some _ (Heap.get?_push_of_some _ x)⟩
end
/-- the items of the tuple at a, each in a new pair with its place -/
def ItE (K : PySem.W.Frag) (a : Addr) : It where
  go := fun i H => ∃ (xs : List V) (x : V), SqT K H a xs ∧ xs[i]? = some x
  yld := fun i H v H' => ∃ T x, v = V.ref T ∧ H T = none ∧ H' = upd H T (.tup [.int (i : Nat), x]) ∧ ∀ xs, SqT K H a xs → xs[i]? = some x
  stop := fun i H => ∃ xs : List V, SqT K H a xs ∧ xs.length = i
theorem turnE {P : Program} {w : World} {K : PySem.W.Frag} {elts : List Expr} {kk : Nat} {tpos : Pos} (a e it : Addr) :
    Turn P w K (.Tuple elts kk tpos) (ItE K a) [e, it] e (fun i h => (∃ old, IsEnum h e it ((i : Nat) : Int) old) ∧ h.IsTupleIter it a i ∧ e ≠ it ∧ a ≠ it ∧ a ≠ e) where
  mem := List.mem_cons_self
  obj := fun i h st b hb => by
    obtain ⟨⟨old, he⟩, ⟨o, ho, hc, hd⟩, _⟩ := st
    rcases (by simpa using hb : b = e ∨ b = it) with z | z
    · subst z; exact ⟨_, he, fun v q => nomatch q⟩
    · subst z; exact ⟨o, ho, fun v q => (by rw [hd] at q; cases q)⟩
  keep := fun i h h' ⟨⟨old, he⟩, hi, hne⟩ k => ⟨⟨old, k e List.mem_cons_self _ he⟩, hi.at fun o q => k it (by simp) o q, hne⟩
  item := by
    intro X hP hw hK hc i pins s σ H E I hf st hg
    subst hP hw hK
    obtain ⟨⟨old, he⟩, hit, hne, ha1, ha2⟩ := st
    obtain ⟨xs, x, hq, hx⟩ := hg
    obtain ⟨its, rv, p, hz⟩ := I.tuple hq
    have hl := rv.length
    have hi : i < its.toArray.size := by
      have q := (List.getElem?_eq_some_iff.mp hx).1
      rw [List.size_toArray]; omega
    have hel : e < s.heap.objs.size := Heap.lt_size he
    have hil : it < s.heap.objs.size := (by obtain ⟨_, q, _⟩ := hit; exact Heap.lt_size q)
    have D := Draws.tuple (prog := X.prog) (w := X.w) (A := X.A.in1) (I.ok.hd hc) it a ha1 its.toArray
    refine wpAny_pyNext_enum_itemD D he ⟨hit, (show s.heap.IsTuple a its.toArray from p)⟩ hi hne (by simp [hne]; exact fun z => ha2 z.symm) fun u h' tk hu ho hit' hT hsz hk => ?_
    have ru : RelV x u := by
      obtain ⟨u', q1, q2⟩ := rv.get hx
      have q3 : its[i]? = some u := by simpa using hu
      rw [q1] at q3; cases q3; exact q2
    refine ⟨_, rfl, wpAny_letOwnedTupleGo_enum (s := { s with heap := h', toks := tk + 1 }) ho fun h'' he' sb => ?_⟩
    have hT2 : h''.get? s.heap.objs.size = some { cls := .type "tuple", data := .seq #[.int i tk, u] } := (sb.2 _ (Nat.ne_of_gt hel)).trans hT
    have new : ObjOk X.prog X.w (upd H s.heap.objs.size (.tup [.int (i : Nat), x])) h'' s.heap.objs.size (.tup [.int (i : Nat), x]) :=
      ⟨(by show 2 ≤ sizeLine; decide), [.int i tk, u], .cons ⟨_, rfl⟩ (.cons ru .nil), ⟨_, hT2, rfl, _, rfl⟩⟩
    have I1 : Inv X pins σ (upd H s.heap.objs.size (.tup [.int (i : Nat), x])) { s with heap := h'', toks := tk + 1 } :=
      I.turnedNew (t' := tk + 1) (ch := [e, it]) (fun b ob hb q => (sb.2 b (fun z => hb (by simp [z]))).trans (hk b ob (fun z => hb (by simp [z])) (fun z => hb (by simp [z])) q)) hf (Nat.le_refl _) new
    refine ⟨.ref s.heap.objs.size, _, I1, rfl, ⟨_, x, rfl, I.hok.fresh (Nat.le_refl _), rfl, fun ys hy => (by rw [I.tuple_inj hy hq]; exact hx)⟩, ⟨⟨u, ?_⟩, hit'.1.at fun o q => (sb.2 it (Ne.symm hne)).trans q, hne, ha1, ha2⟩, fun b hb => ?_⟩
    · have e1 : ((i + 1 : Nat) : Int) = (i : Int) + 1 := by omega
      rw [e1]; exact he'
    · have hb' : b < s.heap.objs.size := by
        rcases (by simpa using hb : b = e ∨ b = it) with z | z
        · rw [z]; exact hel
        · rw [z]; exact hil
      rw [upd_ne (Nat.ne_of_lt hb')]
      exact (hf b hb).1
  done := by
    intro X hP hw hK hc i pins s σ H E I hf st hg
    subst hP hw hK
    obtain ⟨⟨old, he⟩, hit, hne, ha1, ha2⟩ := st
    obtain ⟨xs, hq, hx⟩ := hg
    obtain ⟨its, rv, p, hz⟩ := I.tuple hq
    obtain ⟨f0, f1, f2, f3, f4, f5⟩ := hf it (by simp)
    have hl := rv.length
    have hn : its.toArray.size = i := (by rw [List.size_toArray]; omega)
    have D := Draws.tuple (prog := X.prog) (w := X.w) (A := X.A.in1) (I.ok.hd hc) it a ha1 its.toArray
    exact wpAny_pyNext_enum_endD D he ⟨(by rw [hn]; exact hit), (show s.heap.IsTuple a its.toArray from p)⟩ fun h' eb => ⟨rfl, I.turned (t' := s.toks) (fun b o hb q => eb b o hb q) f0 f1 f3 f4 f5⟩
  self := fun A i s Q E ⟨⟨_, he⟩, _⟩ h => wpAny_pyIter_enum he h
def iEnumT (K : PySem.W.Frag) (ta : TA) : TI := fun σ H R => ta σ H fun vs H1 => ∃ a xs, vs = [.ref a] ∧ SqT K H1 a xs ∧ R (ItE K a) H1
theorem pi_enumT {X : Cx} {e : Expr} {ta : TA} {p pos tpos : Pos} {elts : List Expr} {kk : Nat} (hg : Gl X "enumerate") (hm : X.mg "enumerate" = none) (ha : PA X [e] ta) (hs : starEach [e] X.env = [(false, eval e X.env)]) :
    PI X (.Tuple elts kk tpos) (.Call (.Name "enumerate" p) [e] [] pos) (iEnumT X.K ta) := by
  refine ⟨fun pins s σ H R I h => Call_ (ld_blt I hg hm boot_enumerate (PyProof.Rows.callWith_type1 (thn (ha.run pos pins s σ H _ I h) fun us s1 ⟨vs, H1, I1, r1, q1⟩ => ?_) hs rfl))⟩
  obtain ⟨a, xs, rfl, hq, q⟩ := q1
  obtain ⟨u, rfl, ru⟩ := vals1 r1
  cases ru
  obtain ⟨its, rv, p', hz⟩ := I1.tuple hq
  have pt : s1.heap.IsTuple a its.toArray := p'
  have al : a < s1.heap.objs.size := p'.lt
  refine enum_of (begins_tuple a its.toArray) pt fun h' he hit hsz hk => wpAny_pyIter_enum he ?_
  refine ⟨s1.heap.objs.size + 1, [s1.heap.objs.size + 1, s1.heap.objs.size], _, _, H1, rfl, I1.kept (t' := s1.toks) hk, turnE a _ _, ⟨⟨.none, he⟩, ⟨_, hit, rfl, rfl⟩, Nat.succ_ne_self _, Nat.ne_of_lt al, Nat.ne_of_lt (Nat.lt_succ_of_lt al)⟩, fun b hb => ?_, q⟩
  have hle : s1.heap.objs.size ≤ b := (by
    rcases (by simpa using hb : b = s1.heap.objs.size + 1 ∨ b = s1.heap.objs.size) with z | z <;> (rw [z]; first | exact Nat.le_refl _ | exact Nat.le_succ _))
  exact I1.fpOk hle (I1.hok.fresh hle)
/-- D-level: enumerate of a tuple or a list -/
def pairsFrom (ds : List D) : List D := ds.zipIdx.map fun (d, i) => .tup [.int (i : Nat), d]
theorem pairsFrom_get {ds : List D} {i : Nat} {d : D} (h : (pairsFrom ds)[i]? = some d) : ∃ x, ds[i]? = some x ∧ d = .tup [.int (i : Nat), x] := by
  unfold pairsFrom at h
  rw [List.getElem?_map, List.getElem?_zipIdx] at h
  cases q : ds[i]? with
  | none => rw [q] at h; cases h
  | some x => rw [q] at h; cases h; exact ⟨x, rfl, by simp⟩
theorem pairsFrom_len (ds : List D) : (pairsFrom ds).length = ds.length := by simp [pairsFrom]
def wiEnT (wa : WA) : WI := fun Γ M k => wa Γ M fun ds M1 => match ds with | [.tup ds] => k (pairsFrom ds) gAny M1 | _ => False
def wiEnL (wa : WA) : WI := fun Γ M k => wa Γ M fun ds M1 => match ds with | [d] => (match asR M1 d with | some ds => k (pairsFrom ds) (gAt d ds) M1 | none => False) | _ => False
theorem new_pair {K : PySem.W.Frag} {Fr H0 H : Hp} {M : Mem} {T : Addr} {x y : V} {c d : D} (w : Wd K Fr H0 M H) (h : H T = none) (rx : Dat K H0 x c) (ry : Dat K H0 y d) :
    ∃ H1, Same H0 H1 ∧ Wd K Fr H1 M (upd H T (.tup [x, y])) ∧ Dat K H1 (.ref T) (.tup [c, d]) :=
  ⟨_, same_new (w.fresh h), w.new h, .tup (.of upd_same) (.cons (rx.mono (same_new (w.fresh h))) (.cons (ry.mono (same_new (w.fresh h))) .nil))⟩
theorem walks_enT {K : PySem.W.Frag} {H0 : Hp} {a : Addr} {vs : List V} {ds : List D} (hs : SqT K H0 a vs) (hd : Dats K H0 vs ds) : Walks K (ItE K a) H0 (pairsFrom ds) gAny := fun Fr H0' M H e w g => by
  have hs' := same_t (e.trans w.ex) hs
  have hl : vs.length = (pairsFrom ds).length := by rw [pairsFrom_len, hd.length]
  refine ⟨fun i hi => ?_, ⟨vs, hs', hl⟩, fun i x H' d hd' y => ?_⟩
  · have h2 : i < vs.length := by omega
    exact ⟨vs, vs[i], hs', by simp [h2]⟩
  · obtain ⟨T, v, rfl, hT, rfl, hy⟩ := y
    obtain ⟨d', e2, rfl⟩ := pairsFrom_get hd'
    obtain ⟨v', e3, r3⟩ := hd.get e2
    have e4 := hy vs hs'
    rw [e3] at e4; cases e4
    exact new_pair w hT (.int _) (r3.mono e)
theorem walks_enL {K : PySem.W.Frag} {H0 : Hp} {a : Addr} {d : D} {ds : List D} (r : Dat K H0 (.ref a) d) : Walks K (Ite K a) H0 (pairsFrom ds) (gAt d ds) := fun Fr H0' M H e w g => by
  obtain ⟨a', vs, ea, hs, hd⟩ := asR_ok w (r.mono e) g
  cases ea
  have hl : vs.length = (pairsFrom ds).length := by rw [pairsFrom_len, hd.length]
  refine ⟨fun i hi => ?_, ⟨vs, hs, by omega⟩, fun i x H' d hd' y => ?_⟩
  · have h2 : i < vs.length := by omega
    exact ⟨vs, vs[i], hs, by simp [h2]⟩
  · obtain ⟨T, v, rfl, hT, rfl, hy⟩ := y
    obtain ⟨d', e2, rfl⟩ := pairsFrom_get hd'
    obtain ⟨v', e3, r3⟩ := hd.get e2
    have e4 := hy vs hs
    rw [e3] at e4; cases e4
    exact new_pair w hT (.int _) r3
section
variable {X : Cx} {e e2 : Expr} {wa : WA} {p pos tpos : Pos} {elts : List Expr} {kk : Nat}
theorem di_enumT (hm : X.mg "enumerate" = none) (ha : DA X [e] wa) (hg : Gl X "enumerate" := by rfl) (hs : starEach [e] X.env = [(false, eval e X.env)] := by rfl) :
    DI X (.Tuple elts kk tpos) (.Call (.Name "enumerate" p) [e] [] pos) (wiEnT wa) :=
  ⟨_, pi_enumT hg hm ha.run hs, fun σ H Γ Fr H0 M k R h1 h2 h3 h4 => ⟨Γ, Fr, H0, M, _, h1, h2, h3, fun vs H1 H' ds M' e1 w1 r1 q1 => by
    split at q1
    · obtain ⟨v, rfl, rv⟩ := dats1 r1
      cases rv with
      | tup hs hd => exact ⟨_, _, rfl, same_t w1.ex hs, h4 _ _ _ H' H1 M' e1 w1 q1 (walks_enT hs hd)⟩
    · exact q1.elim⟩⟩
theorem di_enumL (hm : X.mg "enumerate" = none) (ha : DA X [e] wa) (hg : Gl X "enumerate" := by rfl) (hs : starEach [e] X.env = [(false, eval e X.env)] := by rfl) :
    DI X (.Tuple elts kk tpos) (.Call (.Name "enumerate" p) [e] [] pos) (wiEnL wa) :=
  ⟨_, pi_enum hg hm ha.run hs, fun σ H Γ Fr H0 M k R h1 h2 h3 h4 => ⟨Γ, Fr, H0, M, _, h1, h2, h3, fun vs H1 H' ds M' e1 w1 r1 q1 => by
    split at q1
    · obtain ⟨v, rfl, rv⟩ := dats1 r1
      split at q1
      · rename_i ds ed
        obtain ⟨a, ws, rfl, hs, hd⟩ := asR_ok w1 rv ed
        exact ⟨_, _, rfl, hs, h4 _ _ _ H' H1 M' e1 w1 q1 (walks_enL rv)⟩
      · exact q1.elim
    · exact q1.elim⟩⟩
/-- zip of two tuples, of two lists -/
def zipD (xs ys : List D) : List D := List.zipWith (fun x y => .tup [x, y]) xs ys
theorem zipD_get : ∀ {xs ys : List D} {i : Nat} {d : D}, (zipD xs ys)[i]? = some d → ∃ x y, xs[i]? = some x ∧ ys[i]? = some y ∧ d = .tup [x, y]
  | x :: xs, y :: ys, 0, d, h => by simp [zipD] at h; exact ⟨x, y, rfl, rfl, h.symm⟩
  | x :: xs, y :: ys, i + 1, d, h => by
    obtain ⟨a, b, h1, h2, h3⟩ := zipD_get (xs := xs) (ys := ys) (i := i) (d := d) (by simpa [zipD] using h)
    exact ⟨a, b, by simpa using h1, by simpa using h2, h3⟩
  | [], _, _, _, h => by simp [zipD] at h
  | _ :: _, [], _, _, h => by simp [zipD] at h
theorem zipD_len (xs ys : List D) : (zipD xs ys).length = min xs.length ys.length := by simp [zipD]
def wiZip (wa : WA) : WI := fun Γ M k => wa Γ M fun ds M1 => match ds with
  | [.tup xs, .tup ys] => k (zipD xs ys) gAny M1
  | [x, y] => (match asR M1 x, asR M1 y with | some xs, some ys => k (zipD xs ys) (fun M => gAt x xs M ∧ gAt y ys M) M1 | _, _ => False)
  | _ => False
theorem walks_zipT {K : PySem.W.Frag} {H0 : Hp} {a b : Addr} {vs us : List V} {ds es : List D} (hs : SqT K H0 a vs) (hd : Dats K H0 vs ds) (hs2 : SqT K H0 b us) (hd2 : Dats K H0 us es) : Walks K (RZ.ItzT K a b) H0 (zipD ds es) gAny := fun Fr H0' M H e w g => by
  have k1 := same_t (e.trans w.ex) hs
  have k2 := same_t (e.trans w.ex) hs2
  have l1 := hd.length
  have l2 := hd2.length
  have hl := zipD_len ds es
  refine ⟨fun i hi => ?_, ⟨vs, us, k1, k2, by omega⟩, fun i x H' d hd' y => ?_⟩
  · have q1 : i < vs.length := by omega
    have q2 : i < us.length := by omega
    exact ⟨vs, us, vs[i], us[i], k1, k2, by simp [q1], by simp [q2]⟩
  · obtain ⟨T, v, u, rfl, hT, rfl, hy, hy2⟩ := y
    obtain ⟨d1, d2, e2, e3, rfl⟩ := zipD_get hd'
    obtain ⟨v', e4, r4⟩ := hd.get e2
    obtain ⟨u', e5, r5⟩ := hd2.get e3
    have e6 := hy vs k1
    have e7 := hy2 us k2
    rw [e4] at e6; cases e6
    rw [e5] at e7; cases e7
    exact new_pair w hT (r4.mono e) (r5.mono e)
theorem walks_zipL {K : PySem.W.Frag} {H0 : Hp} {a b : Addr} {x y : D} {ds es : List D} (r1 : Dat K H0 (.ref a) x) (r2 : Dat K H0 (.ref b) y) : Walks K (Itz K a b) H0 (zipD ds es) (fun M => gAt x ds M ∧ gAt y es M) := fun Fr H0' M H e w g => by
  obtain ⟨a', vs, ea, k1, hd⟩ := asR_ok w (r1.mono e) g.1
  obtain ⟨b', us, eb, k2, hd2⟩ := asR_ok w (r2.mono e) g.2
  cases ea
  cases eb
  have l1 := hd.length
  have l2 := hd2.length
  have hl := zipD_len ds es
  refine ⟨fun i hi => ?_, ⟨vs, us, k1, k2, by omega⟩, fun i x H' d hd' y => ?_⟩
  · have q1 : i < vs.length := by omega
    have q2 : i < us.length := by omega
    exact ⟨vs, us, vs[i], us[i], k1, k2, by simp [q1], by simp [q2]⟩
  · obtain ⟨T, v, u, rfl, hT, rfl, hy, hy2⟩ := y
    obtain ⟨d1, d2, e2, e3, rfl⟩ := zipD_get hd'
    obtain ⟨v', e4, r4⟩ := hd.get e2
    obtain ⟨u', e5, r5⟩ := hd2.get e3
    have e6 := hy vs k1
    have e7 := hy2 us k2
    rw [e4] at e6; cases e6
    rw [e5] at e7; cases e7
    exact new_pair w hT r4 r5
theorem di_zip (hm : X.mg "zip" = none) (ha : DA X [e, e2] wa) (hg : Gl X "zip" := by rfl) (hs : starEach [e, e2] X.env = (false, eval e X.env) :: starEach [e2] X.env := by rfl) (hpl : (backTo pos (starEach [e2] X.env)).any (·.1) = false := by rfl) :
    DI X (.Tuple elts kk tpos) (.Call (.Name "zip" p) [e, e2] [] pos) (wiZip wa) :=
  ⟨_, RZ.pi_zipA hg hm ha.run hs hpl, fun σ H Γ Fr H0 M k R h1 h2 h3 h4 => ⟨Γ, Fr, H0, M, _, h1, h2, h3, fun vs H1 H' ds M' e1 w1 r1 q1 => by
    split at q1
    · obtain ⟨v, u, rfl, rv, ru⟩ := dats2 r1
      cases rv with
      | tup hs hd =>
        cases ru with
        | tup hs2 hd2 => exact ⟨_, _, _, _, rfl, .inr ⟨same_t w1.ex hs, same_t w1.ex hs2, h4 _ _ _ H' H1 M' e1 w1 q1 (walks_zipT hs hd hs2 hd2)⟩⟩
    · obtain ⟨v, u, rfl, rv, ru⟩ := dats2 r1
      split at q1
      · rename_i xs ys ex ey
        obtain ⟨a, ws, rfl, hs, hd⟩ := asR_ok w1 rv ex
        obtain ⟨b, zs, rfl, hs2, hd2⟩ := asR_ok w1 ru ey
        exact ⟨_, _, _, _, rfl, .inl ⟨hs, hs2, h4 _ _ _ H' H1 M' e1 w1 q1 (walks_zipL rv ru)⟩⟩
      · exact q1.elim
    · exact q1.elim⟩⟩

end
end DL

set_option autoImplicit false
set_option maxRecDepth 100000
namespace DL
open PySem PySem.Spec PyProof.Rows L2
set_option maxHeartbeats 2000000
/-! ### more built-ins -/
def rdIsiA : FD := fun ds M k => match ds with
    | [x, .ty T] => (match tyD M x with | some S => (["bool", "int", "str", "tuple"].contains T = true ∧ (∀ l, x ≠ .scr l) ∧ k (.bl (isiB S T)) M) | none => False)
    | _ => False
theorem calld_isi {K : PySem.W.Frag} : CallD K (rIsi K) rdIsiA := fun Fr H0 M H vs ds k Q w r h c => by
  unfold rdIsiA at h
  split at h
  · obtain ⟨v, u, rfl, rv, ru⟩ := dats2 r
    cases ru
    split at h
    · rename_i T _ S e
      obtain ⟨hT, hx, h⟩ := h
      have kb : ∀ S ∈ ["NoneType", "bool", "int", "str", "tuple", "list", "dict"], ∀ T ∈ ["bool", "int", "str", "tuple"], kitB S T = some (isiB S T) := by decide +kernel
      have hS : S ∈ ["NoneType", "bool", "int", "str", "tuple", "list", "dict"] ∧ TyX K H v (.type S) := by
        cases rv with
        | non => cases e; exact ⟨by decide, .base .non⟩
        | bl b => cases e; exact ⟨by decide, .base (.bl b)⟩
        | int b => cases e; exact ⟨by decide, .base (.int b)⟩
        | str b => cases e; exact ⟨by decide, .base (.str b)⟩
        | tup hs hd =>
          cases e
          refine ⟨by decide, ?_⟩
          rcases hs with (hs | ⟨o, hs⟩) | ⟨o, its, n, h1, h2, _⟩
          · exact .base (.tup (w.ex _ _ hs))
          · exact .fTuple (w.ex _ _ hs)
          · exact .kTuple h1 h2
        | lst hs hd => cases e; exact ⟨by decide, .base (.lst (w.ex _ _ hs))⟩
        | scr hs hd => exact absurd rfl (hx _)
        | cel a =>
          unfold tyD at e
          simp only at e
          split at e
          · rename_i ds q
            cases e
            obtain ⟨_, o, ho, ck⟩ := w.mem a _ q
            cases ck with | lst hd => exact ⟨by decide, .base (.lst ho)⟩
          · rename_i kvs q
            cases e
            obtain ⟨_, o, ho, ck⟩ := w.mem a _ q
            cases ck with | dct hd => exact ⟨by decide, .base (.dK ho)⟩
          · cases e
        | ty n => cases e
      refine ⟨v, .ty T, .type S, .type T, isiB S T, rfl, .ty T, hS.2, kit_ty (kb S hS.1 T (by simpa using hT)), c _ H0 H _ M (Same.refl _) w (.bl _) h⟩
    · exact h.elim
  · exact h.elim
theorem de_isi {X : Cx} {a b : Expr} {wa wb : WE} {p pos : Pos} (hm : X.mg "isinstance" = none) (ha : DE X a wa) (hb : DE X b wb) (hs : starEach [a, b] X.env = (false, eval a X.env) :: starEach [b] X.env := by rfl) (hs2 : starEach [b] X.env = (false, eval b X.env) :: starEach [] X.env := by rfl)
    (hg : Gl X "isinstance" := by rfl) (hpl : (backTo pos (starEach [b] X.env)).any (·.1) = false := by rfl) : DE X (.Call (.Name "isinstance" p) [a, b] [] pos) (wCall rdIsiA (wCons wa (wCons wb wNil))) :=
  de_callB call_isi calld_isi hm PyProof.Rows.boot_isinstance (da_cons ha (da_cons hb da_nil hs2) hs) hg (by decide) (by decide) hs hpl
def boolsD : List D → Option (List Bool)
  | [] => some []
  | .bl b :: ds => match boolsD ds with | some l => some (b :: l) | none => none
  | _ => none
theorem boolsD_ok {K : PySem.W.Frag} {H : Hp} : ∀ {ds : List D} {vs : List V} {l : List Bool}, Dats K H vs ds → boolsD ds = some l → vs = l.map V.bl
  | [], _, _, .nil, e => by cases e; rfl
  | .bl s :: ds, _, _, .cons h hs, e => by
    unfold boolsD at e
    split at e
    · rename_i l q; cases e; cases h; rw [boolsD_ok hs q]; rfl
    · cases e
  | .non :: _, _, _, _, e => by cases e
  | .str _ :: _, _, _, _, e => by cases e
  | .int _ :: _, _, _, _, e => by cases e
  | .tup _ :: _, _, _, _, e => by cases e
  | .lst _ :: _, _, _, _, e => by cases e
  | .scr _ :: _, _, _, _, e => by cases e
  | .cel _ :: _, _, _, _, e => by cases e
  | .ty _ :: _, _, _, _, e => by cases e
def rdAll : FD := fun ds M k => match ds with
  | [x] => (match asR M x with | some xs => (match boolsD xs with | some l => k (.bl (l.all id)) M | none => False) | none => False)
  | _ => False
theorem calld_all {K : PySem.W.Frag} : CallD K (rAll K) rdAll := fun Fr H0 M H vs ds k Q w r h c => by
  unfold rdAll at h
  split at h
  · obtain ⟨v, rfl, rv⟩ := dats1 r
    split at h
    · rename_i xs e
      split at h
      · rename_i l el
        obtain ⟨a, ws, rfl, hs, hd⟩ := asR_ok w rv e
        have := boolsD_ok hd el
        subst this
        exact ⟨a, l, rfl, hs, c _ H0 H _ M (Same.refl _) w (.bl _) h⟩
      · exact h.elim
    · exact h.elim
  · exact h.elim
theorem de_all {X : Cx} {e : Expr} {we : WE} {p pos : Pos} (hc : X.calm = true) (hm : X.mg "all" = none) (he : DE X e we) (hs : starEach [e] X.env = (false, eval e X.env) :: starEach [] X.env := by rfl) (hg : Gl X "all" := by rfl) (hpl : (backTo pos (starEach [] X.env)).any (·.1) = false := by rfl) :
    DE X (.Call (.Name "all" p) [e] [] pos) (wCall rdAll (wCons we wNil)) :=
  de_callB (cr_all hc) calld_all hm PyProof.Rows.boot_all (da_cons he da_nil hs) hg (by decide) (by decide) hs hpl
def rdInt : FD := fun ds M k => match ds with
  | [.int i] => k (.int i) M
  | [.bl b] => k (.int (if b then 1 else 0)) M
  | _ => False
theorem calld_int {K : PySem.W.Frag} : CallD K (fun xs H Q => (∃ i, xs = [V.int i] ∧ Q (.int i) H) ∨ ∃ k, xs = [V.bl k] ∧ Q (.int (if k then 1 else 0)) H) rdInt := fun Fr H0 M H vs ds k Q w r h c => by
  unfold rdInt at h
  split at h
  · obtain ⟨v, rfl, rv⟩ := dats1 r
    cases rv
    exact .inl ⟨_, rfl, c _ H0 H _ M (Same.refl _) w (.int _) h⟩
  · obtain ⟨v, rfl, rv⟩ := dats1 r
    cases rv
    exact .inr ⟨_, rfl, c _ H0 H _ M (Same.refl _) w (.int _) h⟩
  · exact h.elim
theorem de_intof {X : Cx} {e : Expr} {we : WE} {p pos : Pos} (hm : X.mg "int" = none) (he : DE X e we) (hs : starEach [e] X.env = (false, eval e X.env) :: starEach [] X.env := by rfl) (hg : Gl X "int" := by rfl) (hpl : (backTo pos (starEach [] X.env)).any (·.1) = false := by rfl) :
    DE X (.Call (.Name "int" p) [e] [] pos) (wCall rdInt (wCons we wNil)) :=
  de_callTy call_int1 calld_int hm PyProof.Rows.boot_int (da_cons he da_nil hs) hg (by decide) (by decide) hs hpl
/-- tuple(list or tuple) -/
def rdTuple : FD := fun ds M k => match ds with
  | [x] => (match seqD M x with | some xs => k (.tup xs) M | none => False)
  | _ => False
theorem calld_tuple {K : PySem.W.Frag} : CallD K (fun xs H Q => ∃ p ys, xs = [V.ref p] ∧ ((SqL K H p ys ∧ ∀ l, H l = none → Q (.ref l) (upd H l (.tup ys))) ∨ (SqT K H p ys ∧ Q (.ref p) H))) rdTuple := fun Fr H0 M H vs ds k Q w r h c => by
  unfold rdTuple at h
  split at h
  · rename_i x
    obtain ⟨v, rfl, rv⟩ := dats1 r
    split at h
    · rename_i xs e
      cases x with
      | tup xs' =>
        cases e
        cases rv with
        | tup hs hd => exact ⟨_, _, rfl, .inr ⟨same_t w.ex hs, c _ H0 H _ M (Same.refl _) w (.tup hs hd) h⟩⟩
      | _ =>
        obtain ⟨a, ws, rfl, hs, hd⟩ := asR_ok (ds := xs) w rv (by exact e)
        exact ⟨a, ws, rfl, .inl ⟨hs, fun l hl => c _ _ _ _ M (same_new (w.fresh hl)) (w.new hl) (.tup (.of upd_same) (hd.mono (same_new (w.fresh hl)))) h⟩⟩
    · exact h.elim
  · exact h.elim
theorem de_tuple {X : Cx} {e : Expr} {we : WE} {p pos : Pos} (hm : X.mg "tuple" = none) (he : DE X e we) (hs : starEach [e] X.env = (false, eval e X.env) :: starEach [] X.env := by rfl) (hg : Gl X "tuple" := by rfl) (hpl : (backTo pos (starEach [] X.env)).any (·.1) = false := by rfl) :
    DE X (.Call (.Name "tuple" p) [e] [] pos) (wCall rdTuple (wCons we wNil)) :=
  de_callTy call_tuple_of calld_tuple hm PyProof.Rows.boot_tuple (da_cons he da_nil hs) hg (by decide) (by decide) hs hpl
/-- dict(list of pairs): a cell -/
def pairsD : List D → Option (List (Key × D))
  | [] => some []
  | .tup [x, y] :: ds => match keyD x, pairsD ds with | some κ, some l => some ((κ, y) :: l) | _, _ => none
  | _ => none
def putD (kvs : List (Key × D)) (k : Key) (v : D) : List (Key × D) :=
  if (kvs.any fun kv => decide (kv.1 = k)) = true then kvs.map (fun kv => if kv.1 = k then (kv.1, v) else kv) else kvs ++ [(k, v)]
def mergeD (kvs more : List (Key × D)) : List (Key × D) := more.foldl (fun acc kv => putD acc kv.1 kv.2) kvs
theorem paired_append {α β : Type} {F : α → β → Prop} {a c : List α} {b d : List β} (h : Paired F a b) (h' : Paired F c d) : Paired F (a ++ c) (b ++ d) := by
  induction h with
  | nil => exact h'
  | cons r _ ih => exact .cons r ih
theorem paired_map {K : PySem.W.Frag} {H : Hp} {k : Key} {v : V} {d : D} (r : Dat K H v d) {kvs : List (Key × V)} {kds : List (Key × D)} (h : DKs K H kvs kds) :
    DKs K H (kvs.map fun kv => if kv.1 = k then (kv.1, v) else kv) (kds.map fun kv => if kv.1 = k then (kv.1, d) else kv) := by
  induction h with
  | nil => exact .nil
  | cons q t ih =>
    refine .cons ?_ ih
    rename_i a b _ _
    by_cases e : b.1 = k
    · have e' : a.1 = k := q.1.trans e
      simp only [e, e', if_true]
      exact ⟨trivial, r⟩
    · have e' : ¬ a.1 = k := fun z => e (q.1.symm.trans z)
      simp only [e, e', if_false]
      exact q
theorem paired_put {K : PySem.W.Frag} {H : Hp} {kvs : List (Key × V)} {kds : List (Key × D)} (h : DKs K H kvs kds) (k : Key) {v : V} {d : D} (r : Dat K H v d) : DKs K H (putK kvs k v) (putD kds k d) := by
  have e1 : (kvs.any fun kv => decide (kv.1 = k)) = (kds.any fun kv => decide (kv.1 = k)) := by
    induction h with
    | nil => rfl
    | cons q _ ih => rw [List.any_cons, List.any_cons, ih, q.1]
  unfold putK putD
  rw [e1]
  split
  · exact paired_map r h
  · exact paired_append h (.cons ⟨rfl, r⟩ .nil)
theorem paired_merge {K : PySem.W.Frag} {H : Hp} {mv : List (Key × V)} {md : List (Key × D)} (h : DKs K H mv md) : ∀ {kvs : List (Key × V)} {kds : List (Key × D)}, DKs K H kvs kds → DKs K H (mergeK kvs mv) (mergeD kds md) := by
  induction h with
  | nil => exact fun q => q
  | cons r _ ih =>
    intro kvs kds q
    unfold mergeK mergeD
    rw [List.foldl_cons, List.foldl_cons, r.1]
    exact ih (paired_put q _ r.2)
theorem pairsD_ok {K : PySem.W.Frag} {H : Hp} : ∀ {ds : List D} {vs : List V} {l : List (Key × D)}, Dats K H vs ds → pairsD ds = some l → ∃ (ps : List Addr) (kvs : List (Key × V)), vs = ps.map V.ref ∧ Paired (fun p kv => SqT K H p [kV kv.1, kv.2]) ps kvs ∧ DKs K H kvs l
  | [], _, _, .nil, e => by cases e; exact ⟨[], [], rfl, .nil, .nil⟩
  | .tup [x, y] :: ds, _, _, .cons h hs, e => by
    unfold pairsD at e
    split at e
    · rename_i κ l q1 q2
      cases e
      cases h with
      | tup ht hd =>
        obtain ⟨v, u, rfl, rv, ru⟩ := dats2 hd
        have := keyD_ok rv q1
        subst this
        obtain ⟨ps, kvs, rfl, h1, h2⟩ := pairsD_ok hs q2
        exact ⟨_ :: ps, (κ, u) :: kvs, rfl, .cons ht h1, .cons ⟨rfl, ru⟩ h2⟩
    · cases e
  | .tup [] :: _, _, _, _, e => by cases e
  | .tup [_] :: _, _, _, _, e => by cases e
  | .tup (_ :: _ :: _ :: _) :: _, _, _, _, e => by cases e
  | .bl _ :: _, _, _, _, e => by cases e
  | .non :: _, _, _, _, e => by cases e
  | .str _ :: _, _, _, _, e => by cases e
  | .int _ :: _, _, _, _, e => by cases e
  | .lst _ :: _, _, _, _, e => by cases e
  | .scr _ :: _, _, _, _, e => by cases e
  | .cel _ :: _, _, _, _, e => by cases e
  | .ty _ :: _, _, _, _, e => by cases e
def rdDict : FD := fun ds M k => match ds with
  | [x] => (match asR M x with | some xs => (match pairsD xs with | some l => ∀ p, M p = none → k (.cel p) (setM M p (.dct (mergeD [] l))) | none => False) | none => False)
  | _ => False
theorem paired_mono {K : PySem.W.Frag} {H H' : Hp} (e : Same H H') {ps : List Addr} {kvs : List (Key × V)} (h : Paired (fun p kv => SqT K H p [kV kv.1, kv.2]) ps kvs) : Paired (fun p kv => SqT K H' p [kV kv.1, kv.2]) ps kvs :=
  Paired.mapP h fun _ _ q => same_t e q
theorem calld_dict {K : PySem.W.Frag} : CallD K (fun xs H Q => ∃ a ps kvs, xs = [V.ref a] ∧ SqL K H a (List.map V.ref ps) ∧ Paired (fun p kv => SqT K H p [kV kv.fst, kv.snd]) ps kvs ∧ ∀ (p : Addr), H p = none → Q (V.ref p) (upd H p (HO.dK (mergeK [] kvs)))) rdDict := fun Fr H0 M H vs ds k Q w r h c => by
  unfold rdDict at h
  split at h
  · obtain ⟨v, rfl, rv⟩ := dats1 r
    split at h
    · rename_i xs e
      split at h
      · rename_i l el
        obtain ⟨a, ws, rfl, hs, hd⟩ := asR_ok w rv e
        obtain ⟨ps, kvs, rfl, h1, h2⟩ := pairsD_ok hd el
        refine ⟨a, ps, kvs, rfl, hs, paired_mono w.ex h1, fun p hp => ?_⟩
        exact c _ H0 _ _ _ (Same.refl _) (w.newM hp (.dct (paired_merge h2 .nil))) (.cel p) (h p (w.freshM hp))
      · exact h.elim
    · exact h.elim
  · exact h.elim
theorem de_dict {X : Cx} {e : Expr} {we : WE} {p pos : Pos} (hc : X.calm = true) (hm : X.mg "dict" = none) (he : DE X e we) (hs : starEach [e] X.env = (false, eval e X.env) :: starEach [] X.env := by rfl) (hg : Gl X "dict" := by rfl) (hpl : (backTo pos (starEach [] X.env)).any (·.1) = false := by rfl) :
    DE X (.Call (.Name "dict" p) [e] [] pos) (wCall rdDict (wCons we wNil)) :=
  de_callTy (call_dictP hc) calld_dict hm PyProof.Rows.boot_dict (da_cons he da_nil hs) hg (by decide) (by decide) hs hpl
/-- sorted(dict), its keys texts -/
def txtKeys : List (Key × D) → Option (List Str)
  | [] => some []
  | (.inr s, _) :: r => match txtKeys r with | some l => some (s :: l) | none => none
  | (.inl _, _) :: _ => none
theorem txtKeys_ok {K : PySem.W.Frag} {H : Hp} : ∀ {kvs : List (Key × V)} {kds : List (Key × D)} {l : List Str}, DKs K H kvs kds → txtKeys kds = some l → kvs.map (·.1) = l.map Sum.inr
  | _, _, _, .nil, e => by cases e; rfl
  | _, _, _, .cons (b := (.inr s, d)) q t, e => by
    unfold txtKeys at e
    split at e
    · rename_i l q2; cases e; rw [List.map_cons, q.1, txtKeys_ok t q2]; rfl
    · cases e
  | _, _, _, .cons (b := (.inl s, d)) q t, e => by cases e
def rdSortD : FD := fun ds M k => match ds with
  | [.cel a] => (match M a with
    | some (.dct kvs) => (match txtKeys kvs with | some l => l.length < 64 ∧ ∀ ys : List Str, ys.Perm l → sortedS ys = true → k (.lst (ys.map D.str)) M | none => False)
    | _ => False)
  | _ => False
theorem dats_strs {K : PySem.W.Frag} {H : Hp} : ∀ l : List Str, Dats K H (l.map V.str) (l.map D.str)
  | [] => .nil
  | s :: l => .cons (.str s) (dats_strs l)
theorem calld_sortD {K : PySem.W.Frag} : CallD K (fun xs H Q => ∃ (a : Addr) (kvs : List (Key × V)) (ks : List Str), xs = [.ref a] ∧ Rd H a (.dK kvs) ∧ kvs.map (·.1) = ks.map Sum.inr ∧ ks.length < 64 ∧
    ∀ ys p, ys.Perm ks → sortedS ys = true → H p = none → Q (.ref p) (upd H p (.lst (ys.map V.str)))) rdSortD := fun Fr H0 M H vs ds k Q w r h c => by
  unfold rdSortD at h
  split at h
  · obtain ⟨v, rfl, rv⟩ := dats1 r
    cases rv
    split at h
    · rename_i kvs e
      split at h
      · rename_i l el
        obtain ⟨_, o, ho, ck⟩ := w.mem _ _ e
        cases ck with
        | dct hk => exact ⟨_, _, l, rfl, .of ho, txtKeys_ok hk el, h.1, fun ys p hy hsrt hp => c _ _ _ _ M (same_new (w.fresh hp)) (w.new hp) (.lst upd_same (dats_strs ys)) (h.2 ys hy hsrt)⟩
      · exact h.elim
    · exact h.elim
  · exact h.elim
theorem de_sortD {X : Cx} {e : Expr} {we : WE} {p pos : Pos} (hc : X.calm = true) (hm : X.mg "sorted" = none) (he : DE X e we) (hs : starEach [e] X.env = (false, eval e X.env) :: starEach [] X.env := by rfl) (hg : Gl X "sorted" := by rfl) (hpl : (backTo pos (starEach [] X.env)).any (·.1) = false := by rfl) :
    DE X (.Call (.Name "sorted" p) [e] [] pos) (wCall rdSortD (wCons we wNil)) :=
  de_callB (call_sortedD hc) calld_sortD hm PyProof.Rows.boot_sorted (da_cons he da_nil hs) hg (by decide) (by decide) hs hpl
end DL

set_option autoImplicit false
set_option maxRecDepth 100000
namespace DL
open PySem PySem.Spec PyProof.Rows L2
set_option maxHeartbeats 2000000
section
variable {X : Cx} {a b c : Expr} {wa wb wc : WE} {pos : Pos}
/-- a comparison's rule with its reading -/
def CmpD (X : Cx) (op : CmpOp) (rd : D → D → Mem → KD → Prop) : Prop := ∃ r, OpR X (compareOp op) r ∧ OpD X.K r rd
theorem de_cmpA {op : CmpOp} {rd : D → D → Mem → KD → Prop} (h : CmpD X op rd) (ha : DE X a wa) (hb : DE X b wb) (hm : behindInMarks op b = false := by first | exact nomark _ | (with_unfolding_all rfl)) : DE X (.Compare a [op] [b] pos) (wOp rd wa wb) := by
  obtain ⟨r, h1, h2⟩ := h
  exact de_cmp h1 h2 ha hb hm
theorem dt_cmpA {op : CmpOp} {rd : D → D → Mem → KD → Prop} (h : CmpD X op rd) (ha : DE X a wa) (hb : DE X b wb) (hm : behindInMarks op b = false := by first | exact nomark _ | (with_unfolding_all rfl)) : DT X (.Compare a [op] [b] pos) (wTst (wOp rd wa wb)) := by
  obtain ⟨r, h1, h2⟩ := h
  exact dt_cmp h1 h2 ha hb hm
theorem de_chainA {op op' : CmpOp} {rd rd' : D → D → Mem → KD → Prop} (h : CmpD X op rd) (h' : CmpD X op' rd') (ha : DE X a wa) (hb : DE X b wb) (hc : DE X c wc) (hm : lastMarks [op, op'] [b, c] = false := by with_unfolding_all rfl) : DE X (.Compare a [op, op'] [b, c] pos) (wChain rd rd' wa wb wc) := by
  obtain ⟨r, h1, h2⟩ := h
  obtain ⟨r', h3, h4⟩ := h'
  exact de_chain h1 h2 h3 h4 ha hb hc hm
theorem dt_chainA {op op' : CmpOp} {rd rd' : D → D → Mem → KD → Prop} (h : CmpD X op rd) (h' : CmpD X op' rd') (ha : DE X a wa) (hb : DE X b wb) (hc : DE X c wc) (hm : lastMarks [op, op'] [b, c] = false := by with_unfolding_all rfl) : DT X (.Compare a [op, op'] [b, c] pos) (wTst (wChain rd rd' wa wb wc)) := by
  obtain ⟨r, h1, h2⟩ := h
  obtain ⟨r', h3, h4⟩ := h'
  exact dt_chain h1 h2 h3 h4 ha hb hc hm
theorem c_lt : CmpD X .Lt rdLt := op_ltA
theorem c_le : CmpD X .LtE rdLe := op_leA
theorem c_gt : CmpD X .Gt rdGt := op_gtA
theorem c_ge : CmpD X .GtE rdGe := op_geA
theorem c_eq {k : Nat} (hr : DG.RoomG k X.A) : CmpD X .Eq (rdEq id) := ⟨_, op_eq.or (op_eqD hr.r.units), opd_eq⟩
theorem c_ne {k : Nat} (hr : DG.RoomG k X.A) : CmpD X .NotEq (rdEq not) := ⟨_, op_ne.or (op_neD hr.r.units), opd_ne⟩
theorem c_is : CmpD X .Is (rdIs id) := op_isA
theorem c_isn : CmpD X .IsNot (rdIs not) := op_isnA
theorem c_in : CmpD X .In (rdIn id) := ⟨_, op_in_seq, opd_in fun _ => rfl⟩
theorem c_nin : CmpD X .NotIn (rdIn not) := ⟨_, op_notIn_seq, opd_in fun _ => rfl⟩
end
/-- a def of the text: where it stands, how it binds -/
structure Def (K : PySem.W.Frag) (mg : Str → Option Value) (x : Str) (st : Stmt) (ps : List Str) (f : Addr) (fd : FuncData) : Prop where
  F : Fun K x x st f fd
  at_ : mg x = some (.ref f)
  b : Binds K fd ps []
theorem de_own {X : Cx} {F : FD} {f : Addr} {fd : FuncData} {ps : List Str} {x : Str} {st : Stmt} {k j : Nat} {e : Expr} {es : List Expr} {p pos : Pos} {wa : WA} (d : Def X.K X.mg x st ps f fd) (G : DFn X.prog X.w X.K X.mg X.base k f fd ps F) (hr : DG.RoomG j X.A) (hk : k ≤ j)
    (ha : DA X (e :: es) wa) (hg : Gl X x := by rfl) (hdb : (x == ("__debug__" : Str)) = false := by decide) (he : starEach (e :: es) X.env = (false, eval e X.env) :: starEach es X.env := by rfl) (hpl : (backTo pos (starEach es X.env)).any (·.1) = false := by rfl) : DE X (.Call (.Name x p) (e :: es) [] pos) (wCall F wa) :=
  de_call G (hr.mono hk) d.at_ d.F.kp d.b ha hg hdb he hpl
theorem DFn.mono {P : Program} {w : World} {K : PySem.W.Frag} {mg : Str → Option Value} {base : Heap} {j k : Nat} {f : Addr} {fd : FuncData} {ps : List Str} {F : FD} (G : DFn P w K mg base j f fd ps F) (h : j ≤ k) : DFn P w K mg base k f fd ps F := DG.FnG.mono G h
/-- a weaker wish -/
theorem DFn.weak {P : Program} {w : World} {K : PySem.W.Frag} {mg : Str → Option Value} {base : Heap} {k : Nat} {f : Addr} {fd : FuncData} {ps : List Str} {F F' : FD} (G : DFn P w K mg base k f fd ps F) (h : ∀ ds M kd, F' ds M kd → F ds M kd) : DFn P w K mg base k f fd ps F' :=
  DG.FnG.imp G fun vs H Q E ⟨Fr, H0, M, ds, kd, h1, h2, h3, h4⟩ => ⟨Fr, H0, M, ds, kd, h1, h2, h ds M kd h3, h4⟩
end DL

set_option autoImplicit false
set_option maxRecDepth 100000
namespace DL
open PySem L2
set_option maxHeartbeats 2000000
/-- a comprehension whose element is a function of the item -/
theorem lc_map {gd : D → Env → Option Env} {we : WE} {G : Mem → Prop} {Γ : Env} (f : D → D) {M : Mem} (hG : G M) : ∀ (its acc : List D) (k : List D → Mem → Prop),
    (∀ d ∈ its, ∃ Γ', gd d Γ = some Γ' ∧ ∀ k : KD, k (f d) M → we Γ' M k) → acc.length + its.length ≤ sizeLine → k (acc ++ its.map f) M → lcD gd wYes we G Γ its acc M k
  | [], acc, k, _, _, h => ⟨hG, by simpa using h⟩
  | d :: ds, acc, k, hf, hl, h => by
    obtain ⟨Γ', e, q⟩ := hf d List.mem_cons_self
    refine ⟨hG, ?_⟩
    rw [e]
    simp only [List.length_cons] at hl
    simp only [wYes, if_true]
    refine q _ ⟨by omega, lc_map f hG ds _ k (fun d hd => hf d (List.mem_cons_of_mem _ hd)) (by simp; omega) (by simpa using h)⟩
/-- .. with a test -/
theorem lc_filter {gd : D → Env → Option Env} {wt : WT} {we : WE} {G : Mem → Prop} {Γ : Env} (p : D → Bool) (f : D → D) {M : Mem} (hG : G M) : ∀ (its acc : List D) (k : List D → Mem → Prop),
    (∀ d ∈ its, ∃ Γ', gd d Γ = some Γ' ∧ (∀ k : Bool → Mem → Prop, k (p d) M → wt Γ' M k) ∧ (p d = true → ∀ k : KD, k (f d) M → we Γ' M k)) → acc.length + its.length ≤ sizeLine → k (acc ++ (its.filter p).map f) M → lcD gd wt we G Γ its acc M k
  | [], acc, k, _, _, h => ⟨hG, by simpa using h⟩
  | d :: ds, acc, k, hf, hl, h => by
    obtain ⟨Γ', e, q1, q2⟩ := hf d List.mem_cons_self
    refine ⟨hG, ?_⟩
    rw [e]
    refine q1 _ ?_
    simp only [List.length_cons] at hl
    cases hp : p d with
    | true =>
      rw [if_pos rfl]
      rw [List.filter_cons_of_pos hp] at h
      exact q2 hp _ ⟨by omega, lc_filter p f hG ds _ k (fun d hd => hf d (List.mem_cons_of_mem _ hd)) (by simp; omega) (by simpa using h)⟩
    | false =>
      rw [if_neg Bool.false_ne_true]
      rw [List.filter_cons_of_neg (by simp [hp])] at h
      exact lc_filter p f hG ds _ k (fun d hd => hf d (List.mem_cons_of_mem _ hd)) (by omega) h
/-- .. by an invariant -/
theorem lc_inv {gd : D → Env → Option Env} {wt : WT} {we : WE} {G : Mem → Prop} {Γ : Env} {k : List D → Mem → Prop} (I : List D → List D → Mem → Prop) (hG : ∀ ds acc M, I ds acc M → G M) (h0 : ∀ acc M, I [] acc M → k acc M)
    (hs : ∀ d ds acc M, I (d :: ds) acc M → ∃ Γ', gd d Γ = some Γ' ∧ ∀ (ky : KD) (kn : Mem → Prop), (∀ y M2, acc.length < sizeLine → I ds (acc ++ [y]) M2 → ky y M2) → (∀ M2, I ds acc M2 → kn M2) → wt Γ' M fun b M1 => if b = true then we Γ' M1 ky else kn M1)
    (hl : ∀ ds acc M, I ds acc M → acc.length + ds.length ≤ sizeLine) : ∀ its acc M, I its acc M → lcD gd wt we G Γ its acc M k
  | [], acc, M, h => ⟨hG _ _ _ h, h0 acc M h⟩
  | d :: ds, acc, M, h => by
    refine ⟨hG _ _ _ h, ?_⟩
    obtain ⟨Γ', e, q⟩ := hs d ds acc M h
    rw [e]
    refine q (fun y M2 => acc.length < sizeLine ∧ lcD gd wt we G Γ ds (acc ++ [y]) M2 k) _ (fun y M2 hlt i => ⟨hlt, lc_inv I hG h0 hs hl ds _ M2 i⟩) (fun M2 i => lc_inv I hG h0 hs hl ds acc M2 i)

theorem strOk_lit {s : String} (h : PyData.strOk (Str.ofString s) = true) : PyData.strOk (Str.ofString s) = true := h
theorem shaped_str {s : Str} (h : PyData.strOk s = true) : SeqAt.shaped (.str s) = true := by
  unfold SeqAt.shaped PyData.canLay0 PyData.depth
  rw [h]; rfl
theorem shaped_int {i : Int} : SeqAt.shaped (.int i) = true := by
  unfold SeqAt.shaped PyData.canLay0 PyData.depth; rfl
theorem shaped_bl {i : Bool} : SeqAt.shaped (.bool i) = true := by
  unfold SeqAt.shaped PyData.canLay0 PyData.depth; rfl
theorem shaped_non : SeqAt.shaped .none = true := by
  unfold SeqAt.shaped PyData.canLay0 PyData.depth; rfl
theorem eq_str {f : Bool → Bool} {s t : Str} {M : Mem} {k : KD} (h1 : PyData.strOk s = true) (h2 : PyData.strOk t = true) (h : k (.bl (f (decide (s = t)))) M) : rdEq f (.str s) (.str t) M k := by
  exact h
theorem eq_int {f : Bool → Bool} {s t : Int} {M : Mem} {k : KD} (h : k (.bl (f (decide (s = t)))) M) : rdEq f (.int s) (.int t) M k := by
  refine ⟨shaped_int, shaped_int, ?_⟩
  have e : PyData.eqv (.int s) (.int t) = decide (s = t) := by
    show (s == t) = _
    rw [Bool.beq_eq_decide_eq]
  rw [e]; exact h
theorem eq_bl {f : Bool → Bool} {s t : Bool} {M : Mem} {k : KD} (h : k (.bl (f (decide (s = t)))) M) : rdEq f (.bl s) (.bl t) M k := by
  refine ⟨shaped_bl, shaped_bl, ?_⟩
  have e : PyData.eqv (.bool s) (.bool t) = decide (s = t) := by
    show (s == t) = _
    cases s <;> cases t <;> rfl
  rw [e]; exact h
/-- flat things: None, ints, texts -/
inductive Flat : D → Prop
  | non : Flat .non
  | int (i : Int) : Flat (.int i)
  | str (s : Str) : PyData.strOk s = true → Flat (.str s)
def eqS : D → D → Bool
  | .non, .non => true
  | .int i, .int j => decide (i = j)
  | .str s, .str t => decide (s = t)
  | _, _ => false
theorem eq_flat {f : Bool → Bool} {x y : D} {M : Mem} {k : KD} (hx : Flat x) (hy : Flat y) (h : k (.bl (f (eqS x y))) M) : rdEq f x y M k := by
  cases hx with
  | non =>
    cases hy with
    | non => exact ⟨shaped_non, shaped_non, h⟩
    | int j => exact ⟨shaped_non, shaped_int, h⟩
    | str t ht => exact ⟨shaped_non, shaped_str ht, h⟩
  | int i =>
    cases hy with
    | non => exact ⟨shaped_int, shaped_non, h⟩
    | int j => exact eq_int h
    | str t ht => exact ⟨shaped_int, shaped_str ht, h⟩
  | str s hs =>
    cases hy with
    | non => exact ⟨shaped_str hs, shaped_non, h⟩
    | int j => exact ⟨shaped_str hs, shaped_int, h⟩
    | str t ht => exact eq_str hs ht h
end DL

set_option autoImplicit false
set_option maxRecDepth 100000
namespace DL
open PySem L2
set_option maxHeartbeats 2000000
section
variable {M : Mem} {k : KD} {i j n : Int} {s t : Str} {d x y : D} {ds es : List D} {a : Addr} {c : Nat}
theorem at0 {α : Type} (x : α) (r : List α) : atI (x :: r) 0 = some x := by
  have := atI_nat (xs := x :: r) (j := 0) (v := x) rfl
  simpa using this
theorem at1 {α : Type} (x y : α) (r : List α) : atI (x :: y :: r) 1 = some y := by
  have := atI_nat (xs := x :: y :: r) (j := 1) (v := y) rfl
  simpa using this
theorem at2 {α : Type} (x y z : α) (r : List α) : atI (x :: y :: z :: r) 2 = some z := by
  have := atI_nat (xs := x :: y :: z :: r) (j := 2) (v := z) rfl
  simpa using this
theorem ix_cel (e : M a = some (.lst ds)) (h : atI ds i = some d) (hk : k d M) : rdIx (.cel a) (.int i) M k := by
  unfold rdIx seqD asR
  simp only [e, h]; exact hk
theorem ix_tup (h : atI ds i = some d) (hk : k d M) : rdIx (.tup ds) (.int i) M k := by
  unfold rdIx seqD
  simp only [h]; exact hk
theorem ix_lst (h : atI ds i = some d) (hk : k d M) : rdIx (.lst ds) (.int i) M k := by
  unfold rdIx seqD asR
  simp only [h]; exact hk
theorem ix_scr (h : atI ds i = some d) (hk : k d M) : rdIx (.scr ds) (.int i) M k := by
  unfold rdIx seqD asR
  simp only [h]; exact hk
theorem ix_str (hz : s.length ≤ sizeLine) (h : atI s.cps.toList i = some c) (hk : k (.str ⟨#[c]⟩) M) : rdIx (.str s) (.int i) M k := by
  unfold rdIx
  refine ⟨hz, ?_⟩
  rw [h]; exact hk
theorem r_add (hk : k (.int (i + j)) M) : rdAdd (.int i) (.int j) M k := hk
theorem r_addS (hz : s.length + t.length ≤ sizeLine) (hk : k (.str (s ++ t)) M) : rdAdd (.str s) (.str t) M k := ⟨hz, hk⟩
theorem r_addT (hz : ds.length + es.length ≤ sizeLine) (hk : k (.tup (ds ++ es)) M) : rdAdd (.tup ds) (.tup es) M k := ⟨hz, hk⟩
theorem r_addL (hz : ds.length + es.length ≤ sizeLine) (hk : k (.lst (ds ++ es)) M) : rdAdd (.lst ds) (.lst es) M k := ⟨hz, hk⟩
theorem r_I {C : Int → Int → Prop} {g : Int → Int → D} (h : C i j) (hk : k (g i j) M) : rdI C g (.int i) (.int j) M k := ⟨h, hk⟩
theorem r_mul (h : (-(2 ^ 64) < i ∧ i < 2 ^ 64) ∨ (-(2 ^ 64) < j ∧ j < 2 ^ 64)) (hk : k (.int (i * j)) M) : rdI CMul (fun i j => .int (i * j)) (.int i) (.int j) M k := ⟨h, hk⟩
theorem r_div (h : 0 < j) (h' : j < 1073741824) (hk : k (.int (i / j)) M) : rdI CDiv (fun i j => .int (i / j)) (.int i) (.int j) M k := ⟨⟨h, h'⟩, hk⟩
theorem r_mod (h : 0 < j) (hk : k (.int (i % j)) M) : rdI (fun _ j => 0 < j) (fun i j => .int (i % j)) (.int i) (.int j) M k := ⟨h, hk⟩
theorem r_pow (h : 0 ≤ j) (h2 : j ≤ 1000000) (h3 : i.natAbs < 2 ^ 64) (hk : k (.int (i ^ j.toNat)) M) : rdI CPow (fun i j => .int (i ^ j.toNat)) (.int i) (.int j) M k := ⟨⟨h, h2, h3⟩, hk⟩
theorem eq_intT {f : Bool → Bool} (hk : k (.bl (f true)) M) : rdEq f (.int i) (.int i) M k := eq_int (by rw [decide_eq_true rfl]; exact hk)
theorem eq_intF {f : Bool → Bool} (h : i ≠ j) (hk : k (.bl (f false)) M) : rdEq f (.int i) (.int j) M k := eq_int (by rw [decide_eq_false h]; exact hk)
theorem eq_strT {f : Bool → Bool} (h1 : PyData.strOk s = true) (hk : k (.bl (f true)) M) : rdEq f (.str s) (.str s) M k := eq_str h1 h1 (by rw [decide_eq_true rfl]; exact hk)
theorem eq_strF {f : Bool → Bool} (h1 : PyData.strOk s = true) (h2 : PyData.strOk t = true) (h : s ≠ t) (hk : k (.bl (f false)) M) : rdEq f (.str s) (.str t) M k := eq_str h1 h2 (by rw [decide_eq_false h]; exact hk)
theorem r_I0 {g : Int → Int → D} (hk : k (g i j) M) : rdI0 g (.int i) (.int j) M k := hk
theorem r_U {g : Int → D} (hk : k (g i) M) : rdU g (.int i) M k := hk
theorem r_ordI {p : Int → Int → Bool} {q : Str → Str → Bool} (hk : k (.bl (p i j)) M) : rdOrd p q (.int i) (.int j) M k := hk
theorem r_ordS {p : Int → Int → Bool} {q : Str → Str → Bool} (hk : k (.bl (q s t)) M) : rdOrd p q (.str s) (.str t) M k := hk
theorem r_isN {f : Bool → Bool} (hk : k (.bl (f true)) M) : rdIs f .non .non M k := hk
theorem r_isI {f : Bool → Bool} (hk : k (.bl (f false)) M) : rdIs f (.int i) .non M k := hk
theorem r_isS {f : Bool → Bool} (hk : k (.bl (f false)) M) : rdIs f (.str s) .non M k := hk
theorem r_isT {f : Bool → Bool} (hk : k (.bl (f false)) M) : rdIs f (.tup ds) .non M k := hk
theorem r_isB {f : Bool → Bool} {p : Bool} (hk : k (.bl (f false)) M) : rdIs f (.bl p) .non M k := hk
theorem r_isL {f : Bool → Bool} (hk : k (.bl (f false)) M) : rdIs f (.lst ds) .non M k := hk
theorem r_isC {f : Bool → Bool} (hk : k (.bl (f false)) M) : rdIs f (.cel a) .non M k := hk
theorem r_isBB {f : Bool → Bool} {p q : Bool} (hk : k (.bl (f (decide (p = q)))) M) : rdIs f (.bl p) (.bl q) M k := hk
/-- of a flat thing -/
theorem r_isF {f : Bool → Bool} (h : Flat d) (hk : k (.bl (f (match d with | .non => true | _ => false))) M) : rdIs f d .non M k := by
  cases h <;> exact hk
def isNon : D → Bool
  | .non => true
  | _ => false
theorem r_isP (h : Flat d) (hk : k (.bl (isNon d)) M) : rdIs id d .non M k := by
  cases h <;> exact hk
theorem r_isnP (h : Flat d) (hk : k (.bl (!isNon d)) M) : rdIs not d .non M k := by
  cases h <;> exact hk
theorem r_lenS (hz : s.length ≤ sizeLine) (hk : k (.int s.length) M) : rdLen [.str s] M k := ⟨hz, hk⟩
theorem r_lenT (hk : k (.int ds.length) M) : rdLen [.tup ds] M k := hk
theorem r_lenL (hk : k (.int ds.length) M) : rdLen [.lst ds] M k := hk
theorem r_lenR (hk : k (.int ds.length) M) : rdLen [.scr ds] M k := hk
theorem r_lenC (e : M a = some (.lst ds)) (hk : k (.int ds.length) M) : rdLen [.cel a] M k := by
  unfold rdLen seqD asR; simp only [e]; exact hk
theorem r_app (e : M a = some (.lst ds)) (hz : ds.length < sizeLine) (hk : k .non (setM M a (.lst (ds ++ [d])))) : rdAppend (.cel a) [d] M k := by
  unfold rdAppend; simp only [e]; exact ⟨hz, hk⟩
theorem r_pop (e : M a = some (.lst (ds ++ [d]))) (hk : k d (setM M a (.lst ds))) : rdPop (.cel a) [] M k := by
  unfold rdPop; simp only [e]
  have h1 : (ds ++ [d])[(ds ++ [d]).length - 1]? = some d := by simp
  rw [h1, List.dropLast_concat]; exact hk
theorem r_pop0 (e : M a = some (.lst (d :: ds))) (hk : k d (setM M a (.lst ds))) : rdPopAt (.cel a) [.int 0] M k := by
  unfold rdPopAt; simp only [e]
  refine ⟨by decide, ?_⟩
  have h1 : seqIndex? 0 (d :: ds).length = some 0 := by
    obtain ⟨h, _⟩ := ixN_seq (n := (d :: ds).length) (i := 0) (j := 0) (by unfold ixN; simp)
    exact h
  rw [h1]; exact hk
theorem isC (e : M a = some (.lst ds)) : isCel M (.cel a) := ⟨ds, e⟩
theorem cut_take {α : Type} (xs : List α) (n : Nat) : cutD xs none (some (n : Int)) = xs.take n := by
  unfold cutD
  rw [HT.sIx_none, HT.sIx_nat]
  simp
theorem cut_drop {α : Type} (xs : List α) (n : Nat) : cutD xs (some (n : Int)) none = xs.drop n := by
  unfold cutD
  rw [HT.sIx_none, HT.sIx_nat]
  by_cases h : n ≤ xs.length
  · rw [Nat.min_eq_left h, ← List.length_drop, List.take_length]
  · rw [Nat.min_eq_right (by omega), List.drop_eq_nil_of_le (Nat.le_refl _), List.drop_eq_nil_of_le (by omega)]; simp
theorem r_slT {lo hi : Option Int} (hk : k (.tup (cutD ds lo hi)) M) : rdSl (.tup ds) lo hi M k := hk
theorem r_slL {lo hi : Option Int} (hk : k (.lst (cutD ds lo hi)) M) : rdSl (.lst ds) lo hi M k := hk
theorem r_slR {lo hi : Option Int} (hk : k (.lst (cutD ds lo hi)) M) : rdSl (.scr ds) lo hi M k := hk
theorem r_slS {lo hi : Option Int} (hz : s.length ≤ sizeLine) (hk : k (.str (cutS s lo hi)) M) : rdSl (.str s) lo hi M k := ⟨hz, hk⟩
theorem r_tupL (hk : k (.tup ds) M) : rdTuple [.lst ds] M k := hk
theorem r_tupT (hk : k (.tup ds) M) : rdTuple [.tup ds] M k := hk
theorem r_tupC (e : M a = some (.lst ds)) (hk : k (.tup ds) M) : rdTuple [.cel a] M k := by
  unfold rdTuple seqD asR; simp only [e]; exact hk
theorem r_intB {b : Bool} (hk : k (.int (if b then 1 else 0)) M) : rdInt [.bl b] M k := hk
theorem r_isi {T S : String} (h1 : tyD M x = some S) (hT : ["bool", "int", "str", "tuple"].contains T = true) (h2 : ∀ l, x ≠ .scr l) (hk : k (.bl (isiB S T)) M) : rdIsiA [x, .ty T] M k := by
  unfold rdIsiA; simp only [h1]; exact ⟨hT, h2, hk⟩
theorem r_get {kvs : List (Key × D)} (e : M a = some (.dct kvs)) (h : lookD kvs (.inr s) = some d) (hk : k d M) : rdGet (.cel a) (.str s) M k := by
  unfold rdGet keyD; simp only [e, h]; exact hk
theorem r_inS {f : Bool → Bool} {l : List Str} (hk : k (.bl (f (decide (s ∈ l)))) M) : rdIn f (.str s) (.tup (l.map D.str)) M k := by
  unfold rdIn seqD flatD
  have h1 : ∀ l : List Str, flatsD (l.map D.str) = some (l.map V.str) := fun l => by
    induction l with
    | nil => rfl
    | cons t r ih => rw [List.map_cons]; unfold flatsD flatD; rw [ih]; rfl
  have h2 : inV (.str s) (l.map V.str) = decide (s ∈ l) := by
    clear hk
    unfold inV
    induction l with
    | nil => rfl
    | cons t r ih =>
      rw [List.map_cons, List.any_cons, ih]
      show ((t == s) || _) = _
      by_cases e : t = s
      · subst e; simp
      · have e' : ¬ s = t := fun z => e z.symm
        simp [e, e']
  simp only [h1, h2]; exact hk
theorem r_inI {f : Bool → Bool} {l : List Int} (hk : k (.bl (f (decide (i ∈ l)))) M) : rdIn f (.int i) (.tup (l.map D.int)) M k := by
  unfold rdIn seqD flatD
  have h1 : ∀ l : List Int, flatsD (l.map D.int) = some (l.map V.int) := fun l => by
    induction l with
    | nil => rfl
    | cons t r ih => rw [List.map_cons]; unfold flatsD flatD; rw [ih]; rfl
  have h2 : inV (.int i) (l.map V.int) = decide (i ∈ l) := by
    clear hk
    unfold inV
    induction l with
    | nil => rfl
    | cons t r ih =>
      rw [List.map_cons, List.any_cons, ih]
      show ((t == i) || _) = _
      by_cases e : t = i
      · subst e; simp
      · have e' : ¬ i = t := fun z => e z.symm
        simp [e, e']
  simp only [h1, h2]; exact hk
theorem r_st {v : D} {j : Nat} {kk : Mem → Prop} (e : M a = some (.lst ds)) (h : ixN ds.length i = some j) (hk : kk (setM M a (.lst (ds.set j v)))) : rdSt (.cel a) (.int i) v M kk := by
  unfold rdSt; simp only [e, h]; exact hk
theorem ix_nat {n i : Nat} (h : i < n) : ixN n (i : Int) = some i := by
  unfold ixN
  rw [if_pos (by omega), if_pos (by omega), Int.toNat_natCast]
theorem ix_last {n : Nat} (h : 0 < n) : ixN n (-1) = some (n - 1) := by
  unfold ixN
  rw [if_neg (by omega), if_pos (by omega)]
  congr 1; omega
theorem tt {A B : Prop} (h : A) : (if true = true then A else B) := by rw [if_pos rfl]; exact h
theorem ff {A B : Prop} (h : B) : (if false = true then A else B) := by rw [if_neg Bool.false_ne_true]; exact h
theorem tt' {b : Bool} {A B : Prop} (e : b = true) (h : A) : (if b = true then A else B) := by rw [if_pos e]; exact h
theorem ff' {b : Bool} {A B : Prop} (e : b = false) (h : B) : (if b = true then A else B) := by rw [e]; exact ff h
theorem bb {b : Bool} {A B : Prop} (h1 : b = true → A) (h2 : b = false → B) : (if b = true then A else B) := by
  cases b
  · exact ff (h2 rfl)
  · exact tt (h1 rfl)
theorem and_pure {wa wb : WT} {Γ : Env} {kt : Bool → Mem → Prop} {b1 b2 : Bool} (h1 : ∀ k : Bool → Mem → Prop, k b1 M → wa Γ M k) (h2 : b1 = true → ∀ k : Bool → Mem → Prop, k b2 M → wb Γ M k) (h : kt (b1 && b2) M) : wAndT wa wb Γ M kt := by
  refine h1 _ ?_
  cases b1 with
  | true => exact tt (h2 rfl _ h)
  | false => exact ff h
theorem or_pure {wa wb : WT} {Γ : Env} {kt : Bool → Mem → Prop} {b1 b2 : Bool} (h1 : ∀ k : Bool → Mem → Prop, k b1 M → wa Γ M k) (h2 : b1 = false → ∀ k : Bool → Mem → Prop, k b2 M → wb Γ M k) (h : kt (b1 || b2) M) : wOrT wa wb Γ M kt := by
  refine h1 _ ?_
  cases b1 with
  | true => exact tt h
  | false => exact ff (h2 rfl _ h)
theorem z1 {n : Nat} (h : n ≤ 1000000) : n ≤ sizeLine := Nat.le_trans h (by decide)
theorem z2 {n : Nat} (h : n ≤ 1000000) : n < sizeLine := Nat.lt_of_le_of_lt h (by decide)
end
end DL

set_option autoImplicit false
set_option maxRecDepth 100000
set_option maxHeartbeats 4000000
/-! sets of texts, made of a list of texts: counted, or laid out in their order -/
namespace TS
open PySem PySem.Spec PyProof.Rows L2 PySem.Froz
/-- the texts met, the newest first, each once -/
def addU (l : List Str) (k : Str) : List Str := if k ∈ l then l else k :: l
def uni (xs : List Str) : List Str := xs.foldl addU []
theorem addU_nd {l : List Str} {k : Str} (h : l.Nodup) : (addU l k).Nodup := by
  unfold addU; split
  · exact h
  · rename_i q; exact List.nodup_cons.mpr ⟨q, h⟩
theorem addU_mem {l : List Str} {k x : Str} : x ∈ addU l k ↔ x ∈ l ∨ x = k := by
  unfold addU; split
  · rename_i q; exact ⟨.inl, fun z => z.elim id fun e => e ▸ q⟩
  · rw [List.mem_cons]; exact Or.comm
theorem addU_len {l : List Str} {k : Str} : (addU l k).length ≤ l.length + 1 := by
  unfold addU; split
  · omega
  · simp
theorem fold_len : ∀ (xs l : List Str), (xs.foldl addU l).length ≤ l.length + xs.length
  | [], l => by simp
  | x :: xs, l => by
    have h := fold_len xs (addU l x)
    have := addU_len (l := l) (k := x)
    rw [List.foldl_cons, List.length_cons]; omega
theorem fold_nd : ∀ (xs l : List Str), l.Nodup → (xs.foldl addU l).Nodup
  | [], _, h => h
  | x :: xs, l, h => fold_nd xs _ (addU_nd h)
theorem fold_mem : ∀ (xs l : List Str) (y : Str), y ∈ xs.foldl addU l ↔ y ∈ l ∨ y ∈ xs
  | [], l, y => by simp
  | x :: xs, l, y => by
    rw [List.foldl_cons, fold_mem xs _ y, addU_mem, List.mem_cons, or_assoc]
theorem uni_nd (xs : List Str) : (uni xs).Nodup := fold_nd xs [] List.nodup_nil
theorem uni_mem (xs : List Str) (y : Str) : y ∈ uni xs ↔ y ∈ xs := by
  unfold uni; rw [fold_mem]; simp
theorem uni_len (xs : List Str) : (uni xs).length ≤ xs.length := by
  have := fold_len xs []; simpa [uni] using this
theorem uni_snoc (xs : List Str) (k : Str) : uni (xs ++ [k]) = addU (uni xs) k := by
  unfold uni; rw [List.foldl_append]; rfl
/-- two lists, one without repeats within the other, of one length -/
theorem perm_of_sub {α : Type} [DecidableEq α] : ∀ {l m : List α}, l.Nodup → (∀ x ∈ l, x ∈ m) → m.length ≤ l.length → m.Perm l
  | [], m, _, _, hl => by
    have : m = [] := List.length_eq_zero_iff.mp (by simpa using hl)
    rw [this]
  | x :: l, m, hn, hs, hl => by
    have hx := hs x List.mem_cons_self
    have p := List.perm_cons_erase hx
    obtain ⟨h1, h2⟩ := List.nodup_cons.mp hn
    refine p.trans (List.Perm.cons x (perm_of_sub h2 (fun y hy => ?_) ?_))
    · have hne : y ≠ x := fun e => h1 (e ▸ hy)
      exact (List.mem_erase_of_ne hne).mpr (hs y (List.mem_cons_of_mem _ hy))
    · have := p.length_eq
      simp only [List.length_cons] at this hl; omega
/-- the table rises and can be walked -/
def Way (w : World) (D : SD) : Prop := Ris D.2.2.place.toList ∧ (w.params.followText "set-order" = true ∨ D.2.2.led = true)
theorem way_tail {w : World} {ep : Nat} {es : Array (Int × Value)} {t : SetTable} {b : Bool} (h : Way w (es, ep, t)) : Way w (tailTx ep es t b) := by
  unfold tailTx; split
  · exact ⟨relayAll_ris t es _, h.2.imp id fun z => (relayAll_led t es _).trans z⟩
  · exact h
theorem way_add {w : World} {D : SD} {h : Int} {v : Value} (W : Way w D) : Way w (addTx h v D) := by
  unfold addTx
  refine way_tail ?_
  have a := layNew_ris D.2.2 D.1 h v W.1
  have b := W.2.imp id fun z => (layNew_led D.2.2 D.1 h v).trans z
  split
  · exact ⟨a, b⟩
  · exact ⟨a, b⟩
/-- the set at a holds the texts l -/
def SetS (P : Program) (w : World) (h : Heap) (a : Addr) (l : List Str) : Prop := ∃ D, h.get? a = some (sObj "set" D) ∧ TxOk P w D l ∧ Way w D
theorem SetS.at {P : Program} {w : World} {h h' : Heap} {a : Addr} {l : List Str} (x : SetS P w h a l) (k : ∀ o, h.get? a = some o → h'.get? a = some o) : SetS P w h' a l :=
  let ⟨D, e, r⟩ := x; ⟨D, k _ e, r⟩
section
variable {P : Program} {w : World} {A : Around} {E : Value → Shared → Prop} {s : Shared} {a : Addr} {l : List Str}
theorem add_s {k : Str} {u : Tok} {Q : Bool → Shared → Prop} (x : SetS P w s.heap a l) (hb : l.length + 1 < scanBound)
    (h : ∀ b h', Heap.SameBut a s.heap h' → SetS P w h' a (addU l k) → Q b { s with heap := h' }) : wpAny (model P w) A (setAddHashed a (.str k u) (hashStr w k)) Q E s := by
  obtain ⟨D, ho, F, W⟩ := x
  by_cases hk : k ∈ l
  · have h1 := h false s.heap (Heap.SameBut.refl a s.heap) ⟨D, ho, by unfold addU; rw [if_pos hk]; exact F, W⟩
    obtain ⟨es, ep, t⟩ := D
    have sz : es.size = l.length := F.sz
    have el : ElemsOf (strKind P w) es.toList := F.el
    have hf : t.fits es.size = true := F.fit
    have ky : (strKind P w).is k (.str k u) = true := is_str k u
    unfold setAddHashed setAddHashedIn
    apply wpAny_holding
    apply wpAny_bind
    refine wpAny_setState_of ho (show (sObj "set" (es, ep, t)).data = _ from rfl) hf ?_
    dsimp only
    rw [byScan_of (x := Value.str k u) rfl (by omega) el, if_pos rfl]
    unfold setAddByScan
    apply wpAny_bind
    apply wpAny_bind
    apply wpAny_rule
    apply wpAny_bind
    refine wpAny_setScan_of (knd := strKind P w) ky ho (show (sObj "set" (es, ep, t)).data = _ from rfl) hf el ?_
    cases q : List.findIdx? (fun e => (strKind P w).is k e.2) es.toList with
    | some j => exact wpAny_pure (wpAny_pure h1)
    | none =>
      obtain ⟨e, he, z⟩ := (F.mem k).mp hk
      have c := List.findIdx?_eq_none_iff.mp q e he
      rw [z] at c; cases c
  · refine add_x ho F hk hb (h true _ (Heap.SameBut.update s.heap a _) ⟨_, get_upd _ ho rfl, ?_, way_add W⟩)
    unfold addU; rw [if_neg hk]; exact add_ok u F
/-- the loop of update over texts -/
theorem loop {I : Addr} {fp wr : List Addr} {G : Array GenState → Array GenState → Prop} {n : Nat} {Pv : Nat → Value → Prop} {St : Nat → Shared → Prop} {R : Result → Shared → Prop} {xs : List Str} {S : Addr}
    (W : WalksS P w A.in1 I fp wr G n Pv St) (nf : S ∉ fp) (hn : xs.length = n) (hb : n + 1 < scanBound) (hv : ∀ i v, Pv i v → ∃ y t, xs[i]? = some y ∧ v = .str y t)
    : ∀ (k i : Nat) (s : Shared), k + i = n → St i s → SetS P w s.heap S (uni (xs.take i)) →
      (∀ s', Moved (S :: wr) G s s' → SetS P w s'.heap S (uni xs) → R (.ok (.ret .none)) s') → codeAny (model P w) A (.builtin "set.update.loop" ⟨[.ref S, .ref I], []⟩) R s := by
  have nw : S ∉ wr := fun z => nf (W.sub _ z)
  intro k
  induction k with
  | zero =>
    intro i s hk st hs hR
    have e : i = n := by omega
    subst e
    apply codeAny_builtin F.entry_set_update_loop
    rw [Around.under_plainId (F.plain_set_update_loop) _]
    apply wpAny_bind (m := pyNext (.ref I))
    refine W.done s _ _ st fun s' hm => ?_
    rw [List.take_of_length_le (by omega)] at hs
    refine wpAny_pure (hR s' (hm.mono fun b z => List.mem_cons_of_mem _ z) (hs.at fun o z => ?_))
    exact hm.heap S o nw z
  | succ k ih =>
    intro i s hk st hs hR
    apply codeAny_builtin F.entry_set_update_loop
    rw [Around.under_plainId (F.plain_set_update_loop) _]
    apply wpAny_bind (m := pyNext (.ref I))
    refine W.item i s _ _ (by omega) st fun v s' hP st' hm => ?_
    obtain ⟨y, t, hy, rfl⟩ := hv i v hP
    have hs' := hs.at (h' := s'.heap) fun o z => hm.heap S o nw z
    show wpAny _ A.in1 (holding [Value.str y t] (setAdd S (.str y t)) >>= _) _ _ s'
    apply wpAny_bind
    apply wpAny_holding
    unfold setAdd
    apply wpAny_holding
    apply wpAny_bind
    refine (strKind P w).pyHash (k := y) (is_str y t) ?_
    have ul := uni_len (xs.take i)
    rw [List.length_take] at ul
    refine add_s (s := { s' with toks := s'.toks + 1 }) hs' (by omega) fun b h' sb h2 => ?_
    refine wpAny_pure ⟨plainId_quiet (F.plain_set_update_loop) _, ih (i + 1) _ (by omega) (W.frame _ s' _ _ st' (Nat.le_succ _) fun c hc o e => ?_) ?_ fun s2 hm2 h3 => ?_⟩
    · exact (sb.2 c fun z => nf (z ▸ hc)).trans e
    · rw [List.take_add_one, hy, Option.toList_some, uni_snoc]; exact h2
    · refine hR s2 (Moved.trans W.gtrans ((hm.mono fun c z => List.mem_cons_of_mem _ z).then_heap (Nat.le_succ _) fun c o hc e => ?_) hm2) h3
      exact (sb.2 c fun z => hc (z ▸ List.mem_cons_self)).trans e
/-- the bare set that is laid first -/
def bare (w : World) : Obj := { cls := .type "set", dict := none, data := .set #[] 0 (.fresh 0 0 (!w.params.followText "set-order")) }
theorem bare_set {h : Heap} {b : Addr} (e : h.get? b = some (bare w)) : SetS P w h b [] := by
  refine ⟨(#[], 0, .fresh 0 0 (!w.params.followText "set-order")), e, TxOk.nil (by rfl), List.Pairwise.nil, ?_⟩
  show _ ∨ (!w.params.followText "set-order") = true
  cases w.params.followText "set-order"
  · exact .inr rfl
  · exact .inl rfl
set_option maxHeartbeats 16000000 in
theorem call_set {b : Addr} {its : Array Value} {xs : List Str} {Q : Value → Shared → Prop} (hh : A.handled = none) (hl : s.heap.IsList b its) (hv : StrsAre its.toList xs) (hb : xs.length + 1 < scanBound)
    (h : ∀ h' tk, SetS P w h' s.heap.objs.size (uni xs) → (∀ c o, s.heap.get? c = some o → h'.get? c = some o) → Q (.ref s.heap.objs.size) { s with heap := h', toks := tk }) :
    wpAny (model P w) A (call (.type "set") [.ref b]) Q E s := by
  have sz : xs.length = its.size := by rw [← StrsAre.len_eq hv, Array.length_toList]
  obtain ⟨mc, mt, hmro⟩ := F.called_set.mro
  have i1 := F.called_set.made
  have i2 := F.called_set.sub
  have i3 := F.called_set.notType
  have i4 := F.called_set.canCreate
  have i5 := F.typeCall_set_1 (.ref b)
  apply wpAny_call
  apply codeAny_of_tree
  show wpAny _ _ (callAny (.type "set") ⟨[.ref b], []⟩) _ _ _
  refine wpAny_pure ⟨Code.quiet_builtin _ (by decide +kernel), ?_⟩
  apply codeAny_builtin F.entry_type_call
  rw [Around.under_plain (weight_type_call_type "set" [.ref b] []) (by rfl)]
  repeat (any_goals first | assumption | wp_step)
  refine codeAny_mono (code_set_led1 (.ref b) (E := E) (Q₁ := fun v s1 => v = .ref s.heap.objs.size ∧ s1 = { s with heap := s.heap.push (bare w) }) ⟨rfl, rfl⟩) fun r s1 hr => ?_
  match r, hr with
  | .error _, hr => exact hr
  | .ok (.ret v), ⟨e1, e2⟩ =>
    subst e1; subst e2
    have g0 : (s.heap.push (bare w)).get? s.heap.objs.size = some (bare w) := Heap.get?_push_size _ rfl
    have ty0 : Shared.TypeIs { s with heap := s.heap.push (bare w) } (.ref s.heap.objs.size) "set" := ⟨_, g0, rfl⟩
    have j1 := F.called_set.init.lookup
    have j2 := F.called_set.init.bind (.ref s.heap.objs.size)
    repeat (any_goals first | assumption | wp_step)
    refine codeAny_mono (codeAny_call_builtin (R := wants (fun r s2 => r = .none ∧ ∃ h' tk, s2 = { s with heap := h', toks := tk } ∧ SetS P w h' s.heap.objs.size (uni xs) ∧ ∀ c o, s.heap.get? c = some o → h'.get? c = some o) E)
      F.called_set.init.plain F.entry_set_init (check_set_init_1 ty0 ?_)) fun r2 s2 hr2 => ?_
    · obtain ⟨lo, glo, lc, ln, ld⟩ := hl
      obtain ⟨cls, dic, dat, slo⟩ := lo
      simp only at lc ld
      subst lc; subst ld
      have glo' := Heap.get?_push_of_some (bare w) glo
      have isl : (s.heap.push (bare w)).IsList b its := ⟨_, glo', rfl, ln, rfl⟩
      have q1 := F.sub_list_set
      have q2 := F.sub_list_frozenset
      have q3 : (Value.type "list" == Value.type "dict") = false := by decide
      have blt : b < s.heap.objs.size := Heap.lt_size glo
      unfold Builtin.«set.__init__» noKeywords Builtin.Frozenset.updateFrom
      generalize hPI : pyIter = PI
      wp_walk
      subst hPI
      apply wpAny_pyIter_list isl
      apply wpAny_bind
      apply wpAny_runValue
      have sz2 : (s.heap.push (bare w)).objs.size = s.heap.objs.size + 1 := Heap.size_push ..
      have n1 : b ≠ (s.heap.push (bare w)).objs.size := fun z => by rw [sz2] at z; exact Nat.ne_of_lt (Nat.lt_succ_of_lt blt) z
      have n2 : s.heap.objs.size ∉ [(s.heap.push (bare w)).objs.size, b] := by
        intro z
        rcases List.mem_cons.mp z with z | z
        · rw [sz2] at z; exact Nat.ne_of_lt (Nat.lt_succ_self _) z
        · rw [List.mem_singleton] at z; exact Nat.ne_of_gt blt z
      have vals : ∀ (i : Nat) (v : Value), its[i]? = some v → ∃ y t, xs[i]? = some y ∧ v = .str y t := fun i v e => by
        have hi : i < xs.length := by rw [sz]; exact (Array.getElem?_eq_some_iff.mp e).1
        obtain ⟨t, et⟩ := SS.strs_at hv i v (by rw [Array.getElem?_toList]; exact e)
        exact ⟨xs[i], t, List.getElem?_eq_getElem hi, by rw [et, List.getD_eq_getElem?_getD, List.getElem?_eq_getElem hi] <;> rfl⟩
      have hd3 : A.in1.in1.in1.handled = none := by simp [hh]
      refine loop (Walks.list hd3 _ b n1 its).toS n2 sz (by omega) vals its.size 0 _ (by omega) ⟨⟨_, Heap.get?_push_size _ rfl, rfl, rfl⟩, isl.push _⟩ ?_ ?_
      · exact bare_set (Heap.get?_push_of_some _ g0)
      · intro s2 hm hs
        obtain ⟨h2, g2, d2, t2, o2⟩ := s2
        have eg : g2 = s.gens := hm.gens
        have ed : d2 = s.drawn := hm.drawn
        have eo : o2 = s.os := hm.os
        subst eg; subst ed; subst eo
        show wpAny _ _ _ _ _ _
        apply wpAny_pure
        show wpAny _ _ (ret Value.none) _ _ _
        refine wpAny_pure ⟨rfl, h2, t2, rfl, hs, fun c o e => ?_⟩
        have cl := Heap.lt_size e
        refine hm.heap c o (fun z => ?_) (Heap.get?_push_of_some _ (Heap.get?_push_of_some _ e))
        rcases List.mem_cons.mp z with z | z
        · exact Nat.ne_of_lt cl z
        · rw [List.mem_singleton, sz2] at z; exact Nat.ne_of_lt (Nat.lt_succ_of_lt cl) z
    · match r2, hr2 with
      | .error _, hr2 => exact hr2
      | .ok (.ret v), ⟨e1, h', tk, e2, y1, y2⟩ =>
        subst e1; subst e2
        repeat (any_goals first | assumption | wp_step)
        exact h _ _ y1 y2
      | .ok .next, hr2 => exact hr2.elim
      | .ok .brk, hr2 => exact hr2.elim
      | .ok .cont, hr2 => exact hr2.elim
  | .ok .next, hr => exact hr.elim
  | .ok .brk, hr => exact hr.elim
  | .ok .cont, hr => exact hr.elim
end
end TS

set_option autoImplicit false
set_option maxRecDepth 100000
set_option maxHeartbeats 4000000
namespace TS
open PySem PySem.Spec PyProof.Rows L2 PySem.Froz
section
variable {P : Program} {w : World} {A : Around} {E : Value → Shared → Prop} {s : Shared} {b : Addr} {l : List Str}
theorem is_val {k : Str} {v : Value} (h : (PySem.strKind P w).is k v = true) : ∃ u, v = .str k u := by
  have h : Value.isStrOf k v = true := h
  cases v with
  | str y u =>
    refine ⟨u, ?_⟩
    have : y = k := by simpa [Value.isStrOf] using h
    rw [this]
  | _ => simp [Value.isStrOf] at h
theorem sorted_s {Q : Value → Shared → Prop} (x : SetS P w s.heap b l) (nd : l.Nodup) (hh : A.handled = none) (hb : l.length < scanBound)
    (hQ : ∀ s' p (out : Array Value) (c : Nat) (ys : List Str), (∀ c o, s.heap.get? c = some o → s'.heap.get? c = some o) → s'.gens = s.gens → s'.os = s.os → s.heap.objs.size ≤ p →
      s'.heap.get? p = some (seqObj "list" out c) → StrsAre out.toList ys → ys.Perm l → sortedS ys = true → Q (.ref p) s') : wpAny (model P w) A (call (.builtin "sorted") [.ref b]) Q E s := by
  obtain ⟨⟨es, ep, t⟩, ho, F, ris, led⟩ := x
  have sz : es.size = l.length := F.sz
  have el : ElemsOf (PySem.strKind P w) es.toList := F.el
  have fs : l.length ≤ sizeLine := by rw [← sz]; exact fits_of_scanBound (by omega)
  apply Calls.call_function_entry kind_sorted plain_sorted entry_sorted (args_sorted1 _)
  unfold Builtin.«sorted»
  apply wpAny_bind (m := checkCount "sorted" 1 1 _)
  apply wpAny_pure
  apply wpAny_bind
  refine collect_set (A := A.in1) hh ⟨_, ho, rfl, rfl⟩ F.fit (by show es.size < _; omega) ris led fun s1 vs k1 z1 g1 o1 pm => ?_
  have all : ∀ v ∈ vs, ∃ y u, v = Value.str y u := fun v hv => by
    obtain ⟨e, he, rfl⟩ := List.mem_map.mp (pm.mem_iff.mp hv)
    obtain ⟨⟨k, hk, _⟩, _⟩ := el e he
    exact ⟨k, is_val hk⟩
  have sa : StrsAre vs (vs.map strOf) := strsAre_map vs all
  have vl : vs.length = l.length := by rw [pm.length_eq, List.length_map]; exact sz
  have pl : (vs.map strOf).Perm l := by
    refine perm_of_sub nd (fun y hy => ?_) (by rw [List.length_map, vl]; exact Nat.le_refl _)
    obtain ⟨e, he, q⟩ := (F.mem y).mp hy
    obtain ⟨u, eu⟩ := is_val q
    exact List.mem_map.mpr ⟨e.2, pm.mem_iff.mpr (List.mem_map.mpr ⟨e, he, rfl⟩), by rw [eu]; rfl⟩
  apply wpAny_bind
  refine wpAny_newList ?_ (by omega)
  have g3 : (s1.heap.push (seqObj "list" vs.toArray 0)).get? s1.heap.objs.size = some (seqObj "list" vs.toArray 0) := Heap.get?_push_size _ rfl
  apply wpAny_bind
  apply wpAny_holding
  refine wpAny_call_entry slot_list_sort ⟨_, g3, rfl⟩ entry_list_sort (list_sort_treeKAny strKind_oneLt g3 sa.keysOf (fun v1 v2 r e => keyKind_strs (by rw [← e]; exact sa)) (by omega) fun st hp hs => ⟨_, rfl, ?_⟩) (args_list_sort _)
  obtain ⟨ys, y1, y2, y3⟩ := sorted_out_str sa hp hs
  obtain ⟨c, hc⟩ := sortedHeap_at (vs := vs) (out := (arrOf st).map (·.2)) g3
  refine wpAny_pure ⟨_, rfl, hQ _ s1.heap.objs.size _ c ys (fun d u e => ?_) g1 o1 z1 hc y1 (y2.trans pl) y3⟩
  have q := k1 d u e
  have lt := Heap.lt_size q
  exact (sortedHeap_old (Nat.ne_of_lt lt) (by rw [size_push']; exact Nat.lt_succ_of_lt lt)).trans (Heap.get?_push_of_some _ q)
end
end TS

set_option autoImplicit false
set_option maxRecDepth 100000
set_option maxHeartbeats 4000000
/-! a tuple turned about: t[::-1] -/
namespace RT
open PySem PySem.Spec PyProof.Rows L2 HT
theorem back_adjust (n : Nat) : Builtin.Slice.sliceAdjust none none (-1) (n : Int) = ((n : Int) - 1, -1) := rfl
theorem back_places (n : Nat) : Builtin.Slice.slicePlaces ((n : Int) - 1) (-1) (-1) = n := by
  unfold Builtin.Slice.slicePlaces
  rw [if_neg (by decide)]
  by_cases h : (n : Int) - 1 > -1
  · rw [if_pos h]; simp
  · rw [if_neg h]; simp; omega
theorem fm_map {α β : Type} {f : α → Option β} {g : α → β} : ∀ l : List α, (∀ k ∈ l, f k = some (g k)) → l.filterMap f = l.map g
  | [], _ => rfl
  | a :: l, h => by
    rw [List.filterMap_cons, h a List.mem_cons_self, List.map_cons, fm_map l fun k hk => h k (List.mem_cons_of_mem _ hk)]
theorem back_pick (xs : Array Value) : ((List.range xs.size).filterMap fun (k : Nat) => xs[(((xs.size : Int) - 1) + (k : Int) * (-1)).toNat]?).toArray = xs.toList.reverse.toArray := by
  congr 1
  apply List.ext_getElem?
  intro i
  have e : ∀ k ∈ List.range xs.size, xs[(((xs.size : Int) - 1) + (k : Int) * (-1)).toNat]? = some ((fun k => xs.getD (xs.size - 1 - k) .none) k) := fun k hk => by
    have hk := List.mem_range.mp hk
    have : (((xs.size : Int) - 1) + (k : Int) * (-1)).toNat = xs.size - 1 - k := by omega
    rw [this]
    have lt : xs.size - 1 - k < xs.size := by omega
    simp [Array.getD, lt]
  rw [fm_map _ e]
  by_cases hi : i < xs.size
  · rw [List.getElem?_map, List.getElem?_range hi, List.getElem?_reverse (by simpa using hi)]
    have lt : xs.size - 1 - i < xs.size := by omega
    simp [Array.getD, lt]
  · rw [List.getElem?_eq_none (by simp; omega), List.getElem?_eq_none (by simp; omega)]
section
variable {P : Program} {w : World} {A : Around} {E : Value → Shared → Prop} {s : Shared}
theorem back_applied {sl : Addr} {u : Tok} {n : Nat} {Q : Int × Int × Nat → Shared → Prop} (hs : s.heap.IsSliceOf sl .none .none (.int (-1) u)) (h : Q ((n : Int) - 1, -1, n) s) :
    wpAny (model P w) A (Builtin.Slice.sliceApplied (.ref sl) (pure (n : Int))) Q E s := by
  obtain ⟨o, e1, e2, e3⟩ := id hs
  unfold Builtin.Slice.sliceApplied Builtin.Slice.sliceFields
  apply wpAny_bind
  refine wpAny_bind (wpAny_field e1 e3 (x := .none) (by rfl) (wpAny_bind (wpAny_field e1 e3 (x := .none) (by rfl) (wpAny_bind (wpAny_field e1 e3 (x := .int (-1) u) (by rfl) (wpAny_pure ?_))))))
  apply wpAny_bind
  refine slicePart_int ?_
  show wpAny _ _ (if ((-1 : Int) == 0) = true then _ else _) _ _ s
  rw [if_neg (by decide)]
  apply wpAny_bind
  refine slicePart_none ?_
  apply wpAny_bind
  refine slicePart_none ?_
  apply wpAny_bind
  apply wpAny_pure
  show wpAny _ _ (match Builtin.Slice.sliceAdjust none none (-1) (n : Int) with | (lo, hi) => pure (lo, (-1 : Int), Builtin.Slice.slicePlaces lo hi (-1))) _ _ s
  rw [back_adjust]
  show wpAny _ _ (pure ((n : Int) - 1, (-1 : Int), Builtin.Slice.slicePlaces ((n : Int) - 1) (-1) (-1))) _ _ s
  rw [back_places]
  exact wpAny_pure h
theorem back_tuple {t sl : Addr} {items : Array Value} {u : Tok} {Q : Value → Shared → Prop} (ht : IsTup s.heap t items) (hs : s.heap.IsSliceOf sl .none .none (.int (-1) u)) (hz : items.size ≤ sizeLine)
    (h : Q (.ref s.heap.objs.size) { s with heap := s.heap.push { cls := .type "tuple", data := .seq items.toList.reverse.toArray } }) : wpAny (model P w) A (getItem (.ref t) (.ref sl)) Q E s := by
  have fit : sizeOk (.seq items.toList.reverse.toArray) := by
    show items.toList.reverse.toArray.size ≤ sizeLine
    simpa using hz
  obtain ⟨o, e1, e2, e3⟩ := id hs
  have ty : s.TypeIs (.ref sl) "slice" := ⟨o, e1, e2⟩
  unfold getItem
  try (with_reducible apply wpAny_holding)
  first | (refine wpAny_bind (wpAny_pure ?_)) | skip
  refine wpAny_bind (wpAny_sequenceKey (ht.typeIs) (by decide) ?_)
  apply wpAny_bind
  refine wpAny_callSpecial?_slot (name := Str.ofString "__getitem__") ht.typeIs PyProof.Rows.slot_tuple_getitem (wpAny_call_entry PyProof.Rows.slot_tuple_getitem ht.typeIs entry_tuple_getitem ?_ (args_tuple_getitem _ _))
  show wpAny _ _ (Builtin.Tuple.tupleItemsOf (.ref t) >>= _) _ _ s
  apply wpAny_bind
  refine tupleItemsOf_ ht ?_
  apply wpAny_bind
  refine wpAny_typeOf ty ?_
  rw [if_pos (by decide)]
  apply wpAny_bind
  refine back_applied hs ?_
  have no : ¬ ((((items.size : Int) - 1) == 0 && (-1 : Int) == 1 && items.size == items.size) = true) := by
    intro q
    rw [Bool.and_eq_true, Bool.and_eq_true] at q
    exact absurd q.1.2 (by decide)
  show wpAny _ _ (if (((items.size : Int) - 1) == 0 && (-1 : Int) == 1 && items.size == items.size) = true then _ else _) _ _ s
  rw [if_neg no, back_pick]
  first
    | exact wpAny_bind (m := Builtin.Tuple.tupleExact _) (wpAny_newObj_type (wpAny_pure (⟨_, rfl, wpAny_pure h⟩)) fit)
    | exact wpAny_bind (m := Builtin.Tuple.tupleExact _) (wpAny_newObj_type (wpAny_bind (wpAny_pure (wpAny_pure (⟨_, rfl, wpAny_pure h⟩)))) fit)
    | exact wpAny_bind (wpAny_bind (m := Builtin.Tuple.tupleExact _) (wpAny_newObj_type (wpAny_pure (wpAny_pure (⟨_, rfl, wpAny_pure h⟩))) fit))
    | exact wpAny_bind (wpAny_bind (m := Builtin.Tuple.tupleExact _) (wpAny_newObj_type (wpAny_pure (⟨_, rfl, wpAny_pure h⟩)) fit))
end
section
variable {X : Cx}
def tBack (K : PySem.W.Frag) (te : TE) : TE := fun σ H Q => te σ H fun x H1 => ∃ a xs, x = .ref a ∧ SqT K H1 a xs ∧ ∀ p, H1 p = none → Q (.ref p) (upd H1 p (.tup xs.reverse))
theorem pe_back {e : Expr} {te : TE} {k : Nat} {p1 p2 p3 pos : Pos} (he : PE X e te) : PE X (.Subscript e (.Slice none none (some (.UnaryOp .USub (.Constant (.int 1) k p1) p2)) p3) pos) (tBack X.K te) := by
  refine ⟨fun pins s σ H Q I h => Subscript_ (thn (he.run pins s σ H _ I h) fun v s1 ⟨x, H1, I1, r1, q1⟩ => ?_)⟩
  obtain ⟨a, xs, rfl, hx, q⟩ := q1
  cases r1
  have st : PO X (some (.UnaryOp .USub (.Constant (.int 1) k p1) p2)) (tPart (tUn (rU fun i => .int (-i)) (tC (.int 1)))) := po_some (pe_un un_neg pe_int)
  refine wpAny_Slice (thn (po_none.run pins s1 σ H1 (fun o z => o = none ∧ z = H1) I1 (And.intro rfl rfl)) fun vl s2 ⟨l, H2, I2, pl, el, e2⟩ => ?_)
  subst el; subst e2
  refine thn (po_none.run pins s2 σ H2 (fun o z => o = none ∧ z = H2) I2 (And.intro rfl rfl)) fun vu s3 ⟨u, H3, I3, pu, eu, e3⟩ => ?_
  subst eu; subst e3
  refine thn (st.run pins s3 σ H3 (fun o z => o = some (-1) ∧ z = H3) I3 ⟨1, rfl, -1, rfl, rfl, rfl⟩) fun vs s4 ⟨o, H4, I4, ps, eo, e4⟩ => ?_
  subst eo; subst e4
  cases pl; cases pu
  cases ps with
  | int i t =>
  have I5 : Inv X pins σ H4 { s4 with heap := s4.heap.push { cls := .type "slice", data := .fields #[.none, .none, .int (-1) t] } } := I4.kept (t' := s4.toks) fun b ob q => Heap.get?_push_of_some _ q
  obtain ⟨its, r, ht, hz⟩ := I5.tuple hx
  have hl := r.length
  show wpAny (model X.prog X.w) X.A (subscriptTail e (.Slice none none (some (.UnaryOp .USub (.Constant (.int 1) k p1) p2)) p3) (.ref a) (.ref s4.heap.objs.size)) (EP X pins σ Q) X.xe { s4 with heap := s4.heap.push { cls := .type "slice", data := .fields #[.none, .none, .int (-1) t] } }
  refine tail_any (ops := [.ref a, .ref s4.heap.objs.size]) ht.typeIs PyProof.Rows.slot_tuple_getitem.lookup ?_ (by with_unfolding_all rfl)
  refine back_tuple ht (Heap.IsSliceOf.new _ .none .none _) (by rw [List.size_toArray]; omega) ?_
  refine ⟨.ref _, _, I5.laid (t' := s4.toks) (o := .tup xs.reverse) (fun b ob q => Heap.get?_push_of_some _ q) (Nat.le_refl _) ?_, rfl, q _ (I5.hok.fresh (Nat.le_refl _))⟩
  exact ⟨by rw [List.length_reverse]; exact hz, _, r.reverse, IsTup.new _ _⟩
end
end RT

set_option autoImplicit false
set_option maxRecDepth 100000
set_option maxHeartbeats 4000000
namespace DL
open PySem PySem.Spec PyProof.Rows L2
section
variable {X : Cx}
/-! ### the truth of a value -/
def rdTru : D → Mem → (Bool → Mem → Prop) → Prop := fun d M k => match d with
  | .non => k false M
  | .bl b => k b M
  | .int i => k (i != 0) M
  | .str y => y.length ≤ sizeLine ∧ k ((y.length : Int) != 0) M
  | .tup ds => k (!ds.isEmpty) M
  | d => (match asR M d with | some ds => k (!ds.isEmpty) M | none => False)
def wTru (we : WE) : WT := fun Γ M k => we Γ M fun d M1 => rdTru d M1 k
theorem dats_emp {K : PySem.W.Frag} {H : Hp} {vs : List V} {ds : List D} (h : Dats K H vs ds) : (!ds.isEmpty) = !vs.isEmpty := by cases h <;> rfl
theorem tru_ok {Fr H0 H : Hp} {M : Mem} {v : V} {d : D} {k : Bool → Mem → Prop} {Q : Bool → Hp → Prop} (w : Wd X.K Fr H0 M H) (r : Dat X.K H0 v d) (h : rdTru d M k) (c : ContT X.K Fr H0 k Q) : ∃ b, TruV X.K v H b ∧ Q b H := by
  have fin : ∀ ds, asR M d = some ds → k (!ds.isEmpty) M → ∃ b, TruV X.K v H b ∧ Q b H := fun ds e h => by
    obtain ⟨a, ws, rfl, hs, hd⟩ := asR_ok w r e
    exact ⟨_, .inl ⟨_, hs, rfl⟩, c _ H0 H M (Same.refl _) w (by rw [← dats_emp hd]; exact h)⟩
  cases d with
  | non => cases r; exact ⟨_, rfl, c _ H0 H M (Same.refl _) w h⟩
  | bl b => cases r; exact ⟨_, rfl, c _ H0 H M (Same.refl _) w h⟩
  | int i => cases r; exact ⟨_, rfl, c _ H0 H M (Same.refl _) w h⟩
  | str y => cases r; exact ⟨_, ⟨h.1, rfl⟩, c _ H0 H M (Same.refl _) w h.2⟩
  | tup ds =>
    cases r with
    | tup hs hd => exact ⟨_, .inr (.inl ⟨_, same_t w.ex hs, rfl⟩), c _ H0 H M (Same.refl _) w (by rw [← dats_emp hd]; exact h)⟩
  | _ =>
    simp only [rdTru] at h
    split at h
    · rename_i ds e; exact fin ds e h
    · exact h.elim
theorem dt_truth {e : Expr} {w : WE} (h : DE X e w) (he : ∀ whole, isTrue e X.env whole = (do let v ← whole; standAt e.pos; holding [v] (truthy v)) := by intro _; rfl) : DT X e (wTru w) :=
  dt_of (pt_truth h.run he) fun σ H Q Γ Fr H0 M k h1 h2 h3 h4 => ⟨Γ, Fr, H0, M, _, h1, h2, h3, fun v H1 H' d M' e1 w1 r1 q1 => tru_ok w1 r1 q1 (fun b H2 H'' M'' e2 w2 q2 => h4 b H2 H'' M'' (e1.trans e2) w2 q2)⟩
/-! ### t[::-1] -/
def rdBack : D → Mem → KD → Prop := fun d M k => match d with
  | .tup ds => k (.tup ds.reverse) M
  | _ => False
theorem Dats.rev {K : PySem.W.Frag} {H : Hp} : ∀ {vs : List V} {ds : List D}, Dats K H vs ds → Dats K H vs.reverse ds.reverse
  | _, _, .nil => .nil
  | _, _, .cons (vs := vs) (ds := ds) h t => by
    rw [List.reverse_cons, List.reverse_cons]
    exact Dats.append (Dats.rev t) (.cons h .nil)
theorem de_back {e : Expr} {we : WE} {k : Nat} {p1 p2 p3 pos : Pos} (he : DE X e we) : DE X (.Subscript e (.Slice none none (some (.UnaryOp .USub (.Constant (.int 1) k p1) p2)) p3) pos) (wUn rdBack we) :=
  de_of (RT.pe_back he.run) fun σ H Q Γ Fr H0 M k h1 h2 h3 h4 => ⟨Γ, Fr, H0, M, _, h1, h2, h3, fun v H1 H' d M' e1 w1 r1 q1 => by
    unfold rdBack at q1
    split at q1
    · cases r1 with
      | tup hs hd => exact ⟨_, _, rfl, same_t w1.ex hs, fun p hp => h4 _ _ _ _ M' (e1.trans (same_new (w1.fresh hp))) (w1.new hp) (.tup (.of upd_same) ((Dats.rev hd).mono (same_new (w1.fresh hp)))) q1⟩
    · exact q1.elim⟩
/-! ### {} -/
def wDNew : WE := fun _ M k => ∀ p, M p = none → k (.cel p) (setM M p (.dct []))
theorem de_dnew {pos : Pos} : DE X (.Dict [] [] pos) wDNew :=
  de_of pe_dnewK fun σ H Q Γ Fr H0 M k h1 h2 h3 h4 p hp => h4 _ H0 _ _ _ (Same.refl _) (h2.newM hp (.dct .nil)) (.cel p) (h3 p (h2.freshM hp))
/-! ### list(x) -/
def rdList : FD := fun ds M k => match ds with
  | [x] => (match seqD M x with | some xs => k (.lst xs) M | none => False)
  | _ => False
theorem calld_list {K : PySem.W.Frag} : CallD K (fun xs H Q => ∃ p ys, xs = [.ref p] ∧ (SqL K H p ys ∨ SqT K H p ys) ∧ ∀ l, H l = none → Q (.ref l) (upd H l (.lst ys))) rdList := fun Fr H0 M H vs ds k Q w r h c => by
  unfold rdList at h
  split at h
  · obtain ⟨v, rfl, rv⟩ := dats1 r
    split at h
    · rename_i xs e
      obtain ⟨a, ws, rfl, hs, hd⟩ := seqD_ok w rv e
      exact ⟨a, ws, rfl, hs, fun l hl => c _ _ _ _ M (same_new (w.fresh hl)) (w.new hl) (.lst upd_same (hd.mono (same_new (w.fresh hl)))) h⟩
    · exact h.elim
  · exact h.elim
theorem de_list {e : Expr} {we : WE} {p pos : Pos} (hm : X.mg "list" = none) (he : DE X e we) (hs : starEach [e] X.env = (false, eval e X.env) :: starEach [] X.env := by rfl) (hg : Gl X "list" := by rfl) (hpl : (backTo pos (starEach [] X.env)).any (·.1) = false := by rfl) :
    DE X (.Call (.Name "list" p) [e] [] pos) (wCall rdList (wCons we wNil)) :=
  de_callTy call_list_of calld_list hm PyProof.Rows.boot_list (da_cons he da_nil hs) hg (by decide) (by decide) hs hpl
theorem vals_strs : ∀ {us : List Value} {ys : List Str}, StrsAre us ys → Vals (ys.map V.str) us
  | _, _, .nil => .nil
  | _, _, .cons y t h => .cons ⟨t, rfl⟩ (vals_strs h)
/-! ### len(set(xs)), sorted(set(xs)), xs a list of texts -/
def rdLenSet : FD := fun ds M k => match ds with
  | [x] => (match asR M x with | some xs => (match strsD xs with | some l => l.length + 1 < scanBound ∧ k (.int (TS.uni l).length) M | none => False) | none => False)
  | _ => False
def rdSortSet : FD := fun ds M k => match ds with
  | [x] => (match asR M x with | some xs => (match strsD xs with | some l => l.length + 1 < scanBound ∧ ∀ ys, ys.Perm (TS.uni l) → sortedS ys = true → k (.lst (ys.map D.str)) M | none => False) | none => False)
  | _ => False
theorem pe_lenSetS {a : Expr} {ta : TE} {p p2 q pos : Pos} (hc : X.calm = true) (hg : Gl X "len") (hm : X.mg "len" = none) (hg2 : Gl X "set") (hm2 : X.mg "set" = none) (ha : PE X a ta)
    (na : starEach [a] X.env = (false, eval a X.env) :: starEach [] X.env) :
    PE X (.Call (.Name "len" p) [.Call (.Name "set" p2) [a] [] q] [] pos) (fun σ H Q => ta σ H fun x H1 => ∃ l, ∃ xs : List Str, x = .ref l ∧ SqL X.K H1 l (xs.map V.str) ∧ xs.length + 1 < scanBound ∧ Q (.int (TS.uni xs).length) H1) := by
  refine ⟨fun pins s σ H Q I h => Call_ (ld_blt I hg hm boot_len ?_)⟩
  refine PyProof.Rows.callWith_builtin1 (PyProof.Rows.args_cons (Call_ (ld_blt I hg2 hm2 boot_set ?_)) rfl) rfl rfl
  refine PyProof.Rows.callWith_type1 (PyProof.Rows.args_cons (thn (ha.run pins s σ H _ I h) fun v s1 ⟨x, H1, I1, r1, q1⟩ => PyProof.Rows.args_nil ?_) na) na rfl
  obtain ⟨l, xs, rfl, hq, hb, q1⟩ := q1
  cases r1
  obtain ⟨its, r, pl, hz⟩ := I1.list hq
  refine TS.call_set (I1.ok.hd hc) pl.isList (by simpa using strsAre_of r) hb fun h' tk ⟨D, g, F, _⟩ hk => ?_
  refine PyProof.Rows.args_nil ?_
  have I2 : Inv X pins σ H1 { s1 with heap := h', toks := tk } := I1.kept fun b o e => hk b o e
  have sz : D.1.size = (TS.uni xs).length := F.sz
  have ul := TS.uni_len xs
  have sb : scanBound = 4096 := rfl
  refine call_len_set g ⟨rfl, rfl, rfl⟩ rfl F.fit (by omega) ⟨.int (TS.uni xs).length, H1, I2.tok _, ⟨_, by rw [sz]⟩, q1⟩
theorem pe_sortSetS {a : Expr} {ta : TE} {p p2 q pos : Pos} (hc : X.calm = true) (hg : Gl X "sorted") (hm : X.mg "sorted" = none) (hg2 : Gl X "set") (hm2 : X.mg "set" = none) (ha : PE X a ta)
    (na : starEach [a] X.env = (false, eval a X.env) :: starEach [] X.env) :
    PE X (.Call (.Name "sorted" p) [.Call (.Name "set" p2) [a] [] q] [] pos) (fun σ H Q => ta σ H fun x H1 => ∃ l, ∃ xs : List Str, x = .ref l ∧ SqL X.K H1 l (xs.map V.str) ∧ xs.length + 1 < scanBound ∧
      ∀ (ys : List Str) (p : Addr), ys.Perm (TS.uni xs) → sortedS ys = true → H1 p = none → Q (.ref p) (upd H1 p (.lst (ys.map V.str)))) := by
  refine ⟨fun pins s σ H Q I h => Call_ (ld_blt I hg hm boot_sorted ?_)⟩
  refine PyProof.Rows.callWith_builtin1 (PyProof.Rows.args_cons (Call_ (ld_blt I hg2 hm2 boot_set ?_)) rfl) rfl rfl
  refine PyProof.Rows.callWith_type1 (PyProof.Rows.args_cons (thn (ha.run pins s σ H _ I h) fun v s1 ⟨x, H1, I1, r1, q1⟩ => PyProof.Rows.args_nil ?_) na) na rfl
  obtain ⟨l, xs, rfl, hq, hb, q1⟩ := q1
  cases r1
  obtain ⟨its, r, pl, hz⟩ := I1.list hq
  refine TS.call_set (I1.ok.hd hc) pl.isList (by simpa using strsAre_of r) hb fun h' tk st hk => ?_
  refine PyProof.Rows.args_nil ?_
  have I2 : Inv X pins σ H1 { s1 with heap := h', toks := tk } := I1.kept fun b o e => hk b o e
  have ul := TS.uni_len xs
  have st2 : TS.SetS X.prog X.w ({ s1 with heap := h', toks := tk } : Shared).heap s1.heap.objs.size (TS.uni xs) := st
  have hb2 : (TS.uni xs).length < scanBound := by omega
  have sb : scanBound = 4096 := rfl
  generalize s1.heap.objs.size = b at st2 ⊢
  generalize ({ s1 with heap := h', toks := tk } : Shared) = s2 at I2 st2 ⊢
  refine TS.sorted_s st2 (TS.uni_nd xs) (I2.ok.hd hc) hb2 fun s' p' out c ys k g o hp hg hv hp2 hs => ?_
  have hn : H1 p' = none := I2.hok.fresh hp
  have hlen : (ys.map V.str).length ≤ sizeLine := by rw [List.length_map, hp2.length_eq, sizeLine_eq]; omega
  have J : Inv X pins σ (upd H1 p' (.lst (ys.map V.str))) { s2 with heap := s'.heap, gens := s'.gens, drawn := s'.drawn, toks := s'.toks } :=
    I2.call (ch := []) (Un.laid k hp hn) (I2.hok.laid k hp ⟨hlen, out.toList, c, vals_strs hv, hg⟩) (by rw [g]; exact I2.bare) (fun _ z => nomatch z)
  have e : s' = { s2 with heap := s'.heap, gens := s'.gens, drawn := s'.drawn, toks := s'.toks } := by cases s'; cases s2; cases o; rfl
  rw [e]
  exact ⟨.ref p', _, J, rfl, q1 ys p' hp2 hs hn⟩
theorem set_ok {Fr H0 H : Hp} {M : Mem} {v : V} {d : D} {xs : List D} {l : List Str} (w : Wd X.K Fr H0 M H) (r : Dat X.K H0 v d) (e : asR M d = some xs) (el : strsD xs = some l) : ∃ a, v = .ref a ∧ SqL X.K H a (l.map V.str) := by
  obtain ⟨a, ws, rfl, hs, hd⟩ := asR_ok w r e
  have := strsD_ok hd el
  subst this
  exact ⟨a, rfl, hs⟩
theorem de_lenSet {a : Expr} {we : WE} {p p2 q pos : Pos} (hc : X.calm = true) (hm : X.mg "len" = none) (hm2 : X.mg "set" = none) (ha : DE X a we) (na : starEach [a] X.env = (false, eval a X.env) :: starEach [] X.env := by rfl)
    (hg : Gl X "len" := by rfl) (hg2 : Gl X "set" := by rfl) : DE X (.Call (.Name "len" p) [.Call (.Name "set" p2) [a] [] q] [] pos) (wCall rdLenSet (wCons we wNil)) :=
  de_of (pe_lenSetS hc hg hm hg2 hm2 ha.run na) fun σ H Q Γ Fr H0 M k h1 h2 h3 h4 => ⟨Γ, Fr, H0, M, _, h1, h2, h3, fun v H1 H' d M' e1 w1 r1 q1 => by
    simp only [wNil, rdLenSet] at q1
    split at q1
    · rename_i xs e
      split at q1
      · rename_i l el
        obtain ⟨b, rfl, hs⟩ := set_ok w1 r1 e el
        exact ⟨b, l, rfl, hs, q1.1, h4 _ H1 H' _ M' e1 w1 (.int _) q1.2⟩
      · exact q1.elim
    · exact q1.elim⟩
theorem dats_strs' {K : PySem.W.Frag} {H : Hp} : ∀ l : List Str, Dats K H (l.map V.str) (l.map D.str)
  | [] => .nil
  | s :: l => .cons (.str s) (dats_strs' l)
theorem de_sortSet {a : Expr} {we : WE} {p p2 q pos : Pos} (hc : X.calm = true) (hm : X.mg "sorted" = none) (hm2 : X.mg "set" = none) (ha : DE X a we) (na : starEach [a] X.env = (false, eval a X.env) :: starEach [] X.env := by rfl)
    (hg : Gl X "sorted" := by rfl) (hg2 : Gl X "set" := by rfl) : DE X (.Call (.Name "sorted" p) [.Call (.Name "set" p2) [a] [] q] [] pos) (wCall rdSortSet (wCons we wNil)) :=
  de_of (pe_sortSetS hc hg hm hg2 hm2 ha.run na) fun σ H Q Γ Fr H0 M k h1 h2 h3 h4 => ⟨Γ, Fr, H0, M, _, h1, h2, h3, fun v H1 H' d M' e1 w1 r1 q1 => by
    simp only [wNil, rdSortSet] at q1
    split at q1
    · rename_i xs e
      split at q1
      · rename_i l el
        obtain ⟨b, rfl, hs⟩ := set_ok w1 r1 e el
        exact ⟨b, l, rfl, hs, q1.1, fun ys p' hp hs2 hn => h4 _ _ _ _ M' (e1.trans (same_new (w1.fresh hn))) (w1.new hn) (.lst upd_same (dats_strs' ys)) (q1.2 ys hp hs2)⟩
      · exact q1.elim
    · exact q1.elim⟩
end
end DL

set_option autoImplicit false
set_option maxRecDepth 100000
set_option maxHeartbeats 4000000
namespace DL
open PySem PySem.Spec PyProof.Rows L2
section
variable {X : Cx}
/-- a module's tuple -/
theorem de_gtup {x : Str} {A : Addr} {vs : List V} {ds : List D} {pos : Pos} (hm : X.mg x = some (.ref A)) (hs : ∀ H, SqT X.K H A vs) (hd : ∀ H, Dats X.K H vs ds) (hg : Gl X x := by rfl) (hb : (x == ("__debug__" : Str)) = false := by decide) : DE X (.Name x pos) (wC (.tup ds)) :=
  de_c (v := .ref A) (pe_glob hg hm rfl hb) fun H => .tup (hs H) (hd H)
end
/-! ### data without cells, and its equality -/
mutual
def clean : D → Bool
  | .non => true
  | .bl _ => true
  | .int _ => true
  | .str s => PyData.strOk s
  | .tup ds => cleans ds
  | .lst ds => cleans ds
  | _ => false
def cleans : List D → Bool
  | [] => true
  | d :: ds => clean d && cleans ds
end
mutual
def deep : D → Nat
  | .tup ds => deeps ds + 1
  | .lst ds => deeps ds + 1
  | _ => 0
def deeps : List D → Nat
  | [] => 0
  | d :: ds => max (deep d) (deeps ds)
end
mutual
theorem clean_toP (M : Mem) : ∀ d, clean d = true → ∃ p, toP M d = some p ∧ p.canLay0 = true ∧ p.depth = deep d
  | .non, _ => ⟨_, rfl, by unfold PyData.canLay0; rfl, by unfold PyData.depth deep; rfl⟩
  | .bl _, _ => ⟨_, rfl, by unfold PyData.canLay0; rfl, by unfold PyData.depth deep; rfl⟩
  | .int _, _ => ⟨_, rfl, by unfold PyData.canLay0; rfl, by unfold PyData.depth deep; rfl⟩
  | .str s, h => ⟨_, rfl, by unfold PyData.canLay0; unfold clean at h; exact h, by unfold PyData.depth deep; rfl⟩
  | .tup ds, h => by
    unfold clean at h
    obtain ⟨ps, e, a, b⟩ := clean_toPs M ds h
    exact ⟨.tuple ps, by unfold toP; rw [e], by unfold PyData.canLay0; exact a, by unfold PyData.depth deep; rw [b]⟩
  | .lst ds, h => by
    unfold clean at h
    obtain ⟨ps, e, a, b⟩ := clean_toPs M ds h
    exact ⟨.list ps, by unfold toP; rw [e], by unfold PyData.canLay0; exact a, by unfold PyData.depth deep; rw [b]⟩
  | .scr _, h => by unfold clean at h; cases h
  | .cel _, h => by unfold clean at h; cases h
  | .ty _, h => by unfold clean at h; cases h
theorem clean_toPs (M : Mem) : ∀ ds, cleans ds = true → ∃ ps, toPs M ds = some ps ∧ PyData.canLayAll0 ps = true ∧ PyData.depthAll ps = deeps ds
  | [], _ => ⟨[], rfl, by unfold PyData.canLayAll0; rfl, by unfold PyData.depthAll deeps; rfl⟩
  | d :: ds, h => by
    unfold cleans at h
    rw [Bool.and_eq_true] at h
    obtain ⟨p, e1, a1, b1⟩ := clean_toP M d h.1
    obtain ⟨ps, e2, a2, b2⟩ := clean_toPs M ds h.2
    exact ⟨p :: ps, by unfold toPs; rw [e1, e2], by unfold PyData.canLayAll0; rw [a1, a2]; rfl, by unfold PyData.depthAll deeps; rw [b1, b2]⟩
end
theorem cleans_mem : ∀ {ds : List D}, (∀ d ∈ ds, clean d = true) → cleans ds = true
  | [], _ => by unfold cleans; rfl
  | d :: ds, h => by
    unfold cleans
    rw [h d List.mem_cons_self, cleans_mem fun e he => h e (List.mem_cons_of_mem _ he)]; rfl
theorem deeps_mem {n : Nat} : ∀ {ds : List D}, (∀ d ∈ ds, deep d ≤ n) → deeps ds ≤ n
  | [], _ => by unfold deeps; omega
  | d :: ds, h => by
    unfold deeps
    have := h d List.mem_cons_self
    have := deeps_mem (n := n) fun e he => h e (List.mem_cons_of_mem _ he)
    omega
theorem shaped_clean {M : Mem} {d : D} (h : clean d = true) (hd : deep d ≤ 64) : ∃ p, toP M d = some p ∧ SeqAt.shaped p = true := by
  obtain ⟨p, e, a, b⟩ := clean_toP M d h
  exact ⟨p, e, by unfold SeqAt.shaped; rw [a, b, decide_eq_true hd]; rfl⟩
theorem toPC_lst {M : Mem} {ds : List D} : toPC M (.lst ds) = toP M (.lst ds) := rfl
/-- xs == [] -/
theorem eq_nil {f : Bool → Bool} {ds : List D} {M : Mem} {k : KD} (h : cleans ds = true) (hd : deeps ds ≤ 63) (hk : k (.bl (f ds.isEmpty)) M) : rdEq f (.lst ds) (.lst []) M k := by
  obtain ⟨ps, e, a, b⟩ := clean_toPs M ds h
  have e1 : toPC M (.lst ds) = some (.list ps) := by
    show toP M (.lst ds) = _
    unfold toP; rw [e]
  show rdEqP f (.lst ds) (.lst []) M k
  unfold rdEqP
  rw [e1, show toPC M (.lst []) = some (.list []) from rfl]
  refine ⟨?_, ?_, ?_⟩
  · unfold SeqAt.shaped PyData.canLay0 PyData.depth
    rw [a, b, decide_eq_true (by omega)]; rfl
  · unfold SeqAt.shaped PyData.canLay0 PyData.depth PyData.canLayAll0 PyData.depthAll; rfl
  · have : PyData.eqv (.list ps) (.list []) = ds.isEmpty := by
      cases ds with
      | nil => cases e; unfold PyData.eqv PyData.eqvAll; rfl
      | cons d ds =>
        unfold toPs at e
        split at e
        · cases e; unfold PyData.eqv PyData.eqvAll; rfl
        · cases e
    rw [this]; exact hk
/-- lists of texts -/
theorem toPs_strs (M : Mem) : ∀ l : List Str, toPs M (l.map D.str) = some (l.map PyData.str)
  | [] => rfl
  | s :: l => by rw [List.map_cons]; unfold toPs toP; rw [toPs_strs M l]; rfl
theorem eqv_strs : ∀ l m : List Str, PyData.eqvAll (l.map .str) (m.map .str) = decide (l = m)
  | [], [] => by unfold PyData.eqvAll; rfl
  | [], _ :: _ => by rw [List.map_nil, List.map_cons]; unfold PyData.eqvAll; simp
  | _ :: _, [] => by rw [List.map_nil, List.map_cons]; unfold PyData.eqvAll; simp
  | a :: l, b :: m => by
    rw [List.map_cons, List.map_cons]
    unfold PyData.eqvAll
    rw [eqv_strs l m]
    unfold PyData.eqv
    rw [Bool.eq_iff_iff]
    simp
theorem eq_strs {f : Bool → Bool} {l m : List Str} {M : Mem} {k : KD} (h1 : ∀ s ∈ l, PyData.strOk s = true) (h2 : ∀ s ∈ m, PyData.strOk s = true) (hk : k (.bl (f (decide (l = m)))) M) : rdEq f (.lst (l.map D.str)) (.lst (m.map D.str)) M k := by
  have sh : ∀ l : List Str, (∀ s ∈ l, PyData.strOk s = true) → SeqAt.shaped (.list (l.map PyData.str)) = true := fun l h => by
    have c : PyData.canLayAll0 (l.map PyData.str) = true ∧ PyData.depthAll (l.map PyData.str) = 0 := by
      induction l with
      | nil => exact ⟨by unfold PyData.canLayAll0; rfl, by unfold PyData.depthAll; rfl⟩
      | cons a l ih =>
        have ih := ih fun s hs => h s (List.mem_cons_of_mem _ hs)
        rw [List.map_cons]
        unfold PyData.canLayAll0 PyData.depthAll
        rw [ih.1, ih.2]
        exact ⟨by unfold PyData.canLay0; rw [h a List.mem_cons_self]; rfl, by unfold PyData.depth; rfl⟩
    unfold SeqAt.shaped PyData.canLay0 PyData.depth
    rw [c.1, c.2]; rfl
  have tp : ∀ l : List Str, toPC M (.lst (l.map D.str)) = some (.list (l.map PyData.str)) := fun l => by
    show toP M (.lst _) = _
    unfold toP; rw [toPs_strs]
  show rdEqP f (.lst (l.map D.str)) (.lst (m.map D.str)) M k
  unfold rdEqP
  rw [tp, tp]
  refine ⟨sh l h1, sh m h2, ?_⟩
  have : PyData.eqv (.list (l.map .str)) (.list (m.map .str)) = decide (l = m) := by unfold PyData.eqv; exact eqv_strs l m
  rw [this]; exact hk
end DL

set_option autoImplicit false
set_option maxRecDepth 100000
set_option maxHeartbeats 4000000
/-! what repr tells of data: nested lists and tuples, bare dicts among them -/
namespace RP
open PySem PySem.Spec PyProof.Rows L2
mutual
inductive DR (K : PySem.W.Frag) (H : Hp) : V → PyData → Prop
  | non : DR K H .non .none
  | bl (b : Bool) : DR K H (.bl b) (.bool b)
  | int (i : Int) : DR K H (.int i) (.int i)
  | str (y : Str) : DR K H (.str y) (.str y)
  | lst {a : Addr} {vs : List V} {ps : List PyData} : SqL K H a vs → DRs K H vs ps → DR K H (.ref a) (.list ps)
  | tup {a : Addr} {vs : List V} {ps : List PyData} : SqT K H a vs → DRs K H vs ps → DR K H (.ref a) (.tuple ps)
  | bare {a : Addr} : Rd H a (.dK []) → DR K H (.ref a) (.dict [])
inductive DRs (K : PySem.W.Frag) (H : Hp) : List V → List PyData → Prop
  | nil : DRs K H [] []
  | cons {v : V} {vs : List V} {p : PyData} {ps : List PyData} : DR K H v p → DRs K H vs ps → DRs K H (v :: vs) (p :: ps)
end
section
variable {X : Cx} {P : Program} {w : World} {pins : List (Addr × Obj)} {σ : List (Option V)} {H : Hp} {s : Shared}
/-- how the value at hand is shown within another -/
def Part (P : Program) (w : World) (s : Shared) (u : Value) (p : PyData) : Prop := ∃ as bs, Reads s.heap u p as ∧ ReadAtMost s.heap p.depth bs ∧ ReprK P w bs s.heap p.depth u p.shown
def Parts (P : Program) (w : World) (s : Shared) (us : List Value) (ps : List PyData) : Prop :=
  ∃ as bs, ReadsAll s.heap us ps as ∧ ReadAtMost s.heap (PyData.depthAll ps) bs ∧ ReprAllK P w bs s.heap (PyData.depthAll ps) us (PyData.shownAll ps)
theorem leaf {u : Value} {p : PyData} (r : Reads s.heap u p []) (h : ReprIs P w u p.shown) : Part P w s u p := ⟨[], [], r, (fun _ z => by cases z), .of_is h _ _ _⟩
/-- a bare dict's place -/
theorem bare_at (I : Inv X pins σ H s) {a : Addr} (e : Rd H a (.dK [])) : ∃ o n, s.heap.get? a = some o ∧ o.cls = .type "dict" ∧ o.data = .dict #[] n ∧ (a == sysModules) = false := by
  obtain ⟨_, hs, vs, r, o, es, ep, g, ex, d, _, pr, _⟩ := dk_rd I.hok e
  cases r
  have : es.toList = [] := by
    cases q : es.toList with
    | nil => rfl
    | cons e l => rw [q] at pr; cases pr
  have he : es = #[] := by cases es; simp only at this; rw [this]
  rw [he] at d
  exact ⟨o, ep, g, ex.1, d, hs⟩
mutual
theorem DR.part (I : Inv X pins σ H s) : ∀ (p : PyData) (v : V) (u : Value), DR X.K H v p → RelV v u → p.showable = true → p.shown.length ≤ sizeLine → Part P w s u p
  | .none, _, _, h, r, _, _ => by cases h; cases r; exact leaf .none (by unfold PyData.shown; exact ReprIs.none)
  | .bool b, _, _, h, r, _, _ => by cases h; cases r; exact leaf (.bool b) (by unfold PyData.shown; exact ReprIs.bool b)
  | .int i, _, _, h, r, hs, _ => by
    cases h; obtain ⟨t, rfl⟩ := r
    exact leaf (.int i t) (by unfold PyData.shown; exact ReprIs.int t (by unfold PyData.showable at hs; simpa using hs))
  | .str y, _, _, h, r, _, hz => by
    cases h; obtain ⟨t, rfl⟩ := r
    exact leaf (.str y t) (by unfold PyData.shown at *; exact ReprIs.str y t hz)
  | .list ps, _, _, h, r, hs, hz => by
    cases h with
    | lst sq hd =>
      cases r
      obtain ⟨its, rv, ⟨o, n, g, hc, _, dt⟩, _⟩ := I.list sq
      have hz2 : (listText (PyData.shownAll ps)).length ≤ sizeLine := by unfold PyData.shown at hz; exact hz
      obtain ⟨as, bs, r1, r2, r3⟩ := DR.parts I ps _ its hd rv (by unfold PyData.showable at hs; exact hs) fun t ht => Nat.le_trans (listText_mem_le ht) hz2
      have rd : Reads s.heap _ (.list ps) _ := .list g hc dt r1
      have dd : PyData.depthAll ps + 1 = PyData.depth (.list ps) := by unfold PyData.depth; rfl
      have nm := not_mem_of_deeper rd (n := PyData.depthAll ps) (by omega) r2
      refine ⟨_, _, rd, ReadAtMost.cons rd (by omega) r2, ?_⟩
      rw [← dd]
      unfold PyData.shown
      cases its with
      | nil =>
        cases r1
        unfold PyData.shownAll
        rw [listText_nil]
        exact ReprK.listEmpty g hc dt
      | cons x l => exact ReprK.list g hc dt nm (by simpa using r3.length_eq) fun i y e => r3.item i y (by simpa using e)
  | .tuple ps, _, _, h, r, hs, hz => by
    cases h with
    | tup sq hd =>
      cases r
      obtain ⟨its, rv, ⟨o, g, hc, n, dt⟩, _⟩ := I.tuple sq
      have hz2 : (tupleText (PyData.shownAll ps)).length ≤ sizeLine := by unfold PyData.shown at hz; exact hz
      obtain ⟨as, bs, r1, r2, r3⟩ := DR.parts I ps _ its hd rv (by unfold PyData.showable at hs; exact hs) fun t ht => Nat.le_trans (tupleText_mem_le ht) hz2
      have rd : Reads s.heap _ (.tuple ps) _ := .tuple g hc dt r1
      have dd : PyData.depthAll ps + 1 = PyData.depth (.tuple ps) := by unfold PyData.depth; rfl
      have nm := not_mem_of_deeper rd (n := PyData.depthAll ps) (by omega) r2
      refine ⟨_, _, rd, ReadAtMost.cons rd (by omega) r2, ?_⟩
      rw [← dd]
      unfold PyData.shown
      exact ReprK.tuple g hc dt nm r3
  | .dict kvs, _, _, h, r, hs, hz => by
    cases h with
    | bare e =>
      cases r
      obtain ⟨o, n, g, hc, dt, sm⟩ := bare_at I e
      have rd : Reads s.heap _ (.dict []) _ := .dict (kvs := []) g hc dt .nil .nil
      refine ⟨_, _, rd, ReadAtMost.cons (n := 0) (bs := []) rd (Nat.zero_le _) (fun _ z => by cases z), ?_⟩
      have dd : PyData.depth (.dict []) = 0 + 1 := by unfold PyData.depth PyData.depthKv; rfl
      rw [dd]
      unfold PyData.shown PyData.shownKv
      exact ReprK.dict g hc dt sm (fun z => by cases z) .nil
theorem DR.parts (I : Inv X pins σ H s) : ∀ (ps : List PyData) (vs : List V) (us : List Value), DRs X.K H vs ps → Vals vs us → PyData.showableAll ps = true → (∀ t ∈ PyData.shownAll ps, t.length ≤ sizeLine) → Parts P w s us ps
  | [], _, _, h, r, _, _ => by
    cases h; cases r
    exact ⟨[], [], .nil, (fun _ z => by cases z), by unfold PyData.shownAll; exact .nil⟩
  | p :: ps, _, _, h, r, hs, hz => by
    cases h with
    | cons h1 h2 =>
      cases r with
      | cons q1 q2 =>
        unfold PyData.showableAll at hs
        rw [Bool.and_eq_true] at hs
        unfold PyData.shownAll at hz
        obtain ⟨a1, b1, x1, x2, x3⟩ := DR.part I p _ _ h1 q1 hs.1 (hz _ List.mem_cons_self)
        obtain ⟨a2, b2, y1, y2, y3⟩ := DR.parts I ps _ _ h2 q2 hs.2 fun t ht => hz t (List.mem_cons_of_mem _ ht)
        refine ⟨_, b1 ++ b2, .cons x1 y1, ?_, ?_⟩
        · unfold PyData.depthAll
          exact (x2.mono (Nat.le_max_left _ _)).append (y2.mono (Nat.le_max_right _ _))
        · unfold PyData.depthAll PyData.shownAll
          exact .cons ((x3.more fun b hb => List.mem_append_left _ hb).level_le (Nat.le_max_left _ _)) (y3.more_le (fun b hb => List.mem_append_right _ hb) (Nat.le_max_right _ _))
end
/-- the same at the outmost place -/
theorem shows (I : Inv X pins σ H s) {a : Addr} {p : PyData} (h : DR X.K H (.ref a) p) (hs : p.showable = true) (hz : p.shown.length ≤ sizeLine) : ∃ T idr, ShowsBy P w s.heap a p T idr := by
  cases h with
  | lst sq hd =>
    rename_i vs ps
    obtain ⟨its, rv, ⟨o, n, g, hc, _, dt⟩, _⟩ := I.list sq
    have hz2 : (listText (PyData.shownAll ps)).length ≤ sizeLine := by unfold PyData.shown at hz; exact hz
    obtain ⟨as, bs, r1, r2, r3⟩ := DR.parts (P := P) (w := w) I ps _ its hd rv (by unfold PyData.showable at hs; exact hs) fun t ht => Nat.le_trans (listText_mem_le ht) hz2
    have rd : Reads s.heap _ (.list ps) _ := .list g hc dt r1
    have dd : PyData.depthAll ps + 1 = PyData.depth (.list ps) := by unfold PyData.depth; rfl
    have nm := not_mem_of_deeper rd (n := PyData.depthAll ps) (by omega) r2
    refine ⟨"list", "list.__repr__", F.slot_list_repr.toG, F.slot_list_str, F.slot_list_format, fun s' k => ⟨o, k _ _ g, hc⟩, fun A E s' Q hg hu hk hQ => ?_⟩
    rw [← dd] at hu
    unfold PyData.shown at hQ
    cases its with
    | nil =>
      cases r1
      unfold PyData.shownAll at hQ
      rw [listText_nil] at hQ
      exact call_list_repr_empty ⟨o, hk _ _ g, hc⟩ (hk _ _ g) dt (hQ s'.heap _ _ fun _ _ z => z)
    | cons x l => exact call_list_reprK g hc dt nm (by simpa using r3.length_eq) (fun i y e => r3.item i y (by simpa using e)) hg (fun b _ => Clear.nil b) hu hk hQ hz2
  | tup sq hd =>
    rename_i vs ps
    obtain ⟨its, rv, ⟨o, g, hc, n, dt⟩, _⟩ := I.tuple sq
    have hz2 : (tupleText (PyData.shownAll ps)).length ≤ sizeLine := by unfold PyData.shown at hz; exact hz
    obtain ⟨as, bs, r1, r2, r3⟩ := DR.parts (P := P) (w := w) I ps _ its hd rv (by unfold PyData.showable at hs; exact hs) fun t ht => Nat.le_trans (tupleText_mem_le ht) hz2
    have rd : Reads s.heap _ (.tuple ps) _ := .tuple g hc dt r1
    have dd : PyData.depthAll ps + 1 = PyData.depth (.tuple ps) := by unfold PyData.depth; rfl
    have nm := not_mem_of_deeper rd (n := PyData.depthAll ps) (by omega) r2
    refine ⟨"tuple", "tuple.__repr__", F.slot_tuple_repr, F.slot_tuple_str, F.slot_tuple_format, fun s' k => ⟨o, k _ _ g, hc⟩, fun A E s' Q hg hu hk hQ => ?_⟩
    rw [← dd] at hu
    unfold PyData.shown at hQ
    exact call_tuple_reprK g hc dt nm r3 hg (fun b _ => Clear.nil b) hu hk hQ hz2
  | bare e =>
    obtain ⟨o, n, g, hc, dt, sm⟩ := bare_at I e
    refine ⟨"dict", "dict.__repr__", F.slot_dict_repr, F.slot_dict_str, F.slot_dict_format, fun s' k => ⟨o, k _ _ g, hc⟩, fun A E s' Q hg hu hk hQ => ?_⟩
    have dd : PyData.depth (.dict []) = 0 + 1 := by unfold PyData.depth PyData.depthKv; rfl
    rw [dd] at hu
    unfold PyData.shown PyData.shownKv at hQ
    exact call_dict_reprK (as := []) g hc dt sm (fun z => by cases z) .nil hg (fun b _ => Clear.nil b) hu hk hQ (by unfold PyData.shown PyData.shownKv at hz; exact hz)
end
def rRepr (K : PySem.W.Frag) : List V → Hp → VK → Prop := fun xs H Q => ∃ v p, xs = [v] ∧ DR K H v p ∧ p.showable = true ∧ p.shown.length ≤ sizeLine ∧ p.depth ≤ 64 ∧ Q (.str p.shown) H
theorem call_repr {X : Cx} {k : Nat} (hr : DG.RoomG k X.A) : CallR X (.builtin "repr") (rRepr X.K) := by
  intro pins s σ H xs us Q I rs h
  obtain ⟨v, p, rfl, hd, hs, hz, dp, q⟩ := h
  obtain ⟨u, rfl, r⟩ := vals1 rs
  have un := hr.r.un
  cases v with
  | ref a =>
    cases r
    obtain ⟨T, idr, S⟩ := shows (P := X.prog) (w := X.w) I hd hs hz
    refine call_repr_slot (by omega) (S.typeIs s fun _ _ z => z) S.slotRepr (S.call X.A.in1 _ s _ hr.g (by show X.A.units + 1 + p.depth < cLine; omega) (fun _ _ z => z) fun h' u' tk hk => ⟨_, _, rfl, ?_⟩)
    exact ⟨.str p.shown, H, I.kept (t' := tk) fun b o e => hk b o e, ⟨_, rfl⟩, q⟩
  | non =>
    cases hd; cases r
    unfold PyData.shown at q
    exact PySem.P.repr_of_none ⟨.str _, H, I.tok _, ⟨_, rfl⟩, q⟩
  | bl b =>
    cases hd; cases r
    unfold PyData.shown at q
    exact PySem.P.repr_of_bool ⟨.str _, H, I.tok _, ⟨_, rfl⟩, q⟩
  | int i =>
    cases hd; obtain ⟨t, rfl⟩ := r
    unfold PyData.shown at q
    exact PySem.P.repr_of_int (by unfold PyData.showable at hs; simpa using hs) ⟨.str _, H, I.tok _, ⟨_, rfl⟩, q⟩
  | str y =>
    cases hd; obtain ⟨t, rfl⟩ := r
    unfold PyData.shown at q hz
    exact PySem.P.repr_of_str ⟨.str _, H, I.tok _, ⟨_, rfl⟩, q⟩ hz
  | _ => cases hd
/-- str(x) of what is no text -/
def rStr (K : PySem.W.Frag) : List V → Hp → VK → Prop := fun xs H Q => ∃ v p, xs = [v] ∧ DR K H v p ∧ p.showable = true ∧ p.shown.length ≤ sizeLine ∧ p.depth ≤ 64 ∧ (∀ y, v ≠ .str y) ∧ Q (.str p.shown) H
theorem call_str {X : Cx} {k : Nat} (hr : DG.RoomG k X.A) : CallR X (.type "str") (rStr X.K) := by
  intro pins s σ H xs us Q I rs h
  obtain ⟨v, p, rfl, hd, hs, hz, dp, nt, q⟩ := h
  obtain ⟨u, rfl, r⟩ := vals1 rs
  have un := hr.r.un
  cases v with
  | ref a =>
    cases r
    have sh : ∀ (P : Program) (w : World), ∃ T idr, ShowsBy P w s.heap a p T idr := fun P w => shows I hd hs hz
    refine callType_new F.called_str (by decide) (F.typeCall_str_1 _) (F.newCall_str_1 _) (fun obj => F.args_object_init_2 obj _) F.entry_str_new
      (meets_str_new (S := fun A' R s' => A'.guards = some [] ∧ A'.units + (p.depth + 2) < cLine ∧ (∀ b o, s.heap.get? b = some o → s'.heap.get? b = some o) ∧
        ∀ h' u tk, (∀ b o, s'.heap.get? b = some o → h'.get? b = some o) → R (.ok (.ret (.str p.shown u))) { s' with heap := h', toks := tk }) fun P w A' R s' z => ?_) ?_
    · obtain ⟨T, idr, S⟩ := sh P w
      exact wpAny_strOf_slot rfl (by have := z.2.1; show A'.units + 1 + 1 < cLine; omega) (S.typeIs s' z.2.2.1) S.slotStr S.slotRepr
        (S.call A'.in1.in1 _ s' _ z.1 (by have := z.2.1; show A'.units + 1 + 1 + p.depth < cLine; omega) z.2.2.1 fun h' u tk hk => ⟨_, _, rfl, z.2.2.2 h' u tk hk⟩)
    · exact ⟨hr.g, (by show X.A.units + 1 + (p.depth + 2) < cLine; omega), (fun _ _ z => z), fun h' u tk hk => ⟨typeIs_str _ _ _, ⟨.str p.shown, H, I.kept (t' := tk) fun b o e => hk b o e, ⟨_, rfl⟩, q⟩⟩⟩
  | non =>
    cases hd; cases r
    unfold PyData.shown at q
    exact PySem.P.str_of_none ⟨.str _, H, I.tok _, ⟨_, rfl⟩, q⟩
  | bl b =>
    cases hd; cases r
    unfold PyData.shown at q
    exact PySem.P.str_of_bool ⟨.str _, H, I.tok _, ⟨_, rfl⟩, q⟩
  | int i =>
    cases hd; obtain ⟨t, rfl⟩ := r
    unfold PyData.shown at q
    exact PySem.P.str_of_int (by unfold PyData.showable at hs; simpa using hs) ⟨.str _, H, I.tok _, ⟨_, rfl⟩, q⟩
  | str y => exact absurd rfl (nt y)
  | _ => cases hd
end RP

set_option autoImplicit false
set_option maxRecDepth 100000
set_option maxHeartbeats 4000000
/-! repr in the layer; truths as numbers; a text's capitals; str() of anything -/
namespace DL
open PySem PySem.Spec PyProof.Rows L2
mutual
def toR (M : Mem) : D → Option PyData
  | .non => some .none
  | .bl b => some (.bool b)
  | .int i => some (.int i)
  | .str s => some (.str s)
  | .tup ds => match toRs M ds with | some ps => some (.tuple ps) | none => none
  | .lst ds => match toRs M ds with | some ps => some (.list ps) | none => none
  | .cel a => match M a with | some (.dct []) => some (.dict []) | _ => none
  | _ => none
def toRs (M : Mem) : List D → Option (List PyData)
  | [] => some []
  | d :: ds => match toR M d, toRs M ds with | some p, some ps => some (p :: ps) | _, _ => none
end
section
variable {K : PySem.W.Frag} {Fr H0 H : Hp} {M : Mem}
mutual
theorem toR_ok (w : Wd K Fr H0 M H) : ∀ (d : D) (v : V) (p : PyData), Dat K H0 v d → toR M d = some p → RP.DR K H v p
  | .non, _, _, .non, e => by cases e; exact .non
  | .bl _, _, _, .bl b, e => by cases e; exact .bl b
  | .int _, _, _, .int b, e => by cases e; exact .int b
  | .str _, _, _, .str b, e => by cases e; exact .str b
  | .tup ds, _, _, .tup hs hd, e => by
    unfold toR at e
    split at e
    · rename_i ps q; cases e; exact .tup (same_t w.ex hs) (toRs_ok w ds _ ps hd q)
    · cases e
  | .lst ds, _, _, .lst hs hd, e => by
    unfold toR at e
    split at e
    · rename_i ps q; cases e; exact .lst (.of (w.ex _ _ hs)) (toRs_ok w ds _ ps hd q)
    · cases e
  | .cel a, _, _, .cel _, e => by
    unfold toR at e
    split at e
    · rename_i q
      cases e
      obtain ⟨_, o, ho, hc⟩ := w.mem _ _ q
      cases hc with
      | dct r => cases r; exact .bare (.inl ho)
    · cases e
  | .scr _, _, _, _, e => by cases e
  | .ty _, _, _, _, e => by cases e
theorem toRs_ok (w : Wd K Fr H0 M H) : ∀ (ds : List D) (vs : List V) (ps : List PyData), Dats K H0 vs ds → toRs M ds = some ps → RP.DRs K H vs ps
  | [], _, _, .nil, e => by cases e; exact .nil
  | d :: ds, _, _, .cons h t, e => by
    unfold toRs at e
    split at e
    · rename_i p ps q1 q2
      cases e
      exact .cons (toR_ok w d _ p h q1) (toRs_ok w ds _ ps t q2)
    · cases e
end
def rdRepr : FD := fun ds M k => match ds with
  | [x] => (match toR M x with | some p => p.showable = true ∧ p.shown.length ≤ sizeLine ∧ p.depth ≤ 64 ∧ k (.str p.shown) M | none => False)
  | _ => False
theorem calld_repr : CallD K (RP.rRepr K) rdRepr := fun Fr H0 M H vs ds k Q w r h c => by
  unfold rdRepr at h
  split at h
  · obtain ⟨v, rfl, rv⟩ := dats1 r
    split at h
    · rename_i p e
      exact ⟨v, p, rfl, toR_ok w _ _ _ rv e, h.1, h.2.1, h.2.2.1, c _ H0 H _ M (Same.refl _) w (.str _) h.2.2.2⟩
    · exact h.elim
  · exact h.elim
end
theorem boot_repr : bootBuiltins "repr" = some (.builtin "repr") := by decide +kernel
theorem de_repr {X : Cx} {k : Nat} {e : Expr} {we : WE} {p pos : Pos} (hr : DG.RoomG k X.A) (hm : X.mg "repr" = none) (he : DE X e we) (hs : starEach [e] X.env = (false, eval e X.env) :: starEach [] X.env := by rfl) (hg : Gl X "repr" := by rfl) (hpl : (backTo pos (starEach [] X.env)).any (·.1) = false := by rfl) :
    DE X (.Call (.Name "repr" p) [e] [] pos) (wCall rdRepr (wCons we wNil)) :=
  de_callB (RP.call_repr hr) calld_repr hm boot_repr (da_cons he da_nil hs) hg (by decide) (by decide) hs hpl
end DL

set_option autoImplicit false
set_option maxRecDepth 100000
set_option maxHeartbeats 4000000
/-! a tuple of anything, held against the empty one -/
namespace EQ
open PySem PySem.Spec PyProof.Rows L2
def rMt (K : PySem.W.Frag) (f : Bool → Bool) : R2 := fun x y H Q => ∃ a b xs, x = .ref a ∧ y = .ref b ∧ SqT K H a xs ∧ SqT K H b [] ∧ Q (.bl (f xs.isEmpty)) H
theorem mt_size {xs : List V} {its : List Value} (r : Vals xs its) : ((List.range (min its.toArray.size (#[] : Array Value).size)).all (fun _ => true) && its.toArray.size == (#[] : Array Value).size) = xs.isEmpty := by
  cases r <;> simp
section
variable {X : Cx}
theorem op_eqMt (hu : X.A.units + 64 < cLine) : OpR X (compareOp .Eq) (rMt X.K id) := by
  intro pins s σ H x y v u Q I rx ry h
  obtain ⟨a, b, xs, rfl, rfl, ha, hb, q⟩ := h
  cases rx; cases ry
  obtain ⟨its, r, pl, _⟩ := I.tuple ha
  obtain ⟨jts, r2, pl2, _⟩ := I.tuple hb
  cases r2
  refine SeqAt.eq_tupleAt (e := fun _ => true) pl pl2 (by omega) (fun j h1 h2 => absurd h2 (Nat.not_lt_zero _)) ?_
  have e : ((List.range (min its.toArray.size ([] : List Value).toArray.size)).all (fun _ => true) && its.toArray.size == ([] : List Value).toArray.size) = xs.isEmpty := mt_size r
  rw [e]
  exact ⟨.bl _, H, I, rfl, q⟩
theorem op_neMt (hu : X.A.units + 64 < cLine) : OpR X (compareOp .NotEq) (rMt X.K not) := by
  intro pins s σ H x y v u Q I rx ry h
  obtain ⟨a, b, xs, rfl, rfl, ha, hb, q⟩ := h
  cases rx; cases ry
  obtain ⟨its, r, pl, _⟩ := I.tuple ha
  obtain ⟨jts, r2, pl2, _⟩ := I.tuple hb
  cases r2
  refine SeqAt.RcNeAt.tuples (e := fun _ => true) pl pl2 (by omega) (fun j h1 h2 => absurd h2 (Nat.not_lt_zero _)) _ _ _ _ ?_
  have e : ((List.range (min its.toArray.size ([] : List Value).toArray.size)).all (fun _ => true) && its.toArray.size == ([] : List Value).toArray.size) = xs.isEmpty := mt_size r
  rw [e]
  exact ⟨.bl _, H, I, rfl, q⟩
end
/-! a text held against a dict -/
open PySem.AutoSeq1 (wpAny_loadPart') in
theorem str_dict0 (b : Str) (u : Tok) (l : Addr) (c : Value) (es : Array DictEntry) (n : Nat) (dd : Option Addr) (sl : Array (Option Value)) :
    Meets (Builtin.«str.__eq__» ⟨[.str b u, .ref l], []⟩) (fun _ R s => s.heap.get? l = some { cls := c, dict := dd, data := .dict es n, slots := sl } ∧ R (.ok (.ret .notImplemented)) s) :=
  .of_wp fun P w A R s h => by
    obtain ⟨hp, g, d, tk, os⟩ := s
    obtain ⟨q1, q2⟩ := h
    wp_walk using wpAny_loadPart' q1, wpAny_load q1
    exact ⟨_, rfl, q2⟩
open PySem.AutoSeq1 (wpAny_loadPart') in
theorem dict_str0 (b : Str) (u : Tok) (l : Addr) (es : Array DictEntry) (n : Nat) (dd : Option Addr) (sl : Array (Option Value)) (f : isSubtype (.type "str") (.type "dict") = pure false) :
    Meets (Builtin.«dict.__eq__» ⟨[.ref l, .str b u], []⟩) (fun _ R s => s.heap.get? l = some { cls := .type "dict", dict := dd, data := .dict es n, slots := sl } ∧ R (.ok (.ret .notImplemented)) s) :=
  .of_wp fun P w A R s h => by
    obtain ⟨hp, g, d, tk, os⟩ := s
    obtain ⟨q1, q2⟩ := h
    wp_walk using wpAny_loadPart' q1, wpAny_load q1
    exact ⟨_, rfl, q2⟩
theorem eq_str_dict {A : Around} {s : Shared} {l : Addr} {o : Obj} {es : Array DictEntry} {n : Nat} (b : Str) (u : Tok) (ho : s.heap.get? l = some o) (hc : o.cls = .type "dict") (hd : o.data = .dict es n) (hu : A.units < cLine) :
    SeqAt.EqAt A s (.str b u) (.ref l) false := fun P w E Q h => by
  obtain ⟨cls, dd, data, sl⟩ := o
  simp only at hc hd
  subst hc hd
  unfold eqBool
  apply wpAny_holding
  refine wpAny_ite_split (fun e => absurd (eq_of_beq e) nofun) fun _ => wpAny_bind ?_
  exact SeqAt.rc_eq_decline_or (k := false) (typeIs_str s b u) ⟨_, ho, rfl⟩ (by decide) PySem.F.sub_dict_str PySem.F.slot_str_eq PySem.F.slot_dict_eq_refl
    (fun _ z => call_meets PySem.F.slot_str_eq (typeIs_str s b u) PySem.F.entry_str_eq (PySem.F.args_str_eq_2 _ _) (str_dict0 b u l (.type "dict") es n dd sl) ⟨ho, z⟩)
    (fun _ z => call_meets PySem.F.slot_dict_eq_refl ⟨_, ho, rfl⟩ PySem.F.entry_dict_eq (PySem.F.args_dict_eq_2 _ _) (dict_str0 b u l es n dd sl PySem.F.sub_str_dict) ⟨ho, z⟩)
    (fun _ z => wpAny_of_eq (show isSame (.str b u) (.ref l) = pure false from rfl) z) (.inr hu) (wpAny_truthy_bool h)
/-! such a thing in a list or tuple of texts -/
def Odd (K : PySem.W.Frag) (H : Hp) (x : V) : Prop := ∃ a, x = .ref a ∧ ((∃ xs, SqL K H a xs) ∨ (∃ xs, SqT K H a xs) ∨ ∃ kvs, Rd H a (.dK kvs))
section
variable {X : Cx} {pins : List (Addr × Obj)} {σ : List (Option V)} {H : Hp} {s : Shared}
theorem odd_str (I : Inv X pins σ H s) {A : Around} {x : V} {v : Value} (h : Odd X.K H x) (r : RelV x v) (hu : A.units < cLine) (b : Str) (u : Tok) : SeqAt.EqAt A s (.str b u) v false := by
  obtain ⟨a, rfl, h⟩ := h
  cases r
  rcases h with ⟨xs, h⟩ | ⟨xs, h⟩ | ⟨kvs, h⟩
  · obtain ⟨its, _, pl, _⟩ := I.list h
    exact SeqAt.EqAt.str_list b u pl.isList hu
  · obtain ⟨its, _, pl, _⟩ := I.tuple h
    exact SeqAt.EqAt.str_tuple b u pl hu
  · obtain ⟨_, _, vs, _, o, es, ep, g, ex, d, _⟩ := dk_rd I.hok h
    exact eq_str_dict b u g ex.1 d hu
def rInOdd (K : PySem.W.Frag) (f : Bool → Bool) : R2 := fun x y H Q => ∃ p, ∃ l : List Str, y = .ref p ∧ (SqL K H p (l.map V.str) ∨ SqT K H p (l.map V.str)) ∧ Odd K H x ∧ Q (.bl (f false)) H
theorem texts_odd (I : Inv X pins σ H s) {A : Around} {x : V} {v : Value} (h : Odd X.K H x) (r : RelV x v) (hu : A.units < cLine) : ∀ {l : List Str} {us : List Value}, Vals (l.map V.str) us → ∀ z ∈ us, SeqAt.EqAt A s z v ((fun _ => false) z)
  | [], _, .nil => fun z hz => by cases hz
  | b :: l, _, .cons r1 r2 => fun z hz => by
    rcases List.mem_cons.mp hz with e | e
    · obtain ⟨u, e1⟩ := r1
      rw [e, e1]; exact odd_str I h r hu b u
    · exact texts_odd I h r hu r2 z e
theorem op_inOdd (hu : X.A.units + 64 < cLine) : OpR X (compareOp .In) (rInOdd X.K id) := by
  intro pins s σ H x y v u Q I rx ry h
  obtain ⟨p, l, rfl, hq, ho, q⟩ := h
  cases ry
  have no : ∀ us : List Value, us.toArray.any (fun _ => false) = false := fun us => by simp
  rcases hq with hq | hq
  · obtain ⟨its, r, pl, _⟩ := I.list hq
    refine SeqAt.in_listAt (fun _ => false) pl.isList (fun z hz => texts_odd I ho rx (by show X.A.units + 1 < _; omega) r z (by simpa using hz)) ?_
    rw [no]; exact ⟨.bl _, H, I, rfl, q⟩
  · obtain ⟨its, r, pl, _⟩ := I.tuple hq
    refine SeqAt.in_tupleAt (fun _ => false) pl (fun z hz => texts_odd I ho rx (by show X.A.units + 1 < _; omega) r z (by simpa using hz)) ?_
    rw [no]; exact ⟨.bl _, H, I, rfl, q⟩
theorem op_ninOdd (hu : X.A.units + 64 < cLine) : OpR X (compareOp .NotIn) (rInOdd X.K not) := by
  intro pins s σ H x y v u Q I rx ry h
  obtain ⟨p, l, rfl, hq, ho, q⟩ := h
  cases ry
  have no : ∀ us : List Value, us.toArray.any (fun _ => false) = false := fun us => by simp
  rcases hq with hq | hq
  · obtain ⟨its, r, pl, _⟩ := I.list hq
    refine SeqAt.notIn_listAt (fun _ => false) pl.isList (fun z hz => texts_odd I ho rx (by show X.A.units + 1 < _; omega) r z (by simpa using hz)) ?_
    rw [no]; exact ⟨.bl _, H, I, rfl, q⟩
  · obtain ⟨its, r, pl, _⟩ := I.tuple hq
    refine SeqAt.notIn_tupleAt (fun _ => false) pl (fun z hz => texts_odd I ho rx (by show X.A.units + 1 < _; omega) r z (by simpa using hz)) ?_
    rw [no]; exact ⟨.bl _, H, I, rfl, q⟩
end
end EQ

set_option autoImplicit false
set_option maxRecDepth 100000
set_option maxHeartbeats 4000000
/-! held against the empty tuple; anything looked for among texts -/
namespace DL
open PySem PySem.Spec PyProof.Rows L2
def rdEqMt (f : Bool → Bool) : D → D → Mem → KD → Prop := fun x y M k => match x, y with
  | .tup ds, .tup [] => k (.bl (f ds.isEmpty)) M
  | _, _ => False
section
variable {X : Cx} {K : PySem.W.Frag}
theorem opd_mt {f : Bool → Bool} : OpD K (EQ.rMt K f) (rdEqMt f) := fun Fr H0 M H x y vx vy k Q w rx ry h c => by
  unfold rdEqMt at h
  split at h
  · cases rx with
    | tup h1 d1 =>
      cases ry with
      | tup h2 d2 =>
        cases d2
        refine ⟨_, _, _, rfl, rfl, same_t w.ex h1, same_t w.ex h2, c _ H0 H _ M (Same.refl _) w (.bl _) ?_⟩
        have : ∀ {vs : List V} {ds : List D}, Dats K H0 vs ds → vs.isEmpty = ds.isEmpty := fun h => by cases h <;> rfl
        rw [this d1]; exact h
  · exact h.elim
theorem c_eqMt {k : Nat} (hr : DG.RoomG k X.A) : CmpD X .Eq (rdEqMt id) := ⟨_, EQ.op_eqMt hr.r.units, opd_mt⟩
theorem c_neMt {k : Nat} (hr : DG.RoomG k X.A) : CmpD X .NotEq (rdEqMt not) := ⟨_, EQ.op_neMt hr.r.units, opd_mt⟩
/-- none of the dicts whose keys are tuples -/
def oldC : Cell → Bool
  | .dnt .. => false
  | .rng .. => false
  | .ctab .. => false
  | .dcf .. => false
  | _ => true
/-- a list, a tuple, a dict -/
def oddD (M : Mem) : D → Bool
  | .tup _ => true
  | .lst _ => true
  | .cel a => (M a).any oldC
  | _ => false
def rdInX (f : Bool → Bool) : D → D → Mem → KD → Prop := fun x y M k => match seqD M y with
  | some ds => (match strsD ds with
    | some l => (match flatD x with
      | some v => k (.bl (f (inV v (l.map V.str)))) M
      | none => oddD M x = true ∧ k (.bl (f false)) M)
    | none => False)
  | none => False
theorem odd_ok {Fr H0 H : Hp} {M : Mem} {v : V} {d : D} (w : Wd K Fr H0 M H) (r : Dat K H0 v d) (h : oddD M d = true) : EQ.Odd K H v := by
  cases d with
  | tup ds => cases r with | tup hs hd => exact ⟨_, rfl, .inr (.inl ⟨_, same_t w.ex hs⟩)⟩
  | lst ds => cases r with | lst hs hd => exact ⟨_, rfl, .inl ⟨_, .of (w.ex _ _ hs)⟩⟩
  | cel a =>
    cases r
    have h : (M a).any oldC = true := h
    cases q : M a with
    | none => rw [q] at h; cases h
    | some c =>
      rw [q] at h
      obtain ⟨_, o, ho, hc⟩ := w.mem _ _ q
      cases hc with
      | dnt _ _ _ _ => cases h
      | rng _ _ => cases h
      | tab _ => cases h
      | dcf _ => cases h
      | lst rd => exact ⟨_, rfl, .inl ⟨_, .of ho⟩⟩
      | dct rd => exact ⟨_, rfl, .inr (.inr ⟨_, .inl ho⟩)⟩
  | _ => cases h
theorem opd_inX {f : Bool → Bool} {neg : Bool} (hf : ∀ c, f c = if neg then !c else c) : OpD K (fun x y H Q => rIn K neg x y H Q ∨ EQ.rInOdd K f x y H Q) (rdInX f) := fun Fr H0 M H x y vx vy k Q w rx ry h c => by
  unfold rdInX at h
  split at h
  · rename_i ds e
    obtain ⟨a, vs, rfl, hs, hd⟩ := seqD_ok w ry e
    split at h
    · rename_i l el
      have := strsD_ok hd el
      subst this
      split at h
      · rename_i v e1
        obtain ⟨rfl, f1⟩ := flatD_ok rx e1
        rw [hf] at h
        refine .inl ⟨a, _, rfl, hs, f1, flat_strs l, ?_⟩
        cases neg
        · exact c _ H0 H _ M (Same.refl _) w (.bl _) h
        · exact c _ H0 H _ M (Same.refl _) w (.bl _) h
      · exact .inr ⟨a, l, rfl, hs, odd_ok w rx h.1, c _ H0 H _ M (Same.refl _) w (.bl _) h.2⟩
    · exact h.elim
  · exact h.elim
theorem c_inX {k : Nat} (hr : DG.RoomG k X.A) : CmpD X .In (rdInX id) := ⟨_, op_in_seq.or (EQ.op_inOdd hr.r.units), opd_inX fun _ => rfl⟩
theorem c_ninX {k : Nat} (hr : DG.RoomG k X.A) : CmpD X .NotIn (rdInX not) := ⟨_, op_notIn_seq.or (EQ.op_ninOdd hr.r.units), opd_inX fun _ => rfl⟩
end
end DL

set_option autoImplicit false
set_option maxRecDepth 100000
set_option maxHeartbeats 4000000
/-! str() of what is no text, a text's capitals -/
namespace DL
open PySem PySem.Spec PyProof.Rows L2
def rdStr : FD := fun ds M k => match ds with
  | [.str _] => False
  | [x] => (match toR M x with | some p => p.showable = true ∧ p.shown.length ≤ sizeLine ∧ p.depth ≤ 64 ∧ k (.str p.shown) M | none => False)
  | _ => False
theorem calld_str {K : PySem.W.Frag} : CallD K (RP.rStr K) rdStr := fun Fr H0 M H vs ds k Q w r h c => by
  unfold rdStr at h
  split at h
  · exact h.elim
  · rename_i x hx
    obtain ⟨v, rfl, rv⟩ := dats1 r
    split at h
    · rename_i p e
      refine ⟨v, p, rfl, toR_ok w _ _ _ rv e, h.1, h.2.1, h.2.2.1, fun y z => ?_, c _ H0 H _ M (Same.refl _) w (.str _) h.2.2.2⟩
      subst z
      cases rv
      exact hx _ rfl
    · exact h.elim
  · exact h.elim
theorem boot_str : bootBuiltins "str" = some (.type "str") := by decide +kernel
section
variable {X : Cx}
theorem de_strof {k : Nat} {e : Expr} {we : WE} {p pos : Pos} (hr : DG.RoomG k X.A) (hm : X.mg "str" = none) (he : DE X e we) (hs : starEach [e] X.env = (false, eval e X.env) :: starEach [] X.env := by rfl) (hg : Gl X "str" := by rfl) (hpl : (backTo pos (starEach [] X.env)).any (·.1) = false := by rfl) :
    DE X (.Call (.Name "str" p) [e] [] pos) (wCall rdStr (wCons we wNil)) :=
  de_callTy (RP.call_str hr) calld_str hm boot_str (da_cons he da_nil hs) hg (by decide) (by decide) hs hpl
theorem pe_upper {o : Expr} {to : TE} {apos pos : Pos} (ho : PE X o to) (hbase : attributeBase o "upper" X.env (eval o X.env) = eval o X.env) (hline : (apos.endLine == pos.line) = true) :
    PE X (.Call (.Attribute o "upper" apos) [] [] pos) (fun σ H Q => to σ H fun x H1 => ∃ z : Str, x = .str z ∧ z.length ≤ 5592405 ∧ Q (.str (Txt.upper z)) H1) := by
  refine ⟨fun pins s σ H Q I h => wpAny_Call_method0_late hbase hline (thn (ho.run pins s σ H _ I h) fun v s1 ⟨x, H1, I1, r1, q1⟩ => ?_)⟩
  obtain ⟨z, rfl, hz, q1⟩ := q1
  obtain ⟨tz, rfl⟩ := r1
  refine ⟨"str", _, PySem.F.plainAttrs_str, PySem.F.slot_str_upper, PySem.F.type_str_upper, typeIs_str _ _ _, (fun _ e => nomatch e), ?_⟩
  refine Calls.callWith_builtin rfl (PySem.evalArgs_none (PySem.SC.upper (PyProof.Rows.short24 (by have := PyProof.Rows.len_upper z; omega)) ?_))
  exact ⟨.str (Txt.upper z), H1, I1.tok _, ⟨_, rfl⟩, q1⟩
def rdUpper : D → Mem → KD → Prop := fun d M k => match d with
  | .str z => z.length ≤ 5592405 ∧ k (.str (Txt.upper z)) M
  | _ => False
theorem de_upper {o : Expr} {wo : WE} {apos pos : Pos} (ho : DE X o wo) (hbase : attributeBase o "upper" X.env (eval o X.env) = eval o X.env := by rfl) (hline : (apos.endLine == pos.line) = true := by rfl) :
    DE X (.Call (.Attribute o "upper" apos) [] [] pos) (wUn rdUpper wo) :=
  de_of (pe_upper ho.run hbase hline) fun σ H Q Γ Fr H0 M k h1 h2 h3 h4 => ⟨Γ, Fr, H0, M, _, h1, h2, h3, fun v H1 H' d M' e1 w1 r1 q1 => by
    unfold rdUpper at q1
    split at q1
    · cases r1; exact ⟨_, rfl, q1.1, h4 _ H1 H' _ M' e1 w1 (.str _) q1.2⟩
    · exact q1.elim⟩
/-! + and - where a truth may stand for a number -/
def numV : V → Option Int
  | .int i => some i
  | .bl b => some (if b = true then 1 else 0)
  | _ => none
def numD : D → Option Int
  | .int i => some i
  | .bl b => some (if b = true then 1 else 0)
  | _ => none
def isI : D → Bool
  | .int _ => true
  | _ => false
def rNum (g : Int → Int → Int) : R2 := fun x y H Q => (∃ i j, x = .int i ∧ y = .int j ∧ Q (.int (g i j)) H) ∨ (∃ b j, x = .bl b ∧ y = .int j ∧ Q (.int (g (if b = true then 1 else 0) j)) H) ∨ ∃ i b, x = .int i ∧ y = .bl b ∧ Q (.int (g i (if b = true then 1 else 0))) H
theorem op_addNum : OpR X (binaryOp .Add) (rNum fun i j => i + j) := by
  intro pins s σ H x y v u Q I rx ry h
  rcases h with ⟨i, j, rfl, rfl, q⟩ | ⟨i, j, rfl, rfl, q⟩ | ⟨i, j, rfl, rfl, q⟩
  · exact op_add pins s σ H _ _ v u Q I rx ry ⟨i, j, rfl, rfl, q⟩
  · obtain ⟨t, rfl⟩ := ry; cases rx
    exact PySem.IntBool.add_bool_int ⟨.int _, H, I.tok _, ⟨_, rfl⟩, q⟩
  · obtain ⟨t, rfl⟩ := rx; cases ry
    exact add_int_bool ⟨.int _, H, I.tok _, ⟨_, rfl⟩, q⟩
theorem op_subNum : OpR X (binaryOp .Sub) (rNum fun i j => i - j) := by
  intro pins s σ H x y v u Q I rx ry h
  rcases h with ⟨i, j, rfl, rfl, q⟩ | ⟨i, j, rfl, rfl, q⟩ | ⟨i, j, rfl, rfl, q⟩
  · exact op_sub pins s σ H _ _ v u Q I rx ry ⟨i, j, rfl, rfl, q⟩
  · obtain ⟨t, rfl⟩ := ry; cases rx
    exact PySem.IntBool.sub_bool_int ⟨.int _, H, I.tok _, ⟨_, rfl⟩, q⟩
  · obtain ⟨t, rfl⟩ := rx; cases ry
    exact PySem.IntBool.sub_int_bool ⟨.int _, H, I.tok _, ⟨_, rfl⟩, q⟩
def rdNum (g : Int → Int → Int) : D → D → Mem → KD → Prop := fun x y M k => (isI x || isI y) = true ∧ match numD x, numD y with
  | some i, some j => k (.int (g i j)) M
  | _, _ => False
theorem opd_num {K : PySem.W.Frag} {g : Int → Int → Int} : OpD K (rNum g) (rdNum g) := fun Fr H0 M H x y vx vy k Q w rx ry h c => by
  obtain ⟨h1, h2⟩ := h
  cases x with
  | int i =>
    cases y with
    | int j => cases rx; cases ry; exact .inl ⟨_, _, rfl, rfl, c _ H0 H _ M (Same.refl _) w (.int _) h2⟩
    | bl b => cases rx; cases ry; exact .inr (.inr ⟨_, _, rfl, rfl, c _ H0 H _ M (Same.refl _) w (.int _) h2⟩)
    | _ => exact h2.elim
  | bl b =>
    cases y with
    | int j => cases rx; cases ry; exact .inr (.inl ⟨_, _, rfl, rfl, c _ H0 H _ M (Same.refl _) w (.int _) h2⟩)
    | bl b => cases h1
    | _ => exact h2.elim
  | _ => exact h2.elim
theorem de_addN {a b : Expr} {wa wb : WE} {pos : Pos} (ha : DE X a wa) (hb : DE X b wb) : DE X (.BinOp a .Add b pos) (wOp (rdNum fun i j => i + j) wa wb) := de_op op_addNum opd_num ha hb
theorem de_subN {a b : Expr} {wa wb : WE} {pos : Pos} (ha : DE X a wa) (hb : DE X b wb) : DE X (.BinOp a .Sub b pos) (wOp (rdNum fun i j => i - j) wa wb) := de_op op_subNum opd_num ha hb
end
end DL

set_option autoImplicit false
set_option maxRecDepth 100000
set_option maxHeartbeats 4000000
/-! data whose showing fits: plain signs, numbers below 10 ** 12, bare dicts alone; its weight and depth -/
namespace DL
open PySem PySem.Spec PyProof.Rows L2
def plain (s : Str) : Bool := s.cps.toList.all fun c => decide (c < 128)
mutual
def fit (N : Nat) (M : Mem) : D → Bool
  | .non => true
  | .bl _ => true
  | .int i => decide (i.natAbs < N)
  | .str s => plain s
  | .tup ds => fits N M ds
  | .lst ds => fits N M ds
  | .cel a => match M a with | some (.dct []) => true | _ => false
  | _ => false
def fits (N : Nat) (M : Mem) : List D → Bool
  | [] => true
  | d :: ds => fit N M d && fits N M ds
end
mutual
def heavy : D → Nat
  | .int _ => 41
  | .str s => s.length
  | .tup ds => heavies ds
  | .lst ds => heavies ds
  | _ => 0
def heavies : List D → Nat
  | [] => 0
  | d :: ds => heavy d + 1 + heavies ds
end
mutual
def far : D → Nat
  | .tup ds => fars ds + 1
  | .lst ds => fars ds + 1
  | .cel _ => 1
  | _ => 0
def fars : List D → Nat
  | [] => 0
  | d :: ds => max (far d) (fars ds)
end
theorem log_small {i : Int} (h : i.natAbs < 10 ^ 12) : i.natAbs.log2 ≤ 40 := by
  by_cases z : i.natAbs = 0
  · rw [z]; decide
  · have : i.natAbs.log2 < 41 := (Nat.log2_lt z).mpr (by omega)
    omega
mutual
theorem fit_R {N : Nat} {M : Mem} (hN : N ≤ 10 ^ 12) : ∀ d, fit N M d = true → ∃ p, toR M d = some p ∧ p.showable = true ∧ p.leavesShort 13 = true ∧ p.weight ≤ heavy d ∧ p.depth = far d
  | .non, _ => ⟨_, rfl, by unfold PyData.showable; rfl, by unfold PyData.leavesShort; rfl, by unfold PyData.weight; omega, by unfold PyData.depth far; rfl⟩
  | .bl _, _ => ⟨_, rfl, by unfold PyData.showable; rfl, by unfold PyData.leavesShort; rfl, by unfold PyData.weight; omega, by unfold PyData.depth far; rfl⟩
  | .int i, h => by
    unfold fit at h
    have h : i.natAbs < 10 ^ 12 := Nat.lt_of_lt_of_le (of_decide_eq_true h) hN
    have lg := log_small h
    refine ⟨_, rfl, by unfold PyData.showable; exact decide_eq_true (by omega), by unfold PyData.leavesShort; exact decide_eq_true (PyData.shown_int_le h), ?_, by unfold PyData.depth far; rfl⟩
    unfold PyData.weight heavy
    split <;> omega
  | .str s, h => by
    unfold fit plain at h
    refine ⟨_, rfl, by unfold PyData.showable; rfl, ?_, by unfold PyData.weight heavy; exact Nat.le_refl _, by unfold PyData.depth far; rfl⟩
    unfold PyData.leavesShort
    rw [List.all_eq_true] at h ⊢
    intro c hc
    have := of_decide_eq_true (h c hc)
    exact decide_eq_true (by omega)
  | .tup ds, h => by
    unfold fit at h
    obtain ⟨ps, e, a, b, c, d⟩ := fits_R hN ds h
    exact ⟨.tuple ps, by unfold toR; rw [e], by unfold PyData.showable; exact a, by unfold PyData.leavesShort; exact b, by unfold PyData.weight heavy; exact c, by unfold PyData.depth far; rw [d]⟩
  | .lst ds, h => by
    unfold fit at h
    obtain ⟨ps, e, a, b, c, d⟩ := fits_R hN ds h
    exact ⟨.list ps, by unfold toR; rw [e], by unfold PyData.showable; exact a, by unfold PyData.leavesShort; exact b, by unfold PyData.weight heavy; exact c, by unfold PyData.depth far; rw [d]⟩
  | .cel a, h => by
    unfold fit at h
    split at h
    · rename_i q
      exact ⟨.dict [], by unfold toR; rw [q], by unfold PyData.showable PyData.showableKv; rfl, by unfold PyData.leavesShort PyData.leavesShortKv; rfl, by unfold PyData.weight PyData.weightKv; omega, by unfold PyData.depth PyData.depthKv far; rfl⟩
    · cases h
  | .scr _, h => by unfold fit at h; cases h
  | .ty _, h => by unfold fit at h; cases h
theorem fits_R {N : Nat} {M : Mem} (hN : N ≤ 10 ^ 12) : ∀ ds, fits N M ds = true → ∃ ps, toRs M ds = some ps ∧ PyData.showableAll ps = true ∧ PyData.leavesShortAll 13 ps = true ∧ PyData.weightAll ps ≤ heavies ds ∧ PyData.depthAll ps = fars ds
  | [], _ => ⟨[], rfl, by unfold PyData.showableAll; rfl, by unfold PyData.leavesShortAll; rfl, by unfold PyData.weightAll heavies; omega, by unfold PyData.depthAll fars; rfl⟩
  | d :: ds, h => by
    unfold fits at h
    rw [Bool.and_eq_true] at h
    obtain ⟨p, e1, a1, b1, c1, d1⟩ := fit_R hN d h.1
    obtain ⟨ps, e2, a2, b2, c2, d2⟩ := fits_R hN ds h.2
    refine ⟨p :: ps, by unfold toRs; rw [e1, e2], by unfold PyData.showableAll; rw [a1, a2]; rfl, by unfold PyData.leavesShortAll; rw [b1, b2]; rfl, ?_, by unfold PyData.depthAll fars; rw [d1, d2]⟩
    unfold PyData.weightAll heavies
    omega
end
/-- repr of such data: some text, the same whenever it is asked -/
theorem r_repr {N : Nat} {M : Mem} {d : D} {k : KD} (hN : N ≤ 10 ^ 12) (h : fit N M d = true) (hh : heavy d ≤ 1000000) (hf : far d ≤ 64) (hk : ∀ p, toR M d = some p → k (.str p.shown) M) : rdRepr [d] M k := by
  obtain ⟨p, e, a, b, c, dd⟩ := fit_R hN d h
  unfold rdRepr
  simp only [e]
  exact ⟨a, PyData.shown_fits (by decide) (by decide) b (by omega), by omega, hk p e⟩
end DL

set_option autoImplicit false
set_option maxRecDepth 100000
set_option maxHeartbeats 4000000
/-! what is shown of plain data is plain; capitals of plain texts -/
namespace DL
open PySem PySem.Spec PyProof.Rows L2
theorem plain_iff {s : Str} : plain s = true ↔ ∀ c ∈ s.cps.toList, c < 128 := by
  unfold plain
  rw [List.all_eq_true]
  exact ⟨fun h c hc => of_decide_eq_true (h c hc), fun h c hc => decide_eq_true (h c hc)⟩
theorem plain_app {s t : Str} (h : plain s = true) (g : plain t = true) : plain (s ++ t) = true := by
  rw [plain_iff] at *
  intro c hc
  have e : (s ++ t).cps.toList = s.cps.toList ++ t.cps.toList := by show (s.cps ++ t.cps).toList = _; simp
  rw [e] at hc
  rcases List.mem_append.mp hc with z | z
  · exact h c z
  · exact g c z
theorem char_plain : ∀ q ∈ [34, 39], ∀ c < 128, (PySem.Builtin.Str.reprChar q c).all (fun x => decide (x < 128)) = true := by decide +kernel
theorem quote_in (x : Str) : reprQuote x ∈ [34, 39] := by
  unfold reprQuote; split <;> simp
theorem fold_plain (q : Nat) (hq : q ∈ [34, 39]) : ∀ (l : List Nat) (acc : Array Nat), (∀ c ∈ l, c < 128) → (∀ c ∈ acc.toList, c < 128) → ∀ c ∈ (l.foldl (fun out c => out ++ (PySem.Builtin.Str.reprChar q c).toArray) acc).toList, c < 128
  | [], acc, _, h => h
  | a :: l, acc, hl, h => by
    rw [List.foldl_cons]
    refine fold_plain q hq l _ (fun c hc => hl c (List.mem_cons_of_mem _ hc)) fun c hc => ?_
    rw [Array.toList_append] at hc
    rcases List.mem_append.mp hc with z | z
    · exact h c z
    · have := List.all_eq_true.mp (char_plain q hq a (hl a List.mem_cons_self)) c (by simpa using z)
      exact of_decide_eq_true this
theorem text_plain {x : Str} (h : plain x = true) : plain (reprText x) = true := by
  rw [plain_iff] at *
  have q := quote_in x
  have q2 : reprQuote x < 128 := by
    simp only [List.mem_cons, List.not_mem_nil, or_false] at q
    omega
  intro c hc
  unfold reprText at hc
  simp only [Array.toList_push, ← Array.foldl_toList] at hc
  rcases List.mem_append.mp hc with z | z
  · exact fold_plain _ q x.cps.toList #[reprQuote x] h (fun c hc => by simp at hc; omega) c z
  · rw [List.mem_singleton] at z; omega
theorem join_plain (sep : Str) (hs : plain sep = true) : ∀ ts : List Str, (∀ t ∈ ts, plain t = true) → plain (Str.join sep ts) = true
  | [], _ => by show plain Str.empty = true; decide
  | [x], h => h x List.mem_cons_self
  | x :: y :: r, h => by
    show plain (x ++ sep ++ Str.join sep (y :: r)) = true
    exact plain_app (plain_app (h x List.mem_cons_self) hs) (join_plain sep hs (y :: r) fun t ht => h t (List.mem_cons_of_mem _ ht))
theorem from_plain : ∀ (ts : List Str) (k : Nat) (acc : Str), plain acc = true → (∀ t ∈ ts, plain t = true) → plain (textFrom k acc ts) = true
  | [], _, acc, h, _ => h
  | t :: ts, k, acc, h, g => by
    refine from_plain ts (k + 1) _ (plain_app (plain_app h ?_) (g t List.mem_cons_self)) fun t ht => g t (List.mem_cons_of_mem _ ht)
    split <;> decide +kernel
theorem list_plain {ts : List Str} (h : ∀ t ∈ ts, plain t = true) : plain (listText ts) = true :=
  plain_app (from_plain ts 0 _ (by decide +kernel) h) (by decide +kernel)
theorem tup_plain {ts : List Str} (h : ∀ t ∈ ts, plain t = true) : plain (tupleText ts) = true := by
  unfold tupleText
  refine plain_app (plain_app (by decide +kernel) (join_plain _ (by decide +kernel) ts h)) ?_
  split <;> decide +kernel
theorem num_plain (i : Int) : plain (Str.ofString (toString i)) = true := by
  rw [plain_iff]
  intro c hc
  rcases Nat.lt_or_ge c 128 with h | h
  · exact h
  · exact absurd hc (int_text_free' c ⟨by omega, by omega⟩ i)
mutual
theorem shown_plain {N : Nat} {M : Mem} : ∀ (d : D) (p : PyData), fit N M d = true → toR M d = some p → plain p.shown = true
  | .non, _, _, e => by cases e; unfold PyData.shown; decide +kernel
  | .bl b, _, _, e => by cases e; unfold PyData.shown; cases b <;> decide +kernel
  | .int i, _, _, e => by cases e; unfold PyData.shown; exact num_plain i
  | .str s, _, h, e => by cases e; unfold PyData.shown; unfold fit at h; exact text_plain h
  | .tup ds, _, h, e => by
    unfold fit at h
    unfold toR at e
    split at e
    · rename_i ps q; cases e; unfold PyData.shown; exact tup_plain (showns_plain ds ps h q)
    · cases e
  | .lst ds, _, h, e => by
    unfold fit at h
    unfold toR at e
    split at e
    · rename_i ps q; cases e; unfold PyData.shown; exact list_plain (showns_plain ds ps h q)
    · cases e
  | .cel a, _, h, e => by
    unfold toR at e
    split at e
    · cases e; unfold PyData.shown PyData.shownKv; decide +kernel
    · cases e
  | .scr _, _, _, e => by cases e
  | .ty _, _, _, e => by cases e
theorem showns_plain {N : Nat} {M : Mem} : ∀ (ds : List D) (ps : List PyData), fits N M ds = true → toRs M ds = some ps → ∀ t ∈ PyData.shownAll ps, plain t = true
  | [], _, _, e => by cases e; unfold PyData.shownAll; intro t ht; cases ht
  | d :: ds, _, h, e => by
    unfold fits at h
    rw [Bool.and_eq_true] at h
    unfold toRs at e
    split at e
    · rename_i p ps q1 q2
      cases e
      unfold PyData.shownAll
      intro t ht
      rcases List.mem_cons.mp ht with z | z
      · rw [z]; exact shown_plain d p h.1 q1
      · exact showns_plain ds ps h.2 q2 t z
    · cases e
end
/-- str of such data that is no text: a plain text, its length bounded by the weight -/
theorem r_str {N : Nat} {M : Mem} {d : D} {k : KD} (hN : N ≤ 10 ^ 12) (h : fit N M d = true) (nt : ∀ s, d ≠ .str s) (hh : heavy d ≤ 1000000) (hf : far d ≤ 64) (hk : ∀ s : Str, plain s = true → s.length ≤ 15 * heavy d + 13 → k (.str s) M) : rdStr [d] M k := by
  obtain ⟨p, e, a, b, c, dd⟩ := fit_R hN d h
  have sl := PyData.shown_le 13 (by decide) p b
  have go : p.showable = true ∧ p.shown.length ≤ sizeLine ∧ p.depth ≤ 64 ∧ k (.str p.shown) M := ⟨a, PyData.shown_fits (by decide) (by decide) b (by omega), by omega, hk _ (shown_plain d p h e) (by
    have : (13 + 2) * p.weight ≤ 15 * heavy d := Nat.mul_le_mul_left 15 c
    omega)⟩
  unfold rdStr
  cases d with
  | str s => exact absurd rfl (nt s)
  | _ => simp only [e]; exact go
theorem upper_plain {s : Str} (h : plain s = true) : plain (Txt.upper s) = true ∧ (Txt.upper s).length = s.length := by
  rw [plain_iff] at h
  rw [upper_ascii h]
  refine ⟨?_, by show (s.cps.map up1).size = s.cps.size; simp⟩
  rw [plain_iff]
  intro c hc
  have hc : c ∈ (s.cps.map up1).toList := hc
  rw [Array.toList_map] at hc
  obtain ⟨x, hx, rfl⟩ := List.mem_map.mp hc
  have := h x hx
  unfold up1
  split <;> omega
end DL

set_option autoImplicit false
set_option maxRecDepth 100000
set_option maxHeartbeats 4000000
/-! a module's dict with text keys: get, an item, in; statements one behind another -/
namespace DL
open PySem PySem.Spec PyProof.Rows L2
inductive Ents : List (Str × V) → List DictEntry → Prop
  | nil : Ents [] []
  | cons {k : Str} {v : V} {kvs : List (Str × V)} {e : DictEntry} {es : List DictEntry} (t : Tok) : e.key = .str k t → RelV v e.val → Ents kvs es → Ents ((k, v) :: kvs) (e :: es)
def lookT {α : Type} (kvs : List (Str × α)) (s : Str) : Option α := (kvs.find? fun p => decide (p.1 = s)).map (·.2)
theorem Ents.refs {kvs : List (Str × V)} {es : List DictEntry} (h : Ents kvs es) : es.any (·.refKey) = false := by
  induction h with
  | nil => rfl
  | cons t h1 _ _ ih =>
    rw [List.any_cons, ih]
    unfold DictEntry.refKey
    rw [h1]; rfl
theorem Ents.find {kvs : List (Str × V)} {es : List DictEntry} (h : Ents kvs es) (s : Str) : (∃ v e, lookT kvs s = some v ∧ es.find? (·.key.isStr s) = some e ∧ RelV v e.val) ∨ (lookT kvs s = none ∧ es.find? (·.key.isStr s) = none) := by
  induction h with
  | nil => exact .inr ⟨rfl, rfl⟩
  | @cons k v kvs e es t h1 h2 _ ih =>
    unfold lookT at ih ⊢
    rw [List.find?_cons, List.find?_cons]
    have e1 : e.key.isStr s = decide (k = s) := by
      rw [h1]
      show (k == s) = _
      by_cases q : k = s <;> simp [q]
    by_cases q : k = s
    · subst q
      simp only [e1, decide_true]
      exact .inl ⟨v, e, rfl, rfl, h2⟩
    · simp only [e1, q, decide_false]
      exact ih
structure MDict (K : PySem.W.Frag) (w : World) (mg : Str → Option Value) (x : Str) (kvs : List (Str × V)) : Prop where
  ex : ∃ a es n, mg x = some (.ref a) ∧ KDict K w a es n ∧ Ents kvs es.toList
theorem ents_ns {K : PySem.W.Frag} {w : World} {a : Addr} {es : Array DictEntry} {n : Nat} {kvs : List (Str × V)} (D : KDict K w a es n) (h : Ents kvs es.toList) (s : Str) :
    ∃ r, PySem.W.nsIn K a s = some r ∧ ((∃ v u, lookT kvs s = some v ∧ r = some u ∧ RelV v u) ∨ (lookT kvs s = none ∧ r = none)) := by
  unfold PySem.W.nsIn
  rw [D.at_]
  simp only
  rcases h.find s with ⟨v, e, h1, h2, h3⟩ | ⟨h1, h2⟩
  · rw [h2]; exact ⟨_, rfl, .inl ⟨v, _, h1, rfl, h3⟩⟩
  · rw [h2, h.refs]; exact ⟨_, rfl, .inr ⟨h1, rfl⟩⟩
section
variable {X : Cx} {x : Str} {kvs : List (Str × V)} {p apos cpos pos : Pos} {e : Expr} {ty : TE}
theorem pe_mget (D : MDict X.K X.w X.mg x kvs) (hg : Gl X x) (he : PE X e ty) (m : M1 X (.Name x p) "get" apos e cpos) (hdb : (x == ("__debug__" : Str)) = false) :
    PE X (.Call (.Attribute (.Name x p) "get" apos) [e] [] cpos) (fun σ H Q => ty σ H fun y H1 => ∃ z, y = .str z ∧ Q ((lookT kvs z).getD .non) H1) := by
  obtain ⟨a, es, n, hm, kd, en⟩ := D.ex
  refine ⟨fun pins s σ H Q I h => ?_⟩
  have ho : PE X (.Name x p) (tC (.ref a)) := pe_glob hg hm rfl hdb
  refine wpAny_Call_method m.base m.few m.line PySem.F.plainAttrs_dict PySem.F.slot_dict_get PySem.F.type_dict_get (thn (ho.run pins s σ H (fun v H1 => v = .ref a ∧ H1 = H) I ⟨rfl, rfl⟩) fun u s1 ⟨v, H1, I1, rx, e1, e2⟩ => ?_)
  subst e1 e2
  obtain rfl : u = Value.ref a := rx
  have mo := PySem.W.mapOf_K (prog := X.prog) (w := X.w) I1.kIn kd.at_ kd.lit
  refine ⟨mo.typeIs, fun b q => ?_, ?_⟩
  · cases q
    obtain ⟨ob, _, _, h1, h2, _⟩ := mo
    exact ⟨ob, h1, h2.2.1⟩
  rw [m.trees]
  refine Calls.callWith_builtin rfl (Calls.evalArgs_plain (Calls.spliced_cons (thn (he.run pins s1 σ H1 _ I1 h) fun iv s2 ⟨y, H2, I2, ry, z, ez, q2⟩ => Calls.spliced_nil ?_)))
  subst ez
  obtain ⟨t, rfl⟩ := (show ∃ t, iv = Value.str z t from ry)
  obtain ⟨r, hr, hv⟩ := ents_ns kd en z
  have mo := PySem.W.mapOf_K (prog := X.prog) (w := X.w) I2.kIn kd.at_ kd.lit
  refine call_meetsIn PySem.F.slot_dict_get mo.typeIs PySem.F.entry_dict_get (PySem.F.args_dict_get_2 _ _) (meets_dict_get (PySem.strKind X.prog X.w) a (PySem.strKind_is X.prog X.w z t) kd.low) ⟨_, mo, ?_⟩
  rw [PySem.W.find_K kd.at_ hr]
  rcases hv with ⟨v, u, h1, rfl, h3⟩ | ⟨h1, rfl⟩
  · rw [h1] at q2; exact ⟨v, H2, I2.tok _, h3, q2⟩
  · rw [h1] at q2; exact ⟨.non, H2, I2.tok _, rfl, q2⟩
theorem pe_mix (D : MDict X.K X.w X.mg x kvs) (hg : Gl X x) (he : PE X e ty) (hs : PlainIx e) (hdb : (x == ("__debug__" : Str)) = false) :
    PE X (.Subscript (.Name x p) e pos) (fun σ H Q => ty σ H fun y H1 => ∃ z v, y = .str z ∧ lookT kvs z = some v ∧ Q v H1) := by
  obtain ⟨a, es, n, hm, kd, en⟩ := D.ex
  have ho : PE X (.Name x p) (tC (.ref a)) := pe_glob hg hm rfl hdb
  refine ⟨fun pins s σ H Q I h => ?_⟩
  refine Subscript_ (thn (ho.run pins s σ H (fun v H1 => v = .ref a ∧ H1 = H) I ⟨rfl, rfl⟩) fun v s1 ⟨x0, H1, I1, r1, e1, e2⟩ => ?_)
  subst e1 e2
  refine thn (he.run pins s1 σ H1 _ I1 h) fun u s2 ⟨y, H2, I2, r2, z, v0, ez, l, q⟩ => ?_
  subst ez
  obtain ⟨r, hr, hv⟩ := ents_ns kd en z
  rcases hv with ⟨v1, u0, h1, rfl, h3⟩ | ⟨h1, _⟩
  · rw [h1] at l
    cases l
    exact ix_kdict _ e pins s2 σ H2 (.ref a) (.str z) v u Q I2 r1 r2 ⟨a, z, _, rfl, rfl, ⟨es, n, u0, kd.at_, kd.lit, hr, h3⟩, q⟩ (hs _ _)
  · rw [h1] at l; cases l
theorem pe_min (D : MDict X.K X.w X.mg x kvs) (hg : Gl X x) (he : PE X e ty) (hm : behindInMarks .In (.Name x p) = false) (hdb : (x == ("__debug__" : Str)) = false) :
    PE X (.Compare e [.In] [.Name x p] pos) (fun σ H Q => ty σ H fun y H1 => ∃ z, y = .str z ∧ Q (.bl (lookT kvs z).isSome) H1) := by
  obtain ⟨a, es, n, hm', kd, en⟩ := D.ex
  have ho : PE X (.Name x p) (tC (.ref a)) := pe_glob hg hm' rfl hdb
  refine ⟨fun pins s σ H Q I h => ?_⟩
  refine wpAny_Compare1 (thn (he.run pins s σ H _ I h) fun u s1 ⟨y, H1, I1, r1, z, ez, q⟩ => ?_) hm
  refine thn (ho.run pins s1 σ H1 (fun v H2 => v = .ref a ∧ H2 = H1) I1 ⟨rfl, rfl⟩) fun v s2 ⟨x0, H2, I2, r2, e1, e2⟩ => ?_
  subst e1 e2 ez
  obtain ⟨r, hr, hv⟩ := ents_ns kd en z
  refine op_in_kd kd pins s2 σ H2 (.str z) (.ref a) u v Q I2 r1 r2 ⟨z, r, rfl, rfl, hr, ?_⟩
  rcases hv with ⟨v1, u0, h1, rfl, h3⟩ | ⟨h1, rfl⟩
  · rw [h1] at q; exact q
  · rw [h1] at q; exact q
theorem pe_mnin (D : MDict X.K X.w X.mg x kvs) (hg : Gl X x) (he : PE X e ty) (hm : behindInMarks .NotIn (.Name x p) = false) (hdb : (x == ("__debug__" : Str)) = false) :
    PE X (.Compare e [.NotIn] [.Name x p] pos) (fun σ H Q => ty σ H fun y H1 => ∃ z, y = .str z ∧ Q (.bl (!(lookT kvs z).isSome)) H1) := by
  obtain ⟨a, es, n, hm', kd, en⟩ := D.ex
  have ho : PE X (.Name x p) (tC (.ref a)) := pe_glob hg hm' rfl hdb
  refine ⟨fun pins s σ H Q I h => ?_⟩
  refine wpAny_Compare1 (thn (he.run pins s σ H _ I h) fun u s1 ⟨y, H1, I1, r1, z, ez, q⟩ => ?_) hm
  refine thn (ho.run pins s1 σ H1 (fun v H2 => v = .ref a ∧ H2 = H1) I1 ⟨rfl, rfl⟩) fun v s2 ⟨x0, H2, I2, r2, e1, e2⟩ => ?_
  subst e1 e2 ez
  obtain ⟨r, hr, hv⟩ := ents_ns kd en z
  refine op_notIn_kd kd pins s2 σ H2 (.str z) (.ref a) u v Q I2 r1 r2 ⟨z, r, rfl, rfl, hr, ?_⟩
  rcases hv with ⟨v1, u0, h1, rfl, h3⟩ | ⟨h1, rfl⟩
  · rw [h1] at q; exact q
  · rw [h1] at q; exact q
end
/-! by data -/
def vF : D → V
  | .int i => .int i
  | .str s => .str s
  | .bl b => .bl b
  | .cel a => .ref a
  | _ => .non
def okF : D → Bool
  | .int _ => true
  | .str _ => true
  | .bl _ => true
  | .cel _ => true
  | .non => true
  | _ => false
theorem dat_vF {K : PySem.W.Frag} {H : Hp} : ∀ {d : D}, okF d = true → Dat K H (vF d) d
  | .int i, _ => .int i
  | .str s, _ => .str s
  | .bl b, _ => .bl b
  | .cel a, _ => .cel a
  | .non, _ => .non
abbrev MDictD (K : PySem.W.Frag) (w : World) (mg : Str → Option Value) (x : Str) (kvs : List (Str × D)) : Prop := (∀ p ∈ kvs, okF p.2 = true) ∧ MDict K w mg x (kvs.map fun p => (p.1, vF p.2))
theorem lookT_map (kvs : List (Str × D)) (s : Str) : lookT (kvs.map fun p => (p.1, vF p.2)) s = (lookT kvs s).map vF := by
  unfold lookT
  induction kvs with
  | nil => rfl
  | cons p r ih =>
    rw [List.map_cons, List.find?_cons, List.find?_cons]
    by_cases q : p.1 = s
    · simp [q]
    · simp only [q, decide_false]; exact ih
theorem lookT_mem {α : Type} {kvs : List (Str × α)} {s : Str} {d : α} (h : lookT kvs s = some d) : (s, d) ∈ kvs := by
  unfold lookT at h
  cases q : kvs.find? fun p => decide (p.1 = s) with
  | none => rw [q] at h; cases h
  | some p =>
    rw [q] at h
    cases h
    have := List.find?_some q
    have e : p.1 = s := of_decide_eq_true this
    rw [← e]; exact List.mem_of_find?_eq_some q
def rdMGet (kvs : List (Str × D)) : D → Mem → KD → Prop := fun d M k => match d with | .str s => k ((lookT kvs s).getD .non) M | _ => False
def rdMIx (kvs : List (Str × D)) : D → Mem → KD → Prop := fun d M k => match d with | .str s => (match lookT kvs s with | some x => k x M | none => False) | _ => False
def rdMIn (f : Bool → Bool) (kvs : List (Str × D)) : D → Mem → KD → Prop := fun d M k => match d with | .str s => k (.bl (f (lookT kvs s).isSome)) M | _ => False
section
variable {X : Cx} {x : Str} {kvs : List (Str × D)} {p apos cpos pos : Pos} {e : Expr} {we : WE}
theorem de_mget (D : MDictD X.K X.w X.mg x kvs) (he : DE X e we) (hg : Gl X x := by rfl) (m : M1 X (.Name x p) "get" apos e cpos := by exact ⟨rfl, rfl, rfl, rfl⟩) (hdb : (x == ("__debug__" : Str)) = false := by decide) :
    DE X (.Call (.Attribute (.Name x p) "get" apos) [e] [] cpos) (wUn (rdMGet kvs) we) :=
  de_of (pe_mget D.2 hg he.run m hdb) fun σ H Q Γ Fr H0 M k h1 h2 h3 h4 => ⟨Γ, Fr, H0, M, _, h1, h2, h3, fun v H1 H' d M' e1 w1 r1 q1 => by
    unfold rdMGet at q1
    split at q1
    · rename_i s
      cases r1
      refine ⟨s, rfl, ?_⟩
      rw [lookT_map]
      cases q : lookT kvs s with
      | none => rw [q] at q1; exact h4 _ _ _ .non _ e1 w1 .non q1
      | some y => rw [q] at q1; exact h4 _ _ _ y _ e1 w1 (dat_vF (D.1 _ (lookT_mem q))) q1
    · exact q1.elim⟩
theorem de_mix (D : MDictD X.K X.w X.mg x kvs) (he : DE X e we) (hg : Gl X x := by rfl) (hs : PlainIx e := by exact fun _ _ => rfl) (hdb : (x == ("__debug__" : Str)) = false := by decide) :
    DE X (.Subscript (.Name x p) e pos) (wUn (rdMIx kvs) we) :=
  de_of (pe_mix D.2 hg he.run hs hdb) fun σ H Q Γ Fr H0 M k h1 h2 h3 h4 => ⟨Γ, Fr, H0, M, _, h1, h2, h3, fun v H1 H' d M' e1 w1 r1 q1 => by
    unfold rdMIx at q1
    split at q1
    · rename_i s
      cases r1
      split at q1
      · rename_i y q
        exact ⟨s, vF y, rfl, by rw [lookT_map, q]; rfl, h4 _ _ _ y _ e1 w1 (dat_vF (D.1 _ (lookT_mem q))) q1⟩
      · exact q1.elim
    · exact q1.elim⟩
theorem de_min (D : MDictD X.K X.w X.mg x kvs) (he : DE X e we) (hg : Gl X x := by rfl) (hm : behindInMarks .In (.Name x p) = false := by first | exact nomark _ | (with_unfolding_all rfl)) (hdb : (x == ("__debug__" : Str)) = false := by decide) :
    DE X (.Compare e [.In] [.Name x p] pos) (wUn (rdMIn id kvs) we) :=
  de_of (pe_min D.2 hg he.run hm hdb) fun σ H Q Γ Fr H0 M k h1 h2 h3 h4 => ⟨Γ, Fr, H0, M, _, h1, h2, h3, fun v H1 H' d M' e1 w1 r1 q1 => by
    unfold rdMIn at q1
    split at q1
    · rename_i s
      cases r1
      refine ⟨s, rfl, ?_⟩
      rw [lookT_map]
      have : ((lookT kvs s).map vF).isSome = (lookT kvs s).isSome := by cases lookT kvs s <;> rfl
      rw [this]
      exact h4 _ _ _ (.bl _) _ e1 w1 (.bl _) q1
    · exact q1.elim⟩
theorem de_mnin (D : MDictD X.K X.w X.mg x kvs) (he : DE X e we) (hg : Gl X x := by rfl) (hm : behindInMarks .NotIn (.Name x p) = false := by first | exact nomark _ | (with_unfolding_all rfl)) (hdb : (x == ("__debug__" : Str)) = false := by decide) :
    DE X (.Compare e [.NotIn] [.Name x p] pos) (wUn (rdMIn not kvs) we) :=
  de_of (pe_mnin D.2 hg he.run hm hdb) fun σ H Q Γ Fr H0 M k h1 h2 h3 h4 => ⟨Γ, Fr, H0, M, _, h1, h2, h3, fun v H1 H' d M' e1 w1 r1 q1 => by
    unfold rdMIn at q1
    split at q1
    · rename_i s
      cases r1
      refine ⟨s, rfl, ?_⟩
      rw [lookT_map]
      have : ((lookT kvs s).map vF).isSome = (lookT kvs s).isSome := by cases lookT kvs s <;> rfl
      rw [this]
      exact h4 _ _ _ (.bl _) _ e1 w1 (.bl _) q1
    · exact q1.elim⟩
/-! statements one behind another -/
theorem seq_step {u v : WS} {k : KS} {Γ : DL.Env} {M : Mem} (h : u ⟨v k, k.rt, k.bk, k.ct⟩ Γ M) : wSeq u v k Γ M := h
/-- a cut: what holds between them -/
theorem seq_join {u v : WS} {k : KS} {Γ : DL.Env} {M : Mem} (J : DL.Env → Mem → Prop) (h1 : ∀ Γ' M', J Γ' M' → v k Γ' M') (h2 : ∀ n : DL.Env → Mem → Prop, (∀ Γ' M', J Γ' M' → n Γ' M') → u ⟨n, k.rt, k.bk, k.ct⟩ Γ M) : wSeq u v k Γ M := h2 _ h1
end
section
variable {P : Program} {w : World} {K : PySem.W.Frag} {mg : Str → Option Value} {base : Heap}
theorem DFn.or {k : Nat} {f : Addr} {fd : FuncData} {ps : List Str} {F1 F2 : FD} (G1 : DFn P w K mg base k f fd ps F1) (G2 : DFn P w K mg base k f fd ps F2) : DFn P w K mg base k f fd ps (fun ds M kd => F1 ds M kd ∨ F2 ds M kd) :=
  ⟨fun vs H Q E ⟨Fr, H0, M, ds, kd, a, b, c, d⟩ => c.elim (fun q => G1.len vs H Q E ⟨Fr, H0, M, ds, kd, a, b, q, d⟩) (fun q => G2.len vs H Q E ⟨Fr, H0, M, ds, kd, a, b, q, d⟩),
   fun A o s H as us vs Q E r e bi v ⟨Fr, H0, M, ds, kd, a, b, c, d⟩ => c.elim (fun q => G1.run A o s H as us vs Q E r e bi v ⟨Fr, H0, M, ds, kd, a, b, q, d⟩) (fun q => G2.run A o s H as us vs Q E r e bi v ⟨Fr, H0, M, ds, kd, a, b, q, d⟩)⟩
/-- a contract over many -/
theorem DFn.all {ι : Type} {k : Nat} {f : Addr} {fd : FuncData} {ps : List Str} {F : ι → FD} (i0 : ι) (G : ∀ i, DFn P w K mg base k f fd ps (F i)) : DFn P w K mg base k f fd ps (fun ds M kd => ∃ i, F i ds M kd) :=
  ⟨fun vs H Q E ⟨Fr, H0, M, ds, kd, a, b, ⟨i, c⟩, d⟩ => (G i).len vs H Q E ⟨Fr, H0, M, ds, kd, a, b, c, d⟩,
   fun A o s H as us vs Q E r e bi v ⟨Fr, H0, M, ds, kd, a, b, ⟨i, c⟩, d⟩ => (G i).run A o s H as us vs Q E r e bi v ⟨Fr, H0, M, ds, kd, a, b, c, d⟩⟩
theorem DFn.none {k : Nat} {f : Addr} {fd : FuncData} {ps : List Str} : DFn P w K mg base k f fd ps (fun _ _ _ => False) :=
  ⟨fun vs H Q E ⟨_, _, _, _, _, _, _, h, _⟩ => h.elim, fun A outer s H args us vs Q E _ _ _ _ ⟨_, _, _, _, _, _, _, h, _⟩ => h.elim⟩
end
end DL

set_option autoImplicit false
set_option maxRecDepth 100000
set_option maxHeartbeats 4000000
/-! a def called without arguments -/
namespace DG
open PySem PySem.Spec PyProof.Rows L2
theorem pe_callG0 {X : Cx} {CX : CXT} {k : Nat} {f : Addr} {fd : FuncData} {sp : Sp} {E : XK} {x : Str} {p pos : Pos} (F : FnG X.prog X.w X.K X.mg X.base CX k f fd [] sp) (hr : RoomG k X.A) (hg : Gl X x) (hm : X.mg x = some (.ref f))
    (hk : PySem.W.keepIn X.K (.ref f) = true) (hb : Binds X.K fd [] []) (hx : Passes CX X E) (hdb : (x == ("__debug__" : Str)) = false := by decide) : PE X (.Call (.Name x p) [] [] pos) (tCall sp [] E tNil) := by
  refine ⟨fun pins s σ H Q I h => wpAny_Call_Name_kw (ld_glob I hg hm ?_ hdb)⟩
  refine PySem.W.callWith_K0 I.kIn hk (wpAny_call ?_)
  have q : sp ([] ++ []) H Q E := h
  have b := hb s [] I.kIn rfl
  refine codeAny_mono (F.run X.A X.stack s H ⟨[], []⟩ [] [] Q E hr I.env0 b .nil q) fun r s' z => ?_
  match r, z with
  | .error e, z => exact hx pins σ H s e s' I z
  | .ok (.ret u), z => exact I.after z
  | .ok .next, z => exact z.elim
  | .ok .brk, z => exact z.elim
  | .ok .cont, z => exact z.elim
end DG
namespace DL
open PySem PySem.Spec PyProof.Rows L2
theorem pt_min {X : Cx} {x : Str} {kvs : List (Str × V)} {p pos : Pos} {e : Expr} {ty : TE} (D : MDict X.K X.w X.mg x kvs) (hg : Gl X x) (he : PE X e ty) (hm : behindInMarks .In (.Name x p) = false) (hdb : (x == ("__debug__" : Str)) = false) :
    PT X (.Compare e [.In] [.Name x p] pos) (fun σ H Q => ty σ H fun y H1 => ∃ z, y = .str z ∧ Q ((lookT kvs z).isSome) H1) := by
  obtain ⟨a, es, n, hm', kd, en⟩ := D.ex
  have ho : PE X (.Name x p) (tC (.ref a)) := pe_glob hg hm' rfl hdb
  refine ⟨fun pins s σ H Q I h => ?_⟩
  refine wpAny_isTrue_Compare1 (thn (he.run pins s σ H _ I h) fun u s1 ⟨y, H1, I1, r1, z, ez, q⟩ => ?_) hm
  refine thn (ho.run pins s1 σ H1 (fun v H2 => v = .ref a ∧ H2 = H1) I1 ⟨rfl, rfl⟩) fun v s2 ⟨x0, H2, I2, r2, e1, e2⟩ => ?_
  subst e1 e2 ez
  obtain ⟨r, hr, hv⟩ := ents_ns kd en z
  refine thn (op_in_kd kd pins s2 σ H2 (.str z) (.ref a) u v (fun c H3 => c = .bl ((lookT kvs z).isSome) ∧ H3 = H2) I2 r1 r2 ⟨z, r, rfl, rfl, hr, ?_⟩) fun c s3 ⟨c0, H3, I3, r3, e3, e4⟩ => ?_
  · rcases hv with ⟨v1, u0, h1, rfl, h3⟩ | ⟨h1, rfl⟩
    · rw [h1]; exact ⟨rfl, rfl⟩
    · rw [h1]; exact ⟨rfl, rfl⟩
  · subst e3 e4
    cases r3
    exact wpAny_truthy_bool ⟨_, I3, q⟩
theorem dt_min {X : Cx} {x : Str} {kvs : List (Str × D)} {p pos : Pos} {e : Expr} {we : WE} (D : MDictD X.K X.w X.mg x kvs) (he : DE X e we) (hg : Gl X x := by rfl) (hm : behindInMarks .In (.Name x p) = false := by first | exact nomark _ | (with_unfolding_all rfl)) (hdb : (x == ("__debug__" : Str)) = false := by decide) :
    DT X (.Compare e [.In] [.Name x p] pos) (wTst (wUn (rdMIn id kvs) we)) :=
  dt_of (pt_min D.2 hg he.run hm hdb) fun σ H Q Γ Fr H0 M k h1 h2 h3 h4 => ⟨Γ, Fr, H0, M, _, h1, h2, h3, fun v H1 H' d M' e1 w1 r1 q1 => by
    unfold rdMIn at q1
    split at q1
    · rename_i s
      cases r1
      refine ⟨s, rfl, ?_⟩
      rw [lookT_map]
      have : ((lookT kvs s).map vF).isSome = (lookT kvs s).isSome := by cases lookT kvs s <;> rfl
      rw [this]
      exact h4 _ _ _ _ e1 w1 q1
    · exact q1.elim⟩
theorem pt_mnin {X : Cx} {x : Str} {kvs : List (Str × V)} {p pos : Pos} {e : Expr} {ty : TE} (D : MDict X.K X.w X.mg x kvs) (hg : Gl X x) (he : PE X e ty) (hm : behindInMarks .NotIn (.Name x p) = false) (hdb : (x == ("__debug__" : Str)) = false) :
    PT X (.Compare e [.NotIn] [.Name x p] pos) (fun σ H Q => ty σ H fun y H1 => ∃ z, y = .str z ∧ Q (!(lookT kvs z).isSome) H1) := by
  obtain ⟨a, es, n, hm', kd, en⟩ := D.ex
  have ho : PE X (.Name x p) (tC (.ref a)) := pe_glob hg hm' rfl hdb
  refine ⟨fun pins s σ H Q I h => ?_⟩
  refine wpAny_isTrue_Compare1 (thn (he.run pins s σ H _ I h) fun u s1 ⟨y, H1, I1, r1, z, ez, q⟩ => ?_) hm
  refine thn (ho.run pins s1 σ H1 (fun v H2 => v = .ref a ∧ H2 = H1) I1 ⟨rfl, rfl⟩) fun v s2 ⟨x0, H2, I2, r2, e1, e2⟩ => ?_
  subst e1 e2 ez
  obtain ⟨r, hr, hv⟩ := ents_ns kd en z
  refine thn (op_notIn_kd kd pins s2 σ H2 (.str z) (.ref a) u v (fun c H3 => c = .bl (!(lookT kvs z).isSome) ∧ H3 = H2) I2 r1 r2 ⟨z, r, rfl, rfl, hr, ?_⟩) fun c s3 ⟨c0, H3, I3, r3, e3, e4⟩ => ?_
  · rcases hv with ⟨v1, u0, h1, rfl, h3⟩ | ⟨h1, rfl⟩
    · rw [h1]; exact ⟨rfl, rfl⟩
    · rw [h1]; exact ⟨rfl, rfl⟩
  · subst e3 e4
    cases r3
    exact wpAny_truthy_bool ⟨_, I3, q⟩
theorem dt_mnin {X : Cx} {x : Str} {kvs : List (Str × D)} {p pos : Pos} {e : Expr} {we : WE} (D : MDictD X.K X.w X.mg x kvs) (he : DE X e we) (hg : Gl X x := by rfl) (hm : behindInMarks .NotIn (.Name x p) = false := by first | exact nomark _ | (with_unfolding_all rfl)) (hdb : (x == ("__debug__" : Str)) = false := by decide) :
    DT X (.Compare e [.NotIn] [.Name x p] pos) (wTst (wUn (rdMIn not kvs) we)) :=
  dt_of (pt_mnin D.2 hg he.run hm hdb) fun σ H Q Γ Fr H0 M k h1 h2 h3 h4 => ⟨Γ, Fr, H0, M, _, h1, h2, h3, fun v H1 H' d M' e1 w1 r1 q1 => by
    unfold rdMIn at q1
    split at q1
    · rename_i s
      cases r1
      refine ⟨s, rfl, ?_⟩
      rw [lookT_map]
      have : ((lookT kvs s).map vF).isSome = (lookT kvs s).isSome := by cases lookT kvs s <;> rfl
      rw [this]
      exact h4 _ _ _ _ e1 w1 q1
    · exact q1.elim⟩
theorem r_mget {kvs : List (Str × D)} {s : Str} {M : Mem} {k : KD} (h : k ((lookT kvs s).getD .non) M) : rdMGet kvs (.str s) M k := h
theorem r_mix {kvs : List (Str × D)} {s : Str} {d : D} {M : Mem} {k : KD} (e : lookT kvs s = some d) (h : k d M) : rdMIx kvs (.str s) M k := by
  show (match lookT kvs s with | some x => k x M | none => False)
  rw [e]; exact h
theorem r_min {f : Bool → Bool} {kvs : List (Str × D)} {s : Str} {M : Mem} {k : KD} (h : k (.bl (f (lookT kvs s).isSome)) M) : rdMIn f kvs (.str s) M k := h
section
variable {X : Cx} {K : PySem.W.Frag} {e a b : Expr} {es : List Expr}
def wCall0 (F : FD) : WE := fun _ M k => F [] M k
theorem de_own0 {F : FD} {f : Addr} {fd : FuncData} {x : Str} {st : Stmt} {k j : Nat} {p pos : Pos} (d : Def X.K X.mg x st [] f fd) (G : DFn X.prog X.w X.K X.mg X.base k f fd [] F) (hr : DG.RoomG j X.A) (hk : k ≤ j) (hg : Gl X x := by rfl) (hdb : (x == ("__debug__" : Str)) = false := by decide) :
    DE X (.Call (.Name x p) [] [] pos) (wCall0 F) :=
  de_of (DG.pe_callG0 G (hr.mono hk) hg d.at_ d.F.kp d.b pass0 hdb) fun σ H Q Γ Fr H0 M k h1 h2 h3 h4 => ⟨Fr, H0, M, [], k, h2, .nil, h3, h4⟩
/-- two lists one behind the other, as a new cell -/
def rdAddM : D → D → Mem → KD → Prop := fun x y M k => match asL M x, asL M y with
    | some xs, some ys => xs.length + ys.length ≤ sizeLine ∧ ∀ p, M p = none → k (.cel p) (setM M p (.lst (xs ++ ys)))
    | _, _ => False
theorem opd_addM : OpD K rCat rdAddM := fun Fr H0 M H x y vx vy k Q w rx ry h c => by
  unfold rdAddM at h
  split at h
  · rename_i xs ys e1 e2
    obtain ⟨a, vs, rfl, h1, d1⟩ := asL_ok w rx e1
    obtain ⟨b, ws, rfl, h2, d2⟩ := asL_ok w ry e2
    refine ⟨a, b, vs, ws, rfl, rfl, h1, h2, by rw [d1.length, d2.length]; exact h.1, fun p hp => ?_⟩
    exact c _ H0 _ _ _ (Same.refl _) (w.newM hp (.lst (d1.append d2))) (.cel p) (h.2 p (w.freshM hp))
  · exact h.elim
theorem de_addM {wa wb : WE} {pos : Pos} (ha : DE X a wa) (hb : DE X b wb) : DE X (.BinOp a .Add b pos) (wOp rdAddM wa wb) := de_op op_cat opd_addM ha hb
theorem r_addLM {M : Mem} {xs ys : List D} {k : KD} (hz : xs.length + ys.length ≤ sizeLine) (hk : ∀ p, M p = none → k (.cel p) (setM M p (.lst (xs ++ ys)))) : rdAddM (.lst xs) (.lst ys) M k := ⟨hz, hk⟩
/-- abs -/
def rdAbs : FD := fun ds M k => match ds with | [.int i] => k (.int (if i < 0 then -i else i)) M | _ => False
theorem calld_abs : CallD K (fun xs H Q => ∃ i, xs = [.int i] ∧ Q (.int (if i < 0 then -i else i)) H) rdAbs := fun Fr H0 M H vs ds k Q w r h c => by
  unfold rdAbs at h
  split at h
  · obtain ⟨v, rfl, r1⟩ := dats1 r
    cases r1
    exact ⟨_, rfl, c _ H0 H _ M (Same.refl _) w (.int _) h⟩
  · exact h.elim
theorem boot_abs : bootBuiltins "abs" = some (.builtin "abs") := by decide +kernel
theorem de_abs {we : WE} {p pos : Pos} (hm : X.mg "abs" = none) (he : DE X e we) (hs : starEach [e] X.env = (false, eval e X.env) :: starEach [] X.env := by rfl) (hg : Gl X "abs" := by rfl) (hpl : (backTo pos (starEach [] X.env)).any (·.1) = false := by rfl) :
    DE X (.Call (.Name "abs" p) [e] [] pos) (wCall rdAbs (wCons we wNil)) := de_callB call_abs calld_abs hm boot_abs (da_cons he da_nil hs) hg (by decide) (by decide) hs hpl
theorem r_abs {M : Mem} {i : Int} {k : KD} (hk : k (.int (if i < 0 then -i else i)) M) : rdAbs [.int i] M k := hk
/-- two texts as they are -/
theorem eq_strA {f : Bool → Bool} {s t : Str} {M : Mem} {k : KD} (h : k (.bl (f (decide (s = t)))) M) : rdEq f (.str s) (.str t) M k := h
theorem at_first {α : Type} {xs : List α} (h : xs ≠ []) : ∃ x, x ∈ xs ∧ atI xs 0 = some x := by
  cases xs with
  | nil => exact absurd rfl h
  | cons x r => exact ⟨x, List.mem_cons_self, at0 _ _⟩
theorem at_last {α : Type} {xs : List α} (h : xs ≠ []) : ∃ x, x ∈ xs ∧ atI xs (-1) = some x := by
  refine ⟨xs.getLast h, List.getLast_mem h, ?_⟩
  have := atI_last xs.dropLast (xs.getLast h)
  rwa [List.dropLast_concat_getLast h] at this
end
end DL

set_option autoImplicit false
set_option maxRecDepth 100000
set_option maxHeartbeats 4000000
/-! a local that holds one of several defs -/
namespace DG
open PySem PySem.Spec PyProof.Rows L2
def tCallGL (i : Nat) (f : Addr) (sp : Sp) (t : TA) : TE := fun σ H Q => σ[i]? = some (some (.ref f)) ∧ t σ H fun vs H1 => sp (vs ++ []) H1 Q fun _ _ _ => False
section
variable {X : Cx} {k i : Nat} {x : Str} {p pos : Pos} {e : Expr} {es : List Expr} {t : TA}
/-- which defs may be called so -/
structure HeldG (P : Program) (w : World) (K : PySem.W.Frag) (mg : Str → Option Value) (base : Heap) (k : Nat) (f : Addr) (sp : Sp) : Prop where
  ex : ∃ (fd : FuncData) (ps : List Str), FnG P w K mg base CX0 k f fd ps sp ∧ PySem.W.keepIn K (.ref f) = true ∧ Binds K fd ps []
theorem pe_callGA {S : Addr → Sp → Prop} (A : ∀ f sp, S f sp → HeldG X.prog X.w X.K X.mg X.base k f sp) (hr : RoomG k X.A) (hN : X.N[i]? = some x) (hv : Vis X.env.scope x) (ha : PA X (e :: es) t)
    (hdb : (x == ("__debug__" : Str)) = false := by decide) (hcd : (x == ("__classdict__" : Str)) = false := by decide)
    (he : starEach (e :: es) X.env = (false, eval e X.env) :: starEach es X.env := by rfl) (hpl : (backTo pos (starEach es X.env)).any (·.1) = false := by rfl) :
    PE X (.Call (.Name x p) (e :: es) [] pos) (fun σ H Q => ∃ f sp, S f sp ∧ tCallGL i f sp t σ H Q) := by
  refine ⟨fun pins s σ H Q I h => ?_⟩
  obtain ⟨f, sp, hS, hs, ht⟩ := h
  obtain ⟨fd, ps, F, hk, hb⟩ := (A f sp hS).ex
  refine wpAny_Call_Name_kw (thn ((pe_var (pos := p) hN hv hdb hcd).run pins s σ H (fun v H1 => v = .ref f ∧ H1 = H) I ⟨.ref f, hs, rfl, rfl⟩) fun u s1 ⟨v, H1, I1, r1, q1⟩ => ?_)
  obtain ⟨rfl, rfl⟩ := q1
  cases r1
  refine PySem.W.callWith_K (h₀ := X.base) I.ok.mod.kin hk (thn (ha.run pos pins s1 σ _ _ I1 ht) fun us s2 ⟨vs, H2, I2, r, q⟩ => ⟨I2.kIn, wpAny_call ?_⟩) he hpl
  have q : sp (vs ++ []) H2 Q (fun _ _ _ => False) := q
  rw [List.append_nil] at q
  have hl : (us ++ []).length = ps.length := by rw [List.append_nil, ← r.length]; exact F.len _ _ _ _ q
  have b := hb s2 us I2.kIn hl
  rw [List.append_nil] at b
  refine codeAny_mono (F.run X.A X.stack s2 H2 ⟨us, []⟩ us vs Q _ hr I2.env0 b r q) fun r s' z => ?_
  match r, z with
  | .error e, z => exact z.elim
  | .ok (.ret u), z => exact I2.after z
  | .ok .next, z => exact z.elim
  | .ok .brk, z => exact z.elim
  | .ok .cont, z => exact z.elim
end
end DG
namespace DL
open PySem PySem.Spec PyProof.Rows L2
section
variable {X : Cx} {K : PySem.W.Frag} {e a b : Expr} {es : List Expr}
/-- a call of what a local holds: S tells the defs with their promises -/
def wCallL (i : Nat) (S : Addr → FD → Prop) (wa : WA) : WE := fun Γ M k => ∃ f F, S f F ∧ Γ[i]? = some (some (.cel f)) ∧ wa Γ M fun ds M1 => F ds M1 k
structure HeldD (P : Program) (w : World) (K : PySem.W.Frag) (mg : Str → Option Value) (base : Heap) (k : Nat) (f : Addr) (F : FD) : Prop where
  ex : ∃ (fd : FuncData) (ps : List Str), DFn P w K mg base k f fd ps F ∧ PySem.W.keepIn K (.ref f) = true ∧ Binds K fd ps []
theorem Def.held {P : Program} {w : World} {K : PySem.W.Frag} {mg : Str → Option Value} {base : Heap} {k : Nat} {x : Str} {st : Stmt} {ps : List Str} {f : Addr} {fd : FuncData} {F : FD} (d : Def K mg x st ps f fd) (G : DFn P w K mg base k f fd ps F) : HeldD P w K mg base k f F :=
  ⟨fd, ps, G, d.F.kp, d.b⟩
theorem de_callL {i k j : Nat} {x : Str} {p pos : Pos} {wa : WA} {S : Addr → FD → Prop} (A : ∀ f F, S f F → HeldD X.prog X.w X.K X.mg X.base k f F) (hr : DG.RoomG j X.A) (hk : k ≤ j) (ha : DA X (e :: es) wa)
    (hN : X.N[i]? = some x := by rfl) (hv : Vis X.env.scope x := by first | exact Or.inl rfl | exact Or.inr (Or.inl rfl) | exact Or.inr (Or.inr rfl)) (hdb : (x == ("__debug__" : Str)) = false := by decide) (hcd : (x == ("__classdict__" : Str)) = false := by decide)
    (he : starEach (e :: es) X.env = (false, eval e X.env) :: starEach es X.env := by rfl) (hpl : (backTo pos (starEach es X.env)).any (·.1) = false := by rfl) : DE X (.Call (.Name x p) (e :: es) [] pos) (wCallL i S wa) := by
  refine de_of (DG.pe_callGA (S := fun f sp => ∃ F, S f F ∧ sp = liftF X.K F) (fun f sp ⟨F, hF, e⟩ => ?_) (hr.mono hk) hN hv ha.run hdb hcd he hpl) fun σ H Q Γ Fr H0 M k h1 h2 h3 h4 => ?_
  · obtain ⟨fd, ps, G, q1, q2⟩ := (A f F hF).ex
    subst e
    exact ⟨fd, ps, G, q1, q2⟩
  · obtain ⟨f, F, hS, hf, hw⟩ := h3
    obtain ⟨v, e1, r1⟩ := h1.get _ _ hf
    cases r1
    exact ⟨f, _, ⟨F, hS, rfl⟩, e1, Γ, Fr, H0, M, _, h1, h2, hw, fun vs H1 H' ds M' e1 w1 r1 q1 => ⟨Fr, H1, M', ds, k, w1, by rw [List.append_nil]; exact r1, q1, h4.mono e1⟩⟩
/-! a dict written with texts for keys and whole numbers -/
inductive DPs : List (Option Expr) → List Expr → List (Str × Int) → Prop
  | nil : DPs [] [] []
  | cons {s : Str} {i : Int} {j1 j2} {p1 p2 : Pos} {ks : List (Option Expr)} {vs : List Expr} {l : List (Str × Int)} : DPs ks vs l → DPs (some (.Constant (.str s) j1 p1) :: ks) (.Constant (.int i) j2 p2 :: vs) ((s, i) :: l)
def trsOf (l : List (Str × Int)) : List (TE × TE) := l.map fun p => (tC (.str p.1), tC (.int p.2))
theorem pps_of {pos : Pos} {ks : List (Option Expr)} {vs : List Expr} {l : List (Str × Int)} (h : DPs ks vs l) : PPs X pos ks vs (trsOf l) := by
  induction h with
  | nil => exact pps_nil
  | cons _ ih => exact pps_cons pe_str pe_int ih
theorem DPs.len {ks : List (Option Expr)} {vs : List Expr} {l : List (Str × Int)} (h : DPs ks vs l) : ks.length = l.length ∧ vs.length = l.length ∧ ks.all (·.isSome) = true := by
  induction h with
  | nil => exact ⟨rfl, rfl, rfl⟩
  | cons _ ih => obtain ⟨a, b, c⟩ := ih; exact ⟨by simp [a], by simp [b], by simp only [List.all_cons, c]; rfl⟩
theorem tpairs_const : ∀ (l : List (Str × Int)) (σ : L2.St) (H : Hp) (Q : List (V × V) → Hp → Prop), Q (l.map fun p => (V.str p.1, V.int p.2)) H → tPairs (trsOf l) σ H Q
  | [], σ, H, Q, h => h
  | (s, i) :: l, σ, H, Q, h => tpairs_const l σ H (fun ps H3 => Q ((V.str s, V.int i) :: ps) H3) h
def wDisp (l : List (Str × Int)) : WE := fun _ M k => ∀ p, M p = none → k (.cel p) (setM M p (.dct (mergeD [] (l.map fun p => (.inr p.1, .int p.2)))))
theorem merge_rel {K : PySem.W.Frag} {H : Hp} : ∀ (l : List (Str × Int)) (kvs : List (Key × V)) (kds : List (Key × D)), DKs K H kvs kds → DKs K H (mergeK kvs (l.map fun p => (Sum.inr p.1, V.int p.2))) (mergeD kds (l.map fun p => (Sum.inr p.1, D.int p.2)))
  | l, kvs, kds, h => paired_merge (by
      induction l with
      | nil => exact .nil
      | cons p r ih => exact .cons ⟨rfl, .int _⟩ ih) h
theorem de_disp {pos : Pos} {ks : List (Option Expr)} {vs : List Expr} {l : List (Str × Int)} (h : DPs ks vs l) (h0 : l ≠ []) (h15 : l.length ≤ 15) : DE X (.Dict ks vs pos) (wDisp l) := by
  obtain ⟨l1, l2, l3⟩ := h.len
  refine de_of (pe_disp (pps_of h) l3 (l1.trans l2.symm) (fun z => h0 (List.length_eq_zero_iff.mp (by rw [← l1, z]; rfl))) (by omega)) fun σ H Q Γ Fr H0 M k h1 h2 h3 h4 => ?_
  intro p hp
  refine tpairs_const l σ _ _ ⟨upd_same, l.map fun p => (.inr p.1, .int p.2), by rw [List.map_map]; rfl, by simpa using h15, ?_⟩
  have e : upd (upd H p (.dK [])) p (.dK (mergeK [] (l.map fun p => (Sum.inr p.1, V.int p.2)))) = upd H p (.dK (mergeK [] (l.map fun p => (Sum.inr p.1, V.int p.2)))) := by
    funext b
    by_cases q : b = p
    · subst q; rw [upd_same, upd_same]
    · rw [upd_ne q, upd_ne q, upd_ne q]
  rw [e]
  exact h4 _ H0 _ _ _ (Same.refl _) (h2.newM hp (.dct (merge_rel l [] [] .nil))) (.cel p) (h3 p (h2.freshM hp))
/-- d.get(k, x) -/
def rdGet2 : D → D → D → Mem → KD → Prop := fun x y z M k => match x, y with
  | .cel a, .str s => (match M a with | some (.dct kvs) => k ((lookD kvs (.inr s)).getD z) M | _ => False)
  | _, _ => False
def isDct (M : Mem) : D → Prop
  | .cel a => ∃ kvs, M a = some (.dct kvs)
  | _ => False
def wGet2 (wa wb wc : WE) : WE := fun Γ M k => wa Γ M fun x M1 => isDct M1 x ∧ wb Γ M1 fun y M2 => wc Γ M2 fun z M3 => rdGet2 x y z M3 k
theorem de_get2 {o f : Expr} {apos cpos : Pos} {wo we wf : WE} (hu : X.A.units + 1 < cLine) (ho : DE X o wo) (he : DE X e we) (hf : DE X f wf) (m : M2 X o "get" apos e f cpos := by exact ⟨rfl, rfl, rfl, rfl⟩) : DE X (.Call (.Attribute o "get" apos) [e, f] [] cpos) (wGet2 wo we wf) :=
  de_of (pe_dget2 hu ho.run he.run hf.run m) fun σ H Q Γ Fr H0 M k h1 h2 h3 h4 => by
    refine ⟨Γ, Fr, H0, M, _, h1, h2, h3, fun v H1 Ha d Ma e1 w1 r1 q1 => ?_⟩
    obtain ⟨q0, q1⟩ := q1
    cases d with
    | cel a =>
      cases r1
      obtain ⟨kvs, qa⟩ := q0
      obtain ⟨_, o', ho', hc'⟩ := w1.mem a _ qa
      cases hc' with
      | dct rd =>
        refine ⟨a, rfl, .inl ⟨_, .inl ho'⟩, ?_⟩
        refine ⟨Γ, Fr, H1, Ma, _, h1.mono e1, w1, q1, fun u H2 Hb d' Mb e2 w2 r2 q2 => ?_⟩
        refine ⟨Γ, Fr, H2, Mb, _, h1.mono (e1.trans e2), w2, q2, fun z H3 Hc dz M3 e3 w3 r3 q3 => ?_⟩
        cases d' with
        | str s =>
          change (match M3 a with | some (.dct kvs) => k ((lookD kvs (.inr s)).getD dz) M3 | _ => False) at q3
          split at q3
          · rename_i kvs2 qb
            obtain ⟨_, o2, ho2, hc2⟩ := w3.mem _ _ qb
            cases hc2 with
            | dct rd2 =>
              cases r2
              obtain ⟨i1, i2⟩ := look_ok (κ := .inr s) rd2
              cases ql : lookD kvs2 (.inr s) with
              | some dd =>
                obtain ⟨v2, j1, j2⟩ := i1 dd ql
                rw [ql] at q3
                exact ⟨some v2, .inl ⟨_, .inr s, .inl ho2, rfl, j1.symm⟩, h4 v2 H3 Hc dd M3 (e1.trans (e2.trans e3)) w3 j2 q3⟩
              | none =>
                have j := i2 ql
                rw [ql] at q3
                exact ⟨none, .inl ⟨_, .inr s, .inl ho2, rfl, j.symm⟩, h4 z H3 Hc dz M3 (e1.trans (e2.trans e3)) w3 r3 q3⟩
          · exact q3.elim
        | _ => exact q3.elim
    | _ => exact q0.elim
/-- xs.extend(ys) -/
def rdExtend : D → List D → Mem → KD → Prop := fun x ds M k => match x, ds with
  | .cel a, [y] => (match M a, asL M y with | some (.lst xs), some ys => xs.length + ys.length ≤ sizeLine ∧ k .non (setM M a (.lst (xs ++ ys))) | _, _ => False)
  | _, _ => False
theorem mtd_extend : MtD K rExtend rdExtend := fun Fr H0 M H v d vs ds k Q w r rs h c => by
  cases d with
  | cel a =>
    match ds, rs, h with
    | [y], rs, h =>
      simp only [rdExtend] at h
      split at h
      · rename_i xs ys ea ey
        obtain ⟨u, rfl, ru⟩ := dats1 rs
        cases r
        obtain ⟨n0, o, ho, hc⟩ := w.mem a _ ea
        cases hc with
        | lst rd =>
          obtain ⟨b, ws, rfl, h2, d2⟩ := asL_ok w ru ey
          refine ⟨a, b, _, ws, rfl, rfl, ho, h2, by rw [rd.length, d2.length]; exact h.1, ?_⟩
          exact c _ H0 _ _ _ (Same.refl _) (w.set ea (.lst (rd.append d2))) .non h.2
      · exact h.elim
    | [], _, h => exact h.elim
    | _ :: _ :: _, _, h => exact h.elim
  | _ => exact h.elim
theorem de_extend {o : Expr} {apos cpos : Pos} {wo we : WE} (ho : DE X o wo) (he : DE X e we)
    (hs : starEach [e] X.env = [(false, eval e X.env)] := by rfl)
    (hbase : attributeBase o "extend" X.env (eval o X.env) = eval o X.env := by rfl)
    (hfew : ((backTo cpos (starEach [e] X.env)).all (fun x => !x.1) && (backToKw cpos (keywordEach [] X.env)).all (fun x => x.1.isSome)
      && decide ([e].length + ([] : List Keyword).length + (if ([] : List Keyword).isEmpty then 0 else 1) < 30)) = true := by rfl)
    (hline : (apos.endLine == cpos.line) = true := by rfl) (hplain : (backTo cpos (starEach [] X.env)).any (·.1) = false := by rfl) : DE X (.Call (.Attribute o "extend" apos) [e] [] cpos) (wMt rdExtend wo (wCons we wNil)) :=
  de_mt PySem.F.slot_list_extend PySem.F.type_list_extend mt_extend mtd_extend ho (da_cons he da_nil hs) hbase hfew hline hs hplain
theorem r_ext {M : Mem} {a : Addr} {xs ys : List D} {y : D} {k : KD} (e : M a = some (.lst xs)) (ey : asL M y = some ys) (hz : xs.length + ys.length ≤ sizeLine) (hk : k .non (setM M a (.lst (xs ++ ys)))) : rdExtend (.cel a) [y] M k := by
  unfold rdExtend; simp only [e, ey]; exact ⟨hz, hk⟩
/-- anything looked for in a list of data -/
def rdInDp (f : Bool → Bool) : D → D → Mem → KD → Prop := fun x y M k => match toP M x, toPC M y with
  | some p, some (.list ps) => SeqAt.shaped p = true ∧ SeqAt.shaped (.list ps) = true ∧ k (.bl (f (ps.any fun z => PyData.eqv z p))) M
  | _, _ => False
theorem opd_inDp : OpD K (rInD K) (rdInDp id) := fun Fr H0 M H x y vx vy k Q w rx ry h c => by
  unfold rdInDp at h
  split at h
  · rename_i p ps e1 e2
    exact ⟨p, ps, toP_ok w x vx p rx e1, toPC_ok w ry e2, h.1, h.2.1, c _ H0 H _ M (Same.refl _) w (.bl _) h.2.2⟩
  · exact h.elim
theorem opd_ninDp : OpD K (rNotInD K) (rdInDp not) := fun Fr H0 M H x y vx vy k Q w rx ry h c => by
  unfold rdInDp at h
  split at h
  · rename_i p ps e1 e2
    exact ⟨p, ps, toP_ok w x vx p rx e1, toPC_ok w ry e2, h.1, h.2.1, c _ H0 H _ M (Same.refl _) w (.bl _) h.2.2⟩
  · exact h.elim
theorem c_inD {k : Nat} (hr : DG.RoomG k X.A) : CmpD X .In (rdInDp id) := ⟨_, op_inD (by have := hr.r.un; omega), opd_inDp⟩
theorem c_ninD {k : Nat} (hr : DG.RoomG k X.A) : CmpD X .NotIn (rdInDp not) := ⟨_, op_notInD (by have := hr.r.un; omega), opd_ninDp⟩
end
end DL

set_option autoImplicit false
set_option maxRecDepth 100000
set_option maxHeartbeats 4000000
/-! sets of texts, made of a list of texts: counted, or laid out in their order -/

namespace TS
open PySem PySem.Spec PyProof.Rows L2 PySem.Froz
section
variable {P : Program} {w : World} {A : Around} {E : Value → Shared → Prop} {s : Shared} {a : Addr} {l : List Str}
set_option maxHeartbeats 16000000 in
theorem call_setT {b : Addr} {its : Array Value} {xs : List Str} {Q : Value → Shared → Prop} (hh : A.handled = none) (hl : s.heap.IsTuple b its) (hv : StrsAre its.toList xs) (hb : xs.length + 1 < scanBound)
    (h : ∀ h' tk, SetS P w h' s.heap.objs.size (uni xs) → (∀ c o, s.heap.get? c = some o → h'.get? c = some o) → Q (.ref s.heap.objs.size) { s with heap := h', toks := tk }) :
    wpAny (model P w) A (call (.type "set") [.ref b]) Q E s := by
  have sz : xs.length = its.size := by rw [← StrsAre.len_eq hv, Array.length_toList]
  obtain ⟨mc, mt, hmro⟩ := F.called_set.mro
  have i1 := F.called_set.made
  have i2 := F.called_set.sub
  have i3 := F.called_set.notType
  have i4 := F.called_set.canCreate
  have i5 := F.typeCall_set_1 (.ref b)
  apply wpAny_call
  apply codeAny_of_tree
  show wpAny _ _ (callAny (.type "set") ⟨[.ref b], []⟩) _ _ _
  refine wpAny_pure ⟨Code.quiet_builtin _ (by decide +kernel), ?_⟩
  apply codeAny_builtin F.entry_type_call
  rw [Around.under_plain (weight_type_call_type "set" [.ref b] []) (by rfl)]
  repeat (any_goals first | assumption | wp_step)
  refine codeAny_mono (code_set_led1 (.ref b) (E := E) (Q₁ := fun v s1 => v = .ref s.heap.objs.size ∧ s1 = { s with heap := s.heap.push (bare w) }) ⟨rfl, rfl⟩) fun r s1 hr => ?_
  match r, hr with
  | .error _, hr => exact hr
  | .ok (.ret v), ⟨e1, e2⟩ =>
    subst e1; subst e2
    have g0 : (s.heap.push (bare w)).get? s.heap.objs.size = some (bare w) := Heap.get?_push_size _ rfl
    have ty0 : Shared.TypeIs { s with heap := s.heap.push (bare w) } (.ref s.heap.objs.size) "set" := ⟨_, g0, rfl⟩
    have j1 := F.called_set.init.lookup
    have j2 := F.called_set.init.bind (.ref s.heap.objs.size)
    repeat (any_goals first | assumption | wp_step)
    refine codeAny_mono (codeAny_call_builtin (R := wants (fun r s2 => r = .none ∧ ∃ h' tk, s2 = { s with heap := h', toks := tk } ∧ SetS P w h' s.heap.objs.size (uni xs) ∧ ∀ c o, s.heap.get? c = some o → h'.get? c = some o) E)
      F.called_set.init.plain F.entry_set_init (check_set_init_1 ty0 ?_)) fun r2 s2 hr2 => ?_
    · obtain ⟨lo, glo, lc, n, ld⟩ := hl
      obtain ⟨cls, dic, dat, slo⟩ := lo
      simp only at lc ld
      subst lc; subst ld
      have glo' := Heap.get?_push_of_some (bare w) glo
      have isl : (s.heap.push (bare w)).IsTuple b its := ⟨_, glo', rfl, n, rfl⟩
      have q1 := F.sub_tuple_set
      have q2 := F.sub_tuple_frozenset
      have q3 : (Value.type "tuple" == Value.type "dict") = false := by decide
      have blt : b < s.heap.objs.size := Heap.lt_size glo
      unfold Builtin.«set.__init__» noKeywords Builtin.Frozenset.updateFrom
      generalize hPI : pyIter = PI
      wp_walk
      subst hPI
      apply wpAny_pyIter_tuple isl
      apply wpAny_bind
      apply wpAny_runValue
      have sz2 : (s.heap.push (bare w)).objs.size = s.heap.objs.size + 1 := Heap.size_push ..
      have n1 : b ≠ (s.heap.push (bare w)).objs.size := fun z => by rw [sz2] at z; exact Nat.ne_of_lt (Nat.lt_succ_of_lt blt) z
      have n2 : s.heap.objs.size ∉ [(s.heap.push (bare w)).objs.size, b] := by
        intro z
        rcases List.mem_cons.mp z with z | z
        · rw [sz2] at z; exact Nat.ne_of_lt (Nat.lt_succ_self _) z
        · rw [List.mem_singleton] at z; exact Nat.ne_of_gt blt z
      have vals : ∀ (i : Nat) (v : Value), its[i]? = some v → ∃ y t, xs[i]? = some y ∧ v = .str y t := fun i v e => by
        have hi : i < xs.length := by rw [sz]; exact (Array.getElem?_eq_some_iff.mp e).1
        obtain ⟨t, et⟩ := SS.strs_at hv i v (by rw [Array.getElem?_toList]; exact e)
        exact ⟨xs[i], t, List.getElem?_eq_getElem hi, by rw [et, List.getD_eq_getElem?_getD, List.getElem?_eq_getElem hi] <;> rfl⟩
      have hd3 : A.in1.in1.in1.handled = none := by simp [hh]
      refine loop (Walks.tuple hd3 _ b n1 its).toS n2 sz (by omega) vals its.size 0 _ (by omega) ⟨⟨_, Heap.get?_push_size _ rfl, rfl, rfl⟩, isl.push _⟩ ?_ ?_
      · exact bare_set (Heap.get?_push_of_some _ g0)
      · intro s2 hm hs
        obtain ⟨h2, g2, d2, t2, o2⟩ := s2
        have eg : g2 = s.gens := hm.gens
        have ed : d2 = s.drawn := hm.drawn
        have eo : o2 = s.os := hm.os
        subst eg; subst ed; subst eo
        show wpAny _ _ _ _ _ _
        apply wpAny_pure
        show wpAny _ _ (ret Value.none) _ _ _
        refine wpAny_pure ⟨rfl, h2, t2, rfl, hs, fun c o e => ?_⟩
        have cl := Heap.lt_size e
        refine hm.heap c o (fun z => ?_) (Heap.get?_push_of_some _ (Heap.get?_push_of_some _ e))
        rcases List.mem_cons.mp z with z | z
        · exact Nat.ne_of_lt cl z
        · rw [List.mem_singleton, sz2] at z; exact Nat.ne_of_lt (Nat.lt_succ_of_lt cl) z
    · match r2, hr2 with
      | .error _, hr2 => exact hr2
      | .ok (.ret v), ⟨e1, h', tk, e2, y1, y2⟩ =>
        subst e1; subst e2
        repeat (any_goals first | assumption | wp_step)
        exact h _ _ y1 y2
      | .ok .next, hr2 => exact hr2.elim
      | .ok .brk, hr2 => exact hr2.elim
      | .ok .cont, hr2 => exact hr2.elim
  | .ok .next, hr => exact hr.elim
  | .ok .brk, hr => exact hr.elim
  | .ok .cont, hr => exact hr.elim
end
end TS
namespace DL
open PySem PySem.Spec PyProof.Rows L2
section
variable {X : Cx} {K : PySem.W.Frag}
theorem pe_lenSetT {a : Expr} {ta : TE} {p p2 q pos : Pos} (hc : X.calm = true) (hg : Gl X "len") (hm : X.mg "len" = none) (hg2 : Gl X "set") (hm2 : X.mg "set" = none) (ha : PE X a ta)
    (na : starEach [a] X.env = (false, eval a X.env) :: starEach [] X.env) :
    PE X (.Call (.Name "len" p) [.Call (.Name "set" p2) [a] [] q] [] pos) (fun σ H Q => ta σ H fun x H1 => ∃ l, ∃ xs : List Str, x = .ref l ∧ SqT X.K H1 l (xs.map V.str) ∧ xs.length + 1 < scanBound ∧ Q (.int (TS.uni xs).length) H1) := by
  refine ⟨fun pins s σ H Q I h => Call_ (ld_blt I hg hm boot_len ?_)⟩
  refine PyProof.Rows.callWith_builtin1 (PyProof.Rows.args_cons (Call_ (ld_blt I hg2 hm2 boot_set ?_)) rfl) rfl rfl
  refine PyProof.Rows.callWith_type1 (PyProof.Rows.args_cons (thn (ha.run pins s σ H _ I h) fun v s1 ⟨x, H1, I1, r1, q1⟩ => PyProof.Rows.args_nil ?_) na) na rfl
  obtain ⟨l, xs, rfl, hq, hb, q1⟩ := q1
  cases r1
  obtain ⟨its, r, pl, hz⟩ := I1.tuple hq
  refine TS.call_setT (I1.ok.hd hc) pl (by simpa using strsAre_of r) hb fun h' tk ⟨D, g, F, _⟩ hk => ?_
  refine PyProof.Rows.args_nil ?_
  have I2 : Inv X pins σ H1 { s1 with heap := h', toks := tk } := I1.kept fun b o e => hk b o e
  have sz : D.1.size = (TS.uni xs).length := F.sz
  have ul := TS.uni_len xs
  have sb : scanBound = 4096 := rfl
  refine call_len_set g ⟨rfl, rfl, rfl⟩ rfl F.fit (by omega) ⟨.int (TS.uni xs).length, H1, I2.tok _, ⟨_, by rw [sz]⟩, q1⟩
def rdLenSetT : FD := fun ds M k => match ds with
  | [.tup xs] => (match strsD xs with | some l => l.length + 1 < scanBound ∧ k (.int (TS.uni l).length) M | none => False)
  | _ => False
theorem de_lenSetT {a : Expr} {we : WE} {p p2 q pos : Pos} (hc : X.calm = true) (hm : X.mg "len" = none) (hm2 : X.mg "set" = none) (ha : DE X a we) (na : starEach [a] X.env = (false, eval a X.env) :: starEach [] X.env := by rfl)
    (hg : Gl X "len" := by rfl) (hg2 : Gl X "set" := by rfl) : DE X (.Call (.Name "len" p) [.Call (.Name "set" p2) [a] [] q] [] pos) (wCall rdLenSetT (wCons we wNil)) :=
  de_of (pe_lenSetT hc hg hm hg2 hm2 ha.run na) fun σ H Q Γ Fr H0 M k h1 h2 h3 h4 => ⟨Γ, Fr, H0, M, _, h1, h2, h3, fun v H1 H' d M' e1 w1 r1 q1 => by
    cases d with
    | tup xs =>
      simp only [wNil, rdLenSetT] at q1
      split at q1
      · rename_i l el
        cases r1 with
        | tup hs hd =>
          have := strsD_ok hd el
          subst this
          exact ⟨_, l, rfl, same_t w1.ex hs, q1.1, h4 _ H1 H' _ M' e1 w1 (.int _) q1.2⟩
      · exact q1.elim
    | _ => exact q1.elim⟩
end
end DL

set_option autoImplicit false
set_option maxRecDepth 100000
set_option maxHeartbeats 4000000
namespace DL
open PySem PySem.Spec PyProof.Rows L2
section
variable {X : Cx} {K : PySem.W.Frag}
/-- list(x) that will be changed: a cell -/
def rdListM : FD := fun ds M k => match ds with
  | [x] => (match seqD M x with | some xs => ∀ p, M p = none → k (.cel p) (setM M p (.lst xs)) | none => False)
  | _ => False
theorem calld_listM : CallD K (fun xs H Q => ∃ p ys, xs = [.ref p] ∧ (SqL K H p ys ∨ SqT K H p ys) ∧ ∀ l, H l = none → Q (.ref l) (upd H l (.lst ys))) rdListM := fun Fr H0 M H vs ds k Q w r h c => by
  unfold rdListM at h
  split at h
  · obtain ⟨v, rfl, rv⟩ := dats1 r
    split at h
    · obtain ⟨a, ws, rfl, hs, hd⟩ := seqD_ok w rv (by assumption)
      exact ⟨a, ws, rfl, hs, fun l hl => c _ H0 _ _ _ (Same.refl _) (w.newM hl (.lst hd)) (.cel l) (h l (w.freshM hl))⟩
    · exact h.elim
  · exact h.elim
theorem de_listM {e : Expr} {we : WE} {p pos : Pos} (hm : X.mg "list" = none) (he : DE X e we) (hs : starEach [e] X.env = (false, eval e X.env) :: starEach [] X.env := by rfl) (hg : Gl X "list" := by rfl) (hpl : (backTo pos (starEach [] X.env)).any (·.1) = false := by rfl) :
    DE X (.Call (.Name "list" p) [e] [] pos) (wCall rdListM (wCons we wNil)) :=
  de_callTy call_list_of calld_listM hm PyProof.Rows.boot_list (da_cons he da_nil hs) hg (by decide) (by decide) hs hpl
/-- x.pop(i) -/
theorem r_popAt {M : Mem} {a : Addr} {xs : List D} {i j : Nat} {y : D} {k : KD} (e : M a = some (.lst xs)) (hi : (i : Int) = (j : Nat)) (hj : xs[j]? = some y) (hb : xs.length < 1000000) (hk : k y (setM M a (.lst (xs.eraseIdx j)))) : rdPopAt (.cel a) [.int (i : Nat)] M k := by
  have : i = j := by omega
  subst this
  have hl : i < xs.length := (List.getElem?_eq_some_iff.mp hj).1
  unfold rdPopAt
  simp only [e]
  have e1 : seqIndex? (i : Int) xs.length = some i := by
    unfold seqIndex?
    simp only [Int.natCast_nonneg, Int.toNat_natCast]
    first
      | rw [if_neg (by omega), if_pos (by omega)]
      | simp; omega
  refine ⟨⟨by omega, by omega⟩, ?_⟩
  simp only [e1, hj]
  exact hk
end
end DL

set_option autoImplicit false
set_option maxRecDepth 100000
set_option maxHeartbeats 2000000
namespace DL
open PySem PySem.Spec PyProof.Rows L2
open Sem (wp)
/-! zip of a tuple and a list -/
def ZTL (K : PySem.W.Frag) (a b : Addr) : It where
  go := fun i H => ∃ (us vs : List V) (p q : V), SqT K H a us ∧ SqL K H b vs ∧ us[i]? = some p ∧ vs[i]? = some q
  yld := fun i H v H' => ∃ T p q, v = V.ref T ∧ H T = none ∧ H' = upd H T (.tup [p, q]) ∧ (∀ us, SqT K H a us → us[i]? = some p) ∧ (∀ vs, SqL K H b vs → vs[i]? = some q)
  stop := fun i H => ∃ us vs : List V, SqT K H a us ∧ SqL K H b vs ∧ i = min us.length vs.length
structure Apt (z tI tO j1 j2 a b : Addr) : Prop where
  S : ZipSep2 z tI tO j1 j2 [j1, a] [j2, b]
  na : a ≠ j1
  nb : b ≠ j2
theorem turnTL {P : Program} {w : World} {K : PySem.W.Frag} {elts : List Expr} {kk : Nat} {tpos : Pos} {z tI tO j1 j2 a b : Addr} (D : Apt z tI tO j1 j2 a b) :
    Turn P w K (.Tuple elts kk tpos) (ZTL K a b) [z, tI, tO, j1, j2] z (fun i h => IsZip h z tI tO .none ∧ IsTupOf2 h tI (.ref j1) (.ref j2) ∧ (∃ m n, IsTupOf2 h tO m n) ∧ h.IsTupleIter j1 a i ∧ h.IsListIter j2 b i) where
  mem := List.mem_cons_self
  obj := fun i h st c hc => by
    obtain ⟨g1, g2, ⟨m, n, g3⟩, ⟨o1, g4, _, g5⟩, ⟨o2, g6, _, g7⟩⟩ := st
    simp only [List.mem_cons, List.not_mem_nil, or_false] at hc
    rcases hc with rfl | rfl | rfl | rfl | rfl
    · exact ⟨_, g1, fun v q => nomatch q⟩
    · exact ⟨_, g2, fun v q => nomatch q⟩
    · exact ⟨_, g3, fun v q => nomatch q⟩
    · exact ⟨o1, g4, fun v q => (by rw [g5] at q; cases q)⟩
    · exact ⟨o2, g6, fun v q => (by rw [g7] at q; cases q)⟩
  keep := fun i h h' st k => by
    obtain ⟨g1, g2, ⟨m, n, g3⟩, g4, g5⟩ := st
    exact ⟨k z (by simp) _ g1, k tI (by simp) _ g2, ⟨m, n, k tO (by simp) _ g3⟩, g4.at fun o e => k j1 (by simp) o e, g5.at fun o e => k j2 (by simp) o e⟩
  item := by
    intro X hP hw hK hc i pins s σ H E I hf st hg
    subst hP hw hK
    obtain ⟨g1, g2, ⟨m, n, g3⟩, g4, g5⟩ := st
    obtain ⟨us, vs, p, q, sq1, sq2, hp, hq⟩ := hg
    obtain ⟨ia, ra, pa, _⟩ := I.tuple sq1
    obtain ⟨ib, rb, pb, _⟩ := I.list sq2
    have la := ra.length
    have lb := rb.length
    have l1 : i < ia.toArray.size := by
      have := (List.getElem?_eq_some_iff.mp hp).1
      rw [List.size_toArray]; omega
    have l2 : i < ib.toArray.size := by
      have := (List.getElem?_eq_some_iff.mp hq).1
      rw [List.size_toArray]; omega
    have zl : z < s.heap.objs.size := Heap.lt_size g1
    have il : tI < s.heap.objs.size := Heap.lt_size g2
    have ol : tO < s.heap.objs.size := Heap.lt_size g3
    have jl1 : j1 < s.heap.objs.size := (by obtain ⟨_, e, _⟩ := g4; exact Heap.lt_size e)
    have jl2 : j2 < s.heap.objs.size := (by obtain ⟨_, e, _⟩ := g5; exact Heap.lt_size e)
    have D1 := Draws.tuple (prog := X.prog) (w := X.w) (A := X.A.in1) (I.ok.hd hc) j1 a D.na ia.toArray
    have D2 := Draws.list (prog := X.prog) (w := X.w) (A := X.A.in1) (I.ok.hd hc) j2 b D.nb ib.toArray
    refine wpAny_pyNext_zipD2_item D.S D1 D2 g1 g2 g3 ⟨g4, (show s.heap.IsTuple a ia.toArray from pa)⟩ ⟨g5, pb.isList⟩ l1 l2 fun x1 x2 h' tk y1 y2 b1 b2 d1 d2 b5 hsz hk => ?_
    refine ⟨_, rfl, wpAny_letOwnedTupleGo_zip (s := { s with heap := h', toks := tk }) b1 fun h'' z'' sb => ?_⟩
    have r1 : RelV p x1 := by
      obtain ⟨u, q1, q2⟩ := ra.get hp
      have q3 : ia[i]? = some x1 := by simpa using y1
      rw [q1] at q3; cases q3; exact q2
    have r2 : RelV q x2 := by
      obtain ⟨u, q1, q2⟩ := rb.get hq
      have q3 : ib[i]? = some x2 := by simpa using y2
      rw [q1] at q3; cases q3; exact q2
    have hT : h''.get? s.heap.objs.size = some { cls := .type "tuple", data := .seq #[x1, x2] } := (sb.2 _ (Nat.ne_of_gt zl)).trans b5
    have new : ObjOk X.prog X.w (upd H s.heap.objs.size (.tup [p, q])) h'' s.heap.objs.size (.tup [p, q]) :=
      ⟨(by show 2 ≤ sizeLine; decide), [x1, x2], .cons r1 (.cons r2 .nil), ⟨_, hT, rfl, _, rfl⟩⟩
    have I1 : Inv X pins σ (upd H s.heap.objs.size (.tup [p, q])) { s with heap := h'', toks := tk } :=
      I.turnedNew (t' := tk) (ch := [z, tI, tO, j1, j2])
        (fun c o hb e => (sb.2 c (fun y => hb (by simp [y]))).trans
          (hk c o (fun y => hb (by simp [y])) (fun y => hb (by simp [y])) (fun y => hb (by simp [y])) (fun y => hb (by simp [y])) e)) hf (Nat.le_refl _) new
    refine ⟨.ref s.heap.objs.size, _, I1, rfl, ⟨_, p, q, rfl, I.hok.fresh (Nat.le_refl _), rfl, fun l hl => (by rw [I.tuple_inj hl sq1]; exact hp), fun l hl => (by rw [I.list_inj hl sq2]; exact hq)⟩, ⟨z'', ?_, ⟨x1, x2, ?_⟩, ?_, ?_⟩, fun c hcm => ?_⟩
    · exact (sb.2 _ D.S.TIz).trans (hk _ _ D.S.TIz D.S.TITO D.S.TIi1 D.S.TIi2 g2)
    · exact (sb.2 _ D.S.TOz).trans b2
    · exact d1.1.at fun o e => (sb.2 _ (fun y => D.S.zf1 (by simp [y]))).trans e
    · exact d2.1.at fun o e => (sb.2 _ (fun y => D.S.zf2 (by simp [y]))).trans e
    · have lt : c < s.heap.objs.size := by
        simp only [List.mem_cons, List.not_mem_nil, or_false] at hcm
        rcases hcm with rfl | rfl | rfl | rfl | rfl
        · exact zl
        · exact il
        · exact ol
        · exact jl1
        · exact jl2
      rw [upd_ne (Nat.ne_of_lt lt)]
      exact (hf c hcm).1
  done := by
    intro X hP hw hK hc i pins s σ H E I hf st hg
    subst hP hw hK
    obtain ⟨g1, g2, ⟨m, n, g3⟩, g4, g5⟩ := st
    obtain ⟨us, vs, sq1, sq2, he⟩ := hg
    obtain ⟨ia, ra, pa, _⟩ := I.tuple sq1
    obtain ⟨ib, rb, pb, _⟩ := I.list sq2
    have la := ra.length
    have lb := rb.length
    have n1 : ia.toArray.size = us.length := by rw [List.size_toArray]; omega
    have n2 : ib.toArray.size = vs.length := by rw [List.size_toArray]; omega
    have D1 := Draws.tuple (prog := X.prog) (w := X.w) (A := X.A.in1) (I.ok.hd hc) j1 a D.na ia.toArray
    have D2 := Draws.list (prog := X.prog) (w := X.w) (A := X.A.in1) (I.ok.hd hc) j2 b D.nb ib.toArray
    exact wpAny_pyNext_zipD2_end D.S D1 D2 g1 g2 g3 ⟨g4, (show s.heap.IsTuple a ia.toArray from pa)⟩ ⟨g5, pb.isList⟩ (by omega) (by omega) (by omega) fun h' tk hk =>
      ⟨rfl, I.turnedL (t' := tk) (ch := [z, tI, tO, j1, j2]) (fun c o hb e => hk c o (fun y => hb (by simp [y])) (fun y => hb (by simp [y])) (fun y => hb (by simp [y])) (fun y => hb (by simp [y])) e) hf⟩
  self := fun A i s Q E st h => wpAny_pyIter_zip st.1 h
def iZTL (K : PySem.W.Frag) (ta : TA) : TI := fun σ H R => ta σ H fun vs H1 => ∃ a b xs ys, vs = [.ref a, .ref b] ∧ SqT K H1 a xs ∧ SqL K H1 b ys ∧ R (ZTL K a b) H1
theorem pi_zTL {X : Cx} {e e2 : Expr} {ta : TA} {p pos tpos : Pos} {elts : List Expr} {kk : Nat} (hg : Gl X "zip") (hm : X.mg "zip" = none) (ha : PA X [e, e2] ta)
    (hs : starEach [e, e2] X.env = (false, eval e X.env) :: starEach [e2] X.env) (hpl : (backTo pos (starEach [e2] X.env)).any (·.1) = false) :
    PI X (.Tuple elts kk tpos) (.Call (.Name "zip" p) [e, e2] [] pos) (iZTL X.K ta) := by
  refine ⟨fun pins s σ H R I h => Call_ (ld_blt I hg hm PyProof.Rows.boot_zip (PyProof.Rows.callWith_type1 (thn (ha.run pos pins s σ H _ I h) fun us s1 ⟨vs, H1, I1, r1, q1⟩ => ?_) hs hpl))⟩
  obtain ⟨a, b, xs, ys, ex, sq1, sq2, q⟩ := q1
  subst ex
  obtain ⟨u1, u2, rfl, ru1, ru2⟩ := vals2 r1
  cases ru1
  cases ru2
  obtain ⟨ia, ra, pa, _⟩ := I1.tuple sq1
  obtain ⟨ib, rb, pb, _⟩ := I1.list sq2
  have pt : s1.heap.IsTuple a ia.toArray := pa
  have al : a < s1.heap.objs.size := pa.lt
  have bl : b < s1.heap.objs.size := pb.lt
  refine zip_begins2 (begins_tuple a ia.toArray) (begins_list b ib.toArray) pt pb.isList fun h' hz hI hO h1 h2 hsz hk => wpAny_pyIter_zip hz ?_
  have sep := zip_sep2 (N := s1.heap.objs.size) (fp1 := [a]) (fp2 := [b]) (fun c hc => (by rw [List.mem_singleton.mp hc]; exact al)) (fun c hc => (by rw [List.mem_singleton.mp hc]; exact bl))
  refine ⟨s1.heap.objs.size + 4, [s1.heap.objs.size + 4, s1.heap.objs.size + 2, s1.heap.objs.size + 3, s1.heap.objs.size, s1.heap.objs.size + 1], _, _, H1, rfl, I1.kept (t' := s1.toks) hk,
    turnTL ⟨sep, Nat.ne_of_lt al, Nat.ne_of_lt (Nat.lt_succ_of_lt bl)⟩, ⟨hz, hI, ⟨_, _, hO⟩, ⟨_, h1, rfl, rfl⟩, ⟨_, h2, rfl, rfl⟩⟩, fun c hc => ?_, q⟩
  have le : s1.heap.objs.size ≤ c := by
    simp only [List.mem_cons, List.not_mem_nil, or_false] at hc
    rcases hc with rfl | rfl | rfl | rfl | rfl <;> omega
  exact I1.fpOk le (I1.hok.fresh le)
end DL
namespace DL
open PySem PySem.Spec PyProof.Rows L2
section
variable {X : Cx} {e e2 : Expr} {elts : List Expr} {kk : Nat} {tpos p pos : Pos} {wa : WA}
def wiZTL (wa : WA) : WI := fun Γ M k => wa Γ M fun ds M1 => match ds with
  | [.tup xs, y] => (match asR M1 y with | some ys => k (zipD xs ys) (gAt y ys) M1 | none => False)
  | _ => False
theorem walks_zTL {K : PySem.W.Frag} {H0 : Hp} {a b : Addr} {vs : List V} {y : D} {ds es : List D} (hs : SqT K H0 a vs) (hd : Dats K H0 vs ds) (r2 : Dat K H0 (.ref b) y) : Walks K (ZTL K a b) H0 (zipD ds es) (gAt y es) := fun Fr H0' M H e w g => by
  have s1 := same_t (e.trans w.ex) hs
  obtain ⟨c, us, ec, s2, hd2⟩ := asR_ok w (r2.mono e) g
  cases ec
  have n1 := hd.length
  have n2 := hd2.length
  have n3 := zipD_len ds es
  refine ⟨fun i hi => ?_, ⟨vs, us, s1, s2, by omega⟩, fun i x H' d hd' z => ?_⟩
  · have m1 : i < vs.length := by omega
    have m2 : i < us.length := by omega
    exact ⟨vs, us, vs[i], us[i], s1, s2, List.getElem?_eq_getElem m1, List.getElem?_eq_getElem m2⟩
  · obtain ⟨T, v, u, rfl, hT, rfl, h1, h2⟩ := z
    obtain ⟨d1, d2, e2, e3, rfl⟩ := zipD_get hd'
    obtain ⟨v', e4, r4⟩ := hd.get e2
    obtain ⟨u', e5, r5⟩ := hd2.get e3
    have e6 := h1 vs s1
    have e7 := h2 us s2
    rw [e4] at e6; cases e6
    rw [e5] at e7; cases e7
    exact new_pair w hT (r4.mono e) r5
theorem di_zTL (hm : X.mg "zip" = none) (ha : DA X [e, e2] wa) (hg : Gl X "zip" := by rfl) (hs : starEach [e, e2] X.env = (false, eval e X.env) :: starEach [e2] X.env := by rfl)
    (hpl : (backTo pos (starEach [e2] X.env)).any (·.1) = false := by rfl) : DI X (.Tuple elts kk tpos) (.Call (.Name "zip" p) [e, e2] [] pos) (wiZTL wa) :=
  ⟨_, pi_zTL hg hm ha.run hs hpl, fun σ H Γ Fr H0 M k R h1 h2 h3 h4 => ⟨Γ, Fr, H0, M, _, h1, h2, h3, fun vs H1 H' ds M' e1 w1 r1 q1 => by
    split at q1
    · obtain ⟨v, u, rfl, rv, ru⟩ := dats2 r1
      split at q1
      · rename_i ys ey
        cases rv with
        | tup hs hd =>
          obtain ⟨c, us, ec, s2, hd2⟩ := asR_ok w1 ru ey
          subst ec
          exact ⟨_, c, _, us, rfl, same_t w1.ex hs, s2, h4 _ _ _ H' H1 M' e1 w1 q1 (walks_zTL hs hd ru)⟩
      · exact q1.elim
    · exact q1.elim⟩⟩
end
end DL

set_option autoImplicit false
set_option maxRecDepth 100000
set_option maxHeartbeats 4000000
/-! anything held against the empty tuple -/
namespace EQ
open PySem PySem.Spec PyProof.Rows L2
open PySem.AutoSeq1 (wpAny_loadPart') in
theorem dict_tup0 (l b : Addr) (es : Array DictEntry) (n : Nat) (dd dd2 : Option Addr) (sl sl2 : Array (Option Value)) (c : Value) (its : Array Value) (n2 : Nat) (f : isSubtype c (.type "dict") = pure false) :
    Meets (Builtin.«dict.__ne__» ⟨[.ref l, .ref b], []⟩) (fun _ R s => s.heap.get? l = some { cls := .type "dict", dict := dd, data := .dict es n, slots := sl } ∧ s.heap.get? b = some { cls := c, dict := dd2, data := .seq its n2, slots := sl2 } ∧ R (.ok (.ret .notImplemented)) s) :=
  .of_wp fun P w A R s h => by
    obtain ⟨hp, g, d, tk, os⟩ := s
    obtain ⟨q1, q2, q3⟩ := h
    wp_walk using wpAny_loadPart' q1, wpAny_loadPart' q2, wpAny_load q1, wpAny_load q2
    exact ⟨_, rfl, q3⟩
open PySem.AutoSeq1 (wpAny_loadPart') in
theorem tup_dict0 (l b : Addr) (es : Array DictEntry) (n : Nat) (dd dd2 : Option Addr) (sl sl2 : Array (Option Value)) (its : Array Value) (n2 : Nat) (f : isSubtype (.type "dict") (.type "tuple") = pure false) :
    Meets (Builtin.«tuple.__ne__» ⟨[.ref b, .ref l], []⟩) (fun _ R s => s.heap.get? l = some { cls := .type "dict", dict := dd, data := .dict es n, slots := sl } ∧ s.heap.get? b = some { cls := .type "tuple", dict := dd2, data := .seq its n2, slots := sl2 } ∧ R (.ok (.ret .notImplemented)) s) :=
  .of_wp fun P w A R s h => by
    obtain ⟨hp, g, d, tk, os⟩ := s
    obtain ⟨q1, q2, q3⟩ := h
    wp_walk using wpAny_loadPart' q1, wpAny_loadPart' q2, wpAny_load q1, wpAny_load q2
    exact ⟨_, rfl, q3⟩
theorem ne_dict_tup {A : Around} {s : Shared} {l b : Addr} {o : Obj} {es : Array DictEntry} {n : Nat} {its : Array Value} (ho : s.heap.get? l = some o) (hc : o.cls = .type "dict") (hd : o.data = .dict es n) (hb : s.heap.IsTuple b its) (hu : A.units < cLine) :
    SeqAt.RcNeAt A s (.ref l) (.ref b) true := fun P w E Q h => by
  obtain ⟨cls, dd, data, sl⟩ := o
  obtain ⟨⟨cls2, dd2, data2, sl2⟩, ho2, hc2, n2, hd2⟩ := id hb
  simp only at hc hd hc2 hd2
  subst hc hd hc2 hd2
  have hne : l ≠ b := fun z => by
    subst z
    rw [ho] at ho2; simp at ho2
  refine SeqAt.rc_ne_decline_or (k := false) ⟨_, ho, rfl⟩ ⟨_, ho2, rfl⟩ (by decide) PySem.F.sub_tuple_dict PySem.F.slot_dict_ne PySem.F.slot_tuple_ne_refl ?_ ?_ ?_ (.inr hu) h
  · exact fun _ z => call_meets PySem.F.slot_dict_ne ⟨_, ho, rfl⟩ PySem.F.entry_dict_ne (PySem.F.args_dict_ne_2 _ _) (dict_tup0 l b es n dd dd2 sl sl2 _ its n2 PySem.F.sub_tuple_dict) ⟨ho, ho2, z⟩
  · exact fun _ z => call_meets PySem.F.slot_tuple_ne_refl ⟨_, ho2, rfl⟩ PySem.F.entry_tuple_ne (PySem.F.args_tuple_ne_2 _ _) (tup_dict0 l b es n dd dd2 sl sl2 its n2 PySem.F.sub_dict_tuple) ⟨ho, ho2, z⟩
  · exact fun _ z => wpAny_isSame_ref_other hne ho ho2 (by simp) z
/-- what is no tuple, and no object of a class -/
def Nt (K : PySem.W.Frag) (H : Hp) (x : V) : Prop := x = .non ∨ (∃ b, x = .bl b) ∨ (∃ i, x = .int i) ∨ (∃ z, x = .str z) ∨ ∃ a, x = .ref a ∧ ((∃ xs, SqL K H a xs) ∨ ∃ kvs, Rd H a (.dK kvs))
def rNt (K : PySem.W.Frag) : R2 := fun x y H Q => ∃ b, y = .ref b ∧ SqT K H b [] ∧ Nt K H x ∧ Q (.bl true) H
section
variable {X : Cx}
theorem op_neNt (hu : X.A.units + 64 < cLine) : OpR X (compareOp .NotEq) (rNt X.K) := by
  intro pins s σ H x y v u Q I rx ry h
  obtain ⟨b, rfl, hb, hx, q⟩ := h
  cases ry
  obtain ⟨jts, r2, pl2, _⟩ := I.tuple hb
  have hu' : X.A.in1.units < cLine := by show X.A.units + 1 < cLine; omega
  have fin : ∃ w H1, Inv X pins σ H1 s ∧ RelV w (.bool true) ∧ Q w H1 := ⟨.bl true, H, I, rfl, q⟩
  rcases hx with rfl | ⟨c, rfl⟩ | ⟨i, rfl⟩ | ⟨z, rfl⟩ | ⟨a, rfl, hx⟩
  · cases rx
    exact SeqAt.RcNeAt.none_tuple pl2 (by omega) _ _ _ _ ⟨.bl true, H, I, rfl, q⟩
  · cases rx
    exact SeqAt.RcNeAt.bool_tuple c pl2 (by omega) _ _ _ _ ⟨.bl true, H, I, rfl, q⟩
  · obtain ⟨t, rfl⟩ := rx
    exact SeqAt.RcNeAt.int_tuple i t pl2 (by omega) _ _ _ _ ⟨.bl true, H, I, rfl, q⟩
  · obtain ⟨t, rfl⟩ := rx
    exact SeqAt.RcNeAt.str_tuple z t pl2 (by omega) _ _ _ _ ⟨.bl true, H, I, rfl, q⟩
  · cases rx
    rcases hx with ⟨xs, hx⟩ | ⟨kvs, hx⟩
    · obtain ⟨its, _, pl, _⟩ := I.list hx
      exact SeqAt.RcNeAt.list_tuple pl.isList pl2 (by omega) _ _ _ _ ⟨.bl true, H, I, rfl, q⟩
    · obtain ⟨_, _, vs, _, o, es, ep, g, ex, d, _⟩ := dk_rd I.hok hx
      exact ne_dict_tup g ex.1 d pl2 (by omega) _ _ _ _ ⟨.bl true, H, I, rfl, q⟩
end
end EQ
namespace DL
open PySem PySem.Spec PyProof.Rows L2
def rdNeMtA : D → D → Mem → KD → Prop := fun x y M k => match y with
  | .tup [] => (match x with
    | .tup ds => k (.bl (!ds.isEmpty)) M
    | .scr _ => False
    | .ty _ => False
    | .cel a => (M a).any oldC = true ∧ k (.bl true) M
    | _ => k (.bl true) M)
  | _ => False
section
variable {X : Cx} {K : PySem.W.Frag}
theorem opd_neMtA : OpD K (fun x y H Q => EQ.rMt K not x y H Q ∨ EQ.rNt K x y H Q) rdNeMtA := fun Fr H0 M H x y vx vy k Q w rx ry h c => by
  unfold rdNeMtA at h
  split at h
  · have hb : ∃ b, vy = .ref b ∧ SqT K H b [] := by
      cases ry with
      | tup h2 d2 => cases d2; exact ⟨_, rfl, same_t w.ex h2⟩
    obtain ⟨b, rfl, hb⟩ := hb
    have nt : EQ.Nt K H vx → k (.bl true) M → EQ.rMt K not vx (.ref b) H Q ∨ EQ.rNt K vx (.ref b) H Q := fun n q => .inr ⟨b, rfl, hb, n, c _ H0 H _ M (Same.refl _) w (.bl _) q⟩
    cases x with
    | tup ds =>
      cases rx with
      | tup h1 d1 =>
        refine .inl ⟨_, _, _, rfl, rfl, same_t w.ex h1, hb, c _ H0 H _ M (Same.refl _) w (.bl _) ?_⟩
        have : ∀ {vs : List V} {ds : List D}, Dats K H0 vs ds → vs.isEmpty = ds.isEmpty := fun h => by cases h <;> rfl
        rw [this d1]; exact h
    | non => cases rx; exact nt (.inl rfl) h
    | bl _ => cases rx; exact nt (.inr (.inl ⟨_, rfl⟩)) h
    | int _ => cases rx; exact nt (.inr (.inr (.inl ⟨_, rfl⟩))) h
    | str _ => cases rx; exact nt (.inr (.inr (.inr (.inl ⟨_, rfl⟩)))) h
    | lst ds => cases rx with | lst hs hd => exact nt (.inr (.inr (.inr (.inr ⟨_, rfl, .inl ⟨_, .of (w.ex _ _ hs)⟩⟩)))) h
    | cel a =>
      cases rx
      obtain ⟨e, h⟩ := h
      cases q : M a with
      | none => rw [q] at e; cases e
      | some cc =>
        rw [q] at e
        obtain ⟨_, o, ho, hc⟩ := w.mem _ _ q
        cases hc with
        | dnt _ _ _ _ => cases e
        | rng _ _ => cases e
        | tab _ => cases e
        | dcf _ => cases e
        | lst rd => exact nt (.inr (.inr (.inr (.inr ⟨_, rfl, .inl ⟨_, .of ho⟩⟩)))) h
        | dct rd => exact nt (.inr (.inr (.inr (.inr ⟨_, rfl, .inr ⟨_, .inl ho⟩⟩)))) h
    | scr _ => exact h.elim
    | ty _ => exact h.elim
  · exact h.elim
theorem c_neMtA {k : Nat} (hr : DG.RoomG k X.A) : CmpD X .NotEq rdNeMtA := ⟨_, (EQ.op_neMt hr.r.units).or (EQ.op_neNt hr.r.units), opd_neMtA⟩
end
end DL

set_option autoImplicit false
set_option maxRecDepth 100000
set_option maxHeartbeats 4000000
namespace DL
open PySem PySem.Spec PyProof.Rows L2
section
variable {X : Cx} {K : PySem.W.Frag} {e a b : Expr}
/-- xs * n, of a list -/
def rdRep : D → D → Mem → KD → Prop := fun x y M k => match asL M x, y with
  | some xs, .int n => (-(2 ^ 63) ≤ n ∧ n < 2 ^ 63) ∧ xs.length * n.toNat ≤ sizeLine ∧ k (.lst (List.replicate n.toNat xs).flatten) M
  | _, _ => False
theorem dats_flat {H : Hp} {vs : List V} {ds : List D} (h : Dats K H vs ds) : ∀ n : Nat, Dats K H (List.replicate n vs).flatten (List.replicate n ds).flatten
  | 0 => .nil
  | n + 1 => by
    rw [List.replicate_succ, List.replicate_succ, List.flatten_cons, List.flatten_cons]
    exact h.append (dats_flat h n)
theorem opd_rep : OpD K rRep rdRep := fun Fr H0 M H x y vx vy k Q w rx ry h c => by
  unfold rdRep at h
  split at h
  · rename_i xs n e1
    obtain ⟨a, vs, rfl, h1, d1⟩ := asL_ok w rx e1
    cases ry
    refine ⟨a, _, vs, rfl, rfl, h1, h.1.1, h.1.2, by rw [d1.length]; exact h.2.1, fun p hp => ?_⟩
    exact c _ _ _ _ M (same_new (w.fresh hp)) (w.new hp) (.lst upd_same ((dats_flat d1 _).mono (same_new (w.fresh hp)))) h.2.2
  · exact h.elim
theorem de_rep {wa wb : WE} {pos : Pos} (ha : DE X a wa) (hb : DE X b wb) : DE X (.BinOp a .Mult b pos) (wOp rdRep wa wb) := de_op op_rep opd_rep ha hb
end
end DL

set_option autoImplicit false
set_option maxRecDepth 100000
set_option maxHeartbeats 4000000
/-! sorted of texts, min and max of two whole numbers, a text's place in a list -/
namespace DL
open PySem PySem.Spec PyProof.Rows L2
section
variable {K : PySem.W.Frag} {X : Cx}
def rdSortS : FD := fun ds M k => match ds with
  | [x] => (match asR M x with
    | some xs => (match strsD xs with | some l => l.length < 64 ∧ ∀ ys : List Str, ys.Perm l → sortedS ys = true → k (.lst (ys.map D.str)) M | none => False)
    | none => False)
  | _ => False
theorem calld_sortS : CallD K (rSortedS K) rdSortS := fun Fr H0 M H vs ds k Q w r h c => by
  unfold rdSortS at h
  split at h
  · obtain ⟨v, rfl, rv⟩ := dats1 r
    split at h
    · rename_i xs e
      split at h
      · rename_i l el
        obtain ⟨a, us, rfl, hs, hd⟩ := asR_ok w rv e
        have := strsD_ok hd el
        subst this
        exact ⟨a, l, rfl, hs, h.1, fun ys p hy hsrt hp => c _ _ _ _ M (same_new (w.fresh hp)) (w.new hp) (.lst upd_same (dats_strs ys)) (h.2 ys hy hsrt)⟩
      · exact h.elim
    · exact h.elim
  · exact h.elim
theorem de_sortS {e : Expr} {we : WE} {p pos : Pos} (hm : X.mg "sorted" = none) (he : DE X e we) (hs : starEach [e] X.env = (false, eval e X.env) :: starEach [] X.env := by rfl) (hg : Gl X "sorted" := by rfl) (hpl : (backTo pos (starEach [] X.env)).any (·.1) = false := by rfl) :
    DE X (.Call (.Name "sorted" p) [e] [] pos) (wCall rdSortS (wCons we wNil)) :=
  de_callB cr_sortedS calld_sortS hm PyProof.Rows.boot_sorted (da_cons he da_nil hs) hg (by decide) (by decide) hs hpl
def rdTwoI (g : Int → Int → Int) : FD := fun ds M k => match ds with | [.int i, .int j] => k (.int (g i j)) M | _ => False
theorem calld_two (g : Int → Int → Int) : CallD K (fun xs H Q => ∃ i j, xs = [.int i, .int j] ∧ Q (.int (g i j)) H) (rdTwoI g) := fun Fr H0 M H vs ds k Q w r h c => by
  unfold rdTwoI at h
  split at h
  · obtain ⟨v, u, rfl, rv, ru⟩ := dats2 r
    cases rv; cases ru
    exact ⟨_, _, rfl, c _ H0 H _ M (Same.refl _) w (.int _) h⟩
  · exact h.elim
theorem boot_min : bootBuiltins "min" = some (.builtin "min") := by decide +kernel
theorem boot_max : bootBuiltins "max" = some (.builtin "max") := by decide +kernel
theorem de_min2 {a b : Expr} {wa wb : WE} {p pos : Pos} (hc : X.calm = true) (hm : X.mg "min" = none) (ha : DE X a wa) (hb : DE X b wb) (hs : starEach [a, b] X.env = (false, eval a X.env) :: starEach [b] X.env := by rfl) (hs2 : starEach [b] X.env = (false, eval b X.env) :: starEach [] X.env := by rfl)
    (hg : Gl X "min" := by rfl) (hpl : (backTo pos (starEach [b] X.env)).any (·.1) = false := by rfl) : DE X (.Call (.Name "min" p) [a, b] [] pos) (wCall (rdTwoI fun i j => if j < i then j else i) (wCons wa (wCons wb wNil))) :=
  de_callB (call_min2 hc) (calld_two _) hm boot_min (da_cons ha (da_cons hb da_nil hs2) hs) hg (by decide) (by decide) hs hpl
theorem de_max2 {a b : Expr} {wa wb : WE} {p pos : Pos} (hc : X.calm = true) (hm : X.mg "max" = none) (ha : DE X a wa) (hb : DE X b wb) (hs : starEach [a, b] X.env = (false, eval a X.env) :: starEach [b] X.env := by rfl) (hs2 : starEach [b] X.env = (false, eval b X.env) :: starEach [] X.env := by rfl)
    (hg : Gl X "max" := by rfl) (hpl : (backTo pos (starEach [b] X.env)).any (·.1) = false := by rfl) : DE X (.Call (.Name "max" p) [a, b] [] pos) (wCall (rdTwoI fun i j => if j > i then j else i) (wCons wa (wCons wb wNil))) :=
  de_callB (call_max2 hc) (calld_two _) hm boot_max (da_cons ha (da_cons hb da_nil hs2) hs) hg (by decide) (by decide) hs hpl
theorem r_min2 {i j : Int} {M : Mem} {k : KD} (h : k (.int (if j < i then j else i)) M) : rdTwoI (fun i j => if j < i then j else i) [.int i, .int j] M k := h
/-- a text's first place in a list -/
def wMtR (rd : D → List D → Mem → KD → Prop) (wo : WE) (wa : WA) : WE := fun Γ M k => wo Γ M fun d M1 => (asR M1 d).isSome = true ∧ wa Γ M1 fun ds M2 => rd d ds M2 k
theorem de_mtR {o e : Expr} {es : List Expr} {name : Str} {id : String} {apos cpos : Pos} {wo : WE} {wa : WA} {r : V → List V → Hp → VK → Prop} {rd : D → List D → Mem → KD → Prop} (slot : Slot "list" name id) (hty : typeOf (.builtin id) = pure (.type "method_descriptor")) (hm : MtR X id r) (hd : MtD X.K r rd) (ho : DE X o wo) (ha : DA X (e :: es) wa)
    (hbase : attributeBase o name X.env (eval o X.env) = eval o X.env := by rfl)
    (hfew : ((backTo cpos (starEach (e :: es) X.env)).all (fun x => !x.1) && (backToKw cpos (keywordEach [] X.env)).all (fun x => x.1.isSome)
      && decide ((e :: es).length + ([] : List Keyword).length + (if ([] : List Keyword).isEmpty then 0 else 1) < 30)) = true := by rfl)
    (hline : (apos.endLine == cpos.line) = true := by rfl) (hs : starEach (e :: es) X.env = (false, eval e X.env) :: starEach es X.env := by rfl) (hplain : (backTo cpos (starEach es X.env)).any (·.1) = false := by rfl) :
    DE X (.Call (.Attribute o name apos) (e :: es) [] cpos) (wMtR rd wo wa) :=
  de_of (pe_bm PySem.F.plainAttrs_list slot hty hm ho.run ha.run hbase hfew hline hs hplain) fun σ H Q Γ Fr H0 M k h1 h2 h3 h4 => by
    refine ⟨Γ, Fr, H0, M, _, h1, h2, h3, fun v H1 H' d M' e1 w1 r1 q1 => ?_⟩
    obtain ⟨qc, q1⟩ := q1
    refine ⟨?_, Γ, Fr, H1, M', _, h1.mono e1, w1, q1, fun vs H2 H'' ds M2 e2 w2 r2 q2 => hd Fr H2 M2 H'' v d vs ds k Q w2 (r1.mono e2) r2 q2 (h4.mono (e1.trans e2))⟩
    obtain ⟨ds, hc⟩ := Option.isSome_iff_exists.mp qc
    obtain ⟨a', vs, e3, e4, e5⟩ := asR_ok w1 r1 hc
    subst e3
    exact .inl ⟨rfl, _, e4⟩
def rdIndexS : D → List D → Mem → KD → Prop := fun x ds M k => match ds with
  | [.str s] => (match asR M x with
    | some xs => (match strsD xs with | some l => (match l.findIdx? (fun y => decide (y = s)) with | some j => k (.int (j : Nat)) M | none => False) | none => False)
    | none => False)
  | _ => False
theorem eqV_str {s t : Str} : eqV (.str s) (.str t) = decide (s = t) := by
  first | rfl | (unfold eqV; rw [decide_eq_decide]; simp) | simp [eqV]
theorem mtd_indexS : MtD K (rIndex K) rdIndexS := fun Fr H0 M H v d vs ds k Q w r rs h c => by
  unfold rdIndexS at h
  split at h
  · obtain ⟨u, rfl, ru⟩ := dats1 rs
    cases ru
    split at h
    · rename_i xs e
      split at h
      · rename_i l el
        split at h
        · rename_i s j ej
          obtain ⟨a, us, rfl, hs, hd⟩ := asR_ok w r e
          have := strsD_ok hd el
          subst this
          obtain ⟨hj, e1, e2⟩ := List.findIdx?_eq_some_iff_getElem.mp ej
          refine ⟨a, _, _, j, .str l[j], rfl, rfl, hs, rfl, ?_, ?_, ?_, ?_, c _ H0 H _ M (Same.refl _) w (.int _) h⟩
          · rw [List.all_eq_true]
            intro x hx
            obtain ⟨y, _, rfl⟩ := List.mem_map.mp hx
            rfl
          · rw [List.getElem?_map, List.getElem?_eq_getElem hj]; rfl
          · rw [eqV_str]; exact e1
          · intro m z' hm hz
            rw [List.getElem?_map, List.getElem?_eq_getElem (by omega : m < l.length)] at hz
            cases hz
            rw [eqV_str]
            have := e2 m hm
            simpa using this
        · exact h.elim
      · exact h.elim
    · exact h.elim
  · exact h.elim
theorem de_indexS {o : Expr} {apos cpos : Pos} {wo we : WE} {e : Expr} (ho : DE X o wo) (he : DE X e we)
    (hs : starEach [e] X.env = [(false, eval e X.env)] := by rfl)
    (hbase : attributeBase o "index" X.env (eval o X.env) = eval o X.env := by rfl)
    (hfew : ((backTo cpos (starEach [e] X.env)).all (fun x => !x.1) && (backToKw cpos (keywordEach [] X.env)).all (fun x => x.1.isSome)
      && decide ([e].length + ([] : List Keyword).length + (if ([] : List Keyword).isEmpty then 0 else 1) < 30)) = true := by rfl)
    (hline : (apos.endLine == cpos.line) = true := by rfl) (hplain : (backTo cpos (starEach [] X.env)).any (·.1) = false := by rfl) : DE X (.Call (.Attribute o "index" apos) [e] [] cpos) (wMtR rdIndexS wo (wCons we wNil)) :=
  de_mtR PySem.F.slot_list_index PySem.F.type_list_index mt_index mtd_indexS ho (da_cons he da_nil hs) hbase hfew hline hs hplain
end
end DL

set_option autoImplicit false
set_option maxRecDepth 100000
set_option maxHeartbeats 4000000
/-! sorting by keys that are compared place by place up to the first that differs: tuples whose later places may be of unlike kinds -/
namespace SX
open PySem PySem.W PySem.SeqAt PySem.Calls PyProof.Rows
open AutoSeq1 (wpAny_loadPart')
open MeetsSeq MeetsSeq2 MeetsSeq3 SeqRoads2
/-- < of tuples: only the first place that differs is asked for its < -/
theorem tup_lt (l b : Addr) (xs ys : Array Value) (n m : Nat) (dx dy : Option Addr) (sx sy : Array (Option Value)) (e r : Nat → Bool) : Meets (Builtin.«tuple.__lt__» ⟨[.ref l, .ref b], []⟩)
      (fun A R s => s.heap.get? l = some { cls := .type "tuple", dict := dx, data := .seq xs n, slots := sx } ∧ s.heap.get? b = some { cls := .type "tuple", dict := dy, data := .seq ys m, slots := sy } ∧
        (∀ j (h1 : j < xs.size) (h2 : j < ys.size), EqAt A.in1 s xs[j] ys[j] (e j)) ∧ (∀ j (h1 : j < xs.size) (h2 : j < ys.size), (∀ i, i < j → e i = true) → e j = false → RcLt A.in1 s xs[j] ys[j] (r j)) ∧
        R (.ok (.ret (.bool (firstLt e r (decide (xs.size < ys.size)) (List.range (min xs.size ys.size)))))) s) :=
  .of_wp fun prog w A R s h => by
    obtain ⟨hp, g, d, tk, os⟩ := s
    obtain ⟨hl, hb, he, hr, h⟩ := h
    have f2 := AutoSeq1.sub_tuple_tuple
    have hZ : (xs.toList.zip ys.toList).length = min xs.size ys.size := by simp
    wp_walk using wpAny_loadPart' hl, wpAny_loadPart' hb, wpAny_forIn_list _ (fun rest c s' => c.1 = none ∧ s' = ⟨hp, g, d, tk, os⟩ ∧ ∃ i, (∀ i', i' < i → e i' = true) ∧ rest = (xs.toList.zip ys.toList).drop i ∧ R (.ok (.ret (.bool (firstLt e r (decide (xs.size < ys.size)) ((List.range (min xs.size ys.size)).drop i))))) ⟨hp, g, d, tk, os⟩) _
    case turn =>
      rintro ⟨y, x⟩ rest c s' ⟨hc', rfl, i, hi, hz, hR⟩
      have hlt : i < (xs.toList.zip ys.toList).length := (Nat.lt_or_ge i (xs.toList.zip ys.toList).length).elim id fun h' => by rw [List.drop_of_length_le h'] at hz; cases hz
      have hm : i < min xs.size ys.size := hZ ▸ hlt
      have h1 : i < xs.size := Nat.lt_of_lt_of_le hm (Nat.min_le_left _ _)
      have h2 : i < ys.size := Nat.lt_of_lt_of_le hm (Nat.min_le_right _ _)
      rw [List.drop_eq_getElem_cons hlt] at hz
      obtain ⟨hyx, hrest⟩ := List.cons.inj hz
      obtain rfl : y = xs[i] := by simpa using congrArg Prod.fst hyx
      obtain rfl : x = ys[i] := by simpa using congrArg Prod.snd hyx
      have hd : (List.range (min xs.size ys.size)).drop i = i :: (List.range (min xs.size ys.size)).drop (i + 1) := by simp [List.drop_eq_getElem_cons, hm]
      rw [hd] at hR
      refine wpAny_bind (he i h1 h2 prog w _ _ ?_)
      cases hy : e i with
      | true => rw [firstLt_yes hy] at hR; wp_walk; exact ⟨rfl, rfl, i + 1, fun i' hi' => (Nat.lt_succ_iff_lt_or_eq.mp hi').elim (hi i') (fun z => z ▸ hy), hrest, hR⟩
      | false =>
        rw [firstLt_no hy] at hR
        have hq := hr i h1 h2 hi hy prog w
        wp_walk using hq _ _
        exact ⟨_, rfl, hR⟩
    case fin =>
      rintro ⟨b1, b2⟩ s' ⟨hc', rfl, i, hi, hz, hR⟩
      simp only at hc'
      subst hc'
      have hge : min xs.size ys.size ≤ i := (Nat.lt_or_ge i (xs.toList.zip ys.toList).length).elim (fun h' => by rw [List.drop_eq_getElem_cons h'] at hz; cases hz) (fun h' => hZ ▸ h')
      rw [List.drop_of_length_le (by simpa using hge)] at hR
      wp_walk
      exact ⟨_, rfl, by simpa [Builtin.Tuple.tupleCompareSizes, firstLt] using hR⟩
    case h => exact ⟨rfl, rfl, 0, fun _ z => absurd z (Nat.not_lt_zero _), rfl, by simpa using h⟩
theorem lt_tuples {A : Around} {s : Shared} {l b : Addr} {xs ys : Array Value} {e r : Nat → Bool} (hl : s.heap.IsTuple l xs) (hb : s.heap.IsTuple b ys) (hu : A.units < cLine)
    (he : ∀ j (h1 : j < xs.size) (h2 : j < ys.size), EqAt A.in1 s xs[j] ys[j] (e j)) (hr : ∀ j (h1 : j < xs.size) (h2 : j < ys.size), (∀ i, i < j → e i = true) → e j = false → RcLt A.in1 s xs[j] ys[j] (r j)) :
    RcLt A s (.ref l) (.ref b) (firstLt e r (decide (xs.size < ys.size)) (List.range (min xs.size ys.size))) := fun prog w E Q h => by
  obtain ⟨⟨c1, d1, t1, sl⟩, ho, hc, n, hd⟩ := id hl
  obtain ⟨⟨c2, d2, t2, sl2⟩, ho2, hc2, n2, hd2⟩ := id hb
  simp only at hc hd hc2 hd2
  subst hc hd hc2 hd2
  exact richCompare_meets_room (op := .Lt) ⟨_, ho, rfl⟩ ⟨_, ho2, rfl⟩ F.slot_tuple_lt F.entry_tuple_lt (F.args_tuple_lt_2 _ _) (tup_lt l b xs ys n n2 d1 d2 sl sl2 e r)
    ⟨ho, ho2, he, hr, ⟨(fun x => nomatch x), h⟩⟩ hu
/-! data that can be compared -/
mutual
def cmpb : PyData → PyData → Bool
  | .none, .none => true
  | .bool _, .bool _ => true
  | .int _, .int _ => true
  | .str _, .str _ => true
  | .list xs, .list ys => alikeAll xs ys
  | .tuple xs, .tuple ys => cmpbs xs ys
  | _, _ => false
def cmpbs : List PyData → List PyData → Bool
  | x :: xs, y :: ys => cmpb x y && (!PyData.eqv x y || cmpbs xs ys)
  | [], _ => true
  | _ :: _, [] => true
end
theorem cmpbs_cons {x y : PyData} {xs ys : List PyData} (h : cmpbs (x :: xs) (y :: ys) = true) : cmpb x y = true ∧ (PyData.eqv x y = true → cmpbs xs ys = true) := by
  rw [cmpbs, Bool.and_eq_true] at h
  exact ⟨h.1, fun e => by simpa [e] using h.2⟩
theorem alike_of {x y : PyData} (h : cmpb x y = true) (nt : ∀ xs, x ≠ .tuple xs) : alike x y = true := by
  cases x <;> cases y <;> first | exact absurd rfl (nt _) | (simp only [cmpb] at h; done) | (simp only [alike]; try simpa [cmpb] using h)
mutual
theorem toksC : ∀ (x y : PyData), cmpb x y = true → (PyData.eqv x y = true → keyToks x = keyToks y) ∧ (PyData.eqv x y = false → ∀ l m, PyProof.Rows.lexLt itemOrd (keyToks x ++ l) (keyToks y ++ m) = PyProof.Rows.lexLt itemOrd (keyToks x) (keyToks y))
  | .tuple xs, y, h => by
    cases y with
    | tuple ys => have t := toksCs xs ys (by simpa [cmpb] using h); simp only [keyToks, PyData.eqv]; exact t
    | _ => exact absurd h (by simp [cmpb])
  | .none, y, h => toks_eqv _ _ (alike_of h (by simp))
  | .bool _, y, h => toks_eqv _ _ (alike_of h (by simp))
  | .int _, y, h => toks_eqv _ _ (alike_of h (by simp))
  | .str _, y, h => toks_eqv _ _ (alike_of h (by simp))
  | .list _, y, h => toks_eqv _ _ (alike_of h (by simp))
  | .dict _, y, h => absurd h (by cases y <;> simp [cmpb])
theorem toksCs : ∀ (xs ys : List PyData), cmpbs xs ys = true → (PyData.eqvAll xs ys = true → keyToksAll xs = keyToksAll ys) ∧ (PyData.eqvAll xs ys = false → ∀ l m, PyProof.Rows.lexLt itemOrd (keyToksAll xs ++ l) (keyToksAll ys ++ m) = PyProof.Rows.lexLt itemOrd (keyToksAll xs) (keyToksAll ys))
  | [], ys, _ => toksAll_eqv [] ys (by cases ys <;> simp [alikeAll])
  | x :: xs, [], _ => toksAll_eqv (x :: xs) [] (by simp [alikeAll])
  | x :: xs, y :: ys, h => by
    obtain ⟨a1, a2⟩ := toksC x y (cmpbs_cons h).1
    rw [eqv_all_cons, toks_all_cons, toks_all_cons]
    cases hx : PyData.eqv x y with
    | true =>
      obtain ⟨b1, b2⟩ := toksCs xs ys ((cmpbs_cons h).2 hx)
      rw [a1 hx, Bool.true_and]
      refine ⟨fun e => by rw [b1 e], fun e l m => ?_⟩
      simp only [List.cons_append, List.append_assoc]
      rw [lex_self, lex_self, lex_pre, lex_pre, b2 e]
    | false =>
      rw [Bool.false_and]
      refine ⟨fun e => absurd e Bool.false_ne_true, fun _ l m => ?_⟩
      simp only [List.cons_append, List.append_assoc]
      rw [lex_self, lex_self, a2 hx, a2 hx]
end
theorem ltC_yes {x y : PyData} {xs ys : List PyData} (h : cmpb x y = true) (e : PyData.eqv x y = true) : PyProof.Rows.lexLt itemOrd (keyToksAll (x :: xs)) (keyToksAll (y :: ys)) = PyProof.Rows.lexLt itemOrd (keyToksAll xs) (keyToksAll ys) := by
  rw [toks_all_cons, toks_all_cons, (toksC x y h).1 e, lex_self, lex_pre]
theorem ltC_no {x y : PyData} {xs ys : List PyData} (h : cmpb x y = true) (e : PyData.eqv x y = false) : PyProof.Rows.lexLt itemOrd (keyToksAll (x :: xs)) (keyToksAll (y :: ys)) = dataLt x y := by
  rw [toks_all_cons, toks_all_cons, lex_self]
  exact (toksC x y h).2 e _ _
theorem firstC : ∀ (xs ys : List PyData), cmpbs xs ys = true →
    firstLt (pairEq xs ys) (fun j => dataLt (xs.getD j .none) (ys.getD j .none)) (decide (xs.length < ys.length)) (List.range (min xs.length ys.length)) = PyProof.Rows.lexLt itemOrd (keyToksAll xs) (keyToksAll ys)
  | [], ys, _ => firstLt_toks [] ys (by cases ys <;> simp [alikeAll])
  | x :: xs, [], _ => firstLt_toks (x :: xs) [] (by simp [alikeAll])
  | x :: xs, y :: ys, h => by
    have em : min (x :: xs).length (y :: ys).length = min xs.length ys.length + 1 := by simp only [List.length_cons]; omega
    have ed : decide ((x :: xs).length < (y :: ys).length) = decide (xs.length < ys.length) := by simp only [List.length_cons]; exact decide_eq_decide.mpr (by omega)
    rw [em, ed, List.range_succ_eq_map]
    cases hx : PyData.eqv x y with
    | true => rw [firstLt_yes (show pairEq (x :: xs) (y :: ys) 0 = true from hx), firstLt_map, ltC_yes (cmpbs_cons h).1 hx, ← firstC xs ys ((cmpbs_cons h).2 hx)]; rfl
    | false => rw [firstLt_no (show pairEq (x :: xs) (y :: ys) 0 = false from hx), ltC_no (cmpbs_cons h).1 hx]; rfl
theorem not_noneC {x y : PyData} (h : cmpb x y = true) (e : PyData.eqv x y = false) : x ≠ .none := by
  rintro rfl
  cases y with
  | none => exact absurd e (by simp [PyData.eqv])
  | _ => exact absurd h (by simp [cmpb])
theorem lay_tup {xs : List PyData} (h : (PyData.tuple xs).canLay0 = true) : PyData.canLayAll0 xs = true := by simpa [PyData.canLay0] using h
theorem lay_cons {x : PyData} {xs : List PyData} (h : PyData.canLayAll0 (x :: xs) = true) : x.canLay0 = true ∧ PyData.canLayAll0 xs = true := by
  rw [PyData.canLayAll0, Bool.and_eq_true] at h; exact h
mutual
/-- < of such data -/
theorem rcC : ∀ (da db : PyData) (A : Around) (s : Shared) (a b : Value) (as bs : List Addr), Reads s.heap a da as → Reads s.heap b db bs → cmpb da db = true → da.canLay0 = true → db.canLay0 = true → da ≠ .none → A.units + min da.depth db.depth < cLine → RcLt A s a b (dataLt da db)
  | .tuple xs, db, A, s, a, b, as, bs, ra, rb, h, la, lb, e, hu => by
    cases db with
    | tuple ys =>
      have hal : cmpbs xs ys = true := by simpa [cmpb] using h
      cases ra with
      | @tuple l o vs n _ as₁ h1 h2 h3 h4 =>
        cases rb with
        | @tuple l' o' vs' n' _ bs₁ k1 k2 k3 k4 =>
          have n1 : vs.size = xs.length := by simpa using ReadsAll.length _ _ _ h4
          have n2 : vs'.size = ys.length := by simpa using ReadsAll.length _ _ _ k4
          rw [dataLt_tuple, ← firstC xs ys hal, ← n1, ← n2]
          refine lt_tuples ⟨_, h1, h2, _, h3⟩ ⟨_, k1, k2, _, k3⟩ (room_here hu) (fun j j1 j2 => ?_) fun j j1 j2 hi hj => ?_
          · have z := eqAt_readsAll xs ys A.in1 s vs.toList vs'.toList _ _ h4 k4 (lay_tup la) (lay_tup lb) (room_in hu) j (by simpa using j1) (by simpa using j2)
            simpa using z
          · have z := rcCs xs ys A.in1 s vs.toList vs'.toList _ _ h4 k4 hal (lay_tup la) (lay_tup lb) (room_in hu) j (by simpa using j1) (by simpa using j2) hi hj
            simpa using z
    | _ => exact absurd h (by simp [cmpb])
  | .none, db, A, s, a, b, as, bs, ra, rb, h, la, lb, e, hu => absurd rfl e
  | .bool _, db, A, s, a, b, as, bs, ra, rb, h, la, lb, e, hu => rcLt_alike _ _ A s a b as bs ra rb (alike_of h (by simp)) e hu
  | .int _, db, A, s, a, b, as, bs, ra, rb, h, la, lb, e, hu => rcLt_alike _ _ A s a b as bs ra rb (alike_of h (by simp)) e hu
  | .str _, db, A, s, a, b, as, bs, ra, rb, h, la, lb, e, hu => rcLt_alike _ _ A s a b as bs ra rb (alike_of h (by simp)) e hu
  | .list _, db, A, s, a, b, as, bs, ra, rb, h, la, lb, e, hu => rcLt_alike _ _ A s a b as bs ra rb (alike_of h (by simp)) e hu
  | .dict _, db, _, _, _, _, _, _, _, _, h, _, _, _, _ => absurd h (by cases db <;> simp [cmpb])
theorem rcCs : ∀ (xs ys : List PyData) (A : Around) (s : Shared) (vs ws : List Value) (as bs : List Addr), ReadsAll s.heap vs xs as → ReadsAll s.heap ws ys bs → cmpbs xs ys = true → PyData.canLayAll0 xs = true → PyData.canLayAll0 ys = true →
    A.units + min (PyData.depthAll xs) (PyData.depthAll ys) < cLine → ∀ j (h1 : j < vs.length) (h2 : j < ws.length), (∀ i, i < j → pairEq xs ys i = true) → pairEq xs ys j = false → RcLt A s vs[j] ws[j] (dataLt (xs.getD j .none) (ys.getD j .none))
  | [], _, _, _, _, _, _, _, ra, _, _, _, _, _, j, h1, _, _, _ => by cases ra; exact absurd h1 (Nat.not_lt_zero _)
  | _ :: _, [], _, _, _, _, _, _, _, rb, _, _, _, _, j, _, h2, _, _ => by cases rb; exact absurd h2 (Nat.not_lt_zero _)
  | x :: xs, y :: ys, A, s, _, _, _, _, ra, rb, h, la, lb, hu, j, h1, h2, hi, hj => by
    cases ra with
    | cons r rs =>
      cases rb with
      | cons r' rs' =>
        cases j with
        | zero => exact rcC x y A s _ _ _ _ r r' (cmpbs_cons h).1 (lay_cons la).1 (lay_cons lb).1 (not_noneC (cmpbs_cons h).1 hj) (room_head hu)
        | succ j => exact rcCs xs ys A s _ _ _ _ rs rs' ((cmpbs_cons h).2 (hi 0 (Nat.succ_pos _))) (lay_cons la).2 (lay_cons lb).2 (room_tail hu) j (Nat.lt_of_succ_lt_succ h1) (Nat.lt_of_succ_lt_succ h2) (fun i z => hi (i + 1) (Nat.succ_lt_succ z)) hj
end
section
variable {prog : Program} {w : World} {A : Around} {E : Value → Shared → Prop} {s : Shared}
theorem oneC {f : Bool} {da db : PyData} {a b : Value} {as bs : List Addr} {Q : Bool → Shared → Prop} (hf : f = true → ∀ xs, da ≠ .tuple xs) (ra : Reads s.heap a da as) (rb : Reads s.heap b db bs) (h : cmpb da db = true) (la : da.canLay0 = true) (lb : db.canLay0 = true) (hn : da ≠ .none)
    (hu : A.units + min da.depth db.depth < cLine) (hq : Q (dataLt da db) s) : wpAny (model prog w) A (oneLt' f a b) Q E s := by
  cases f with
  | true => exact oneLt_alike hf ra rb (alike_of h (hf rfl)) hn hu hq
  | false =>
    rw [oneLt'_eq]
    simp only [Bool.false_eq_true, if_false]
    exact wpAny_bind (rcC da db A s a b as bs ra rb h la lb hn hu prog w E _ (wpAny_truthy_bool hq))
theorem katC {b fin : Bool} {Q : Bool → Shared → Prop} : ∀ (xs ys : List PyData) (i : Nat) (vs ws : List Value) (as bs : List Addr), ReadsAll s.heap vs xs as → ReadsAll s.heap ws ys bs → cmpbs xs ys = true → PyData.canLayAll0 xs = true → PyData.canLayAll0 ys = true →
    A.units + min (PyData.depthAll xs) (PyData.depthAll ys) < cLine → (b = true → i = 0 → ∀ x r t, xs = x :: r → x ≠ .tuple t) → fin = decide (xs.length < ys.length) → Q (PyProof.Rows.lexLt itemOrd (keyToksAll xs) (keyToksAll ys)) s → KatLex prog w A b fin Q (vs.zip ws) i s
  | [], ys, i, vs, ws, as, bs, ra, rb, _, _, _, hu, hb, hf, hq => katLex_alike [] ys i vs ws as bs ra rb (by cases ys <;> simp [alikeAll]) hu hb hf hq
  | x :: xs, [], i, vs, ws, as, bs, ra, rb, _, _, _, hu, hb, hf, hq => katLex_alike (x :: xs) [] i vs ws as bs ra rb (by simp [alikeAll]) hu hb hf hq
  | x :: xs, y :: ys, i, _, _, _, _, ra, rb, h, la, lb, hu, hb, hf, hq => by
    have hf' : fin = decide (xs.length < ys.length) := by rw [hf]; simp only [List.length_cons, Nat.add_lt_add_iff_right]
    cases ra with
    | cons r rs =>
      cases rb with
      | cons r' rs' =>
        rw [List.zip_cons_cons]
        refine kat_cons (eqAt_reads x y A s _ _ _ _ r r' (lay_cons la).1 (lay_cons lb).1 (room_head hu) prog w _ _ ?_)
        cases hx : PyData.eqv x y with
        | true =>
          rw [ltC_yes (cmpbs_cons h).1 hx] at hq
          exact kat_yes (katC xs ys (i + 1) _ _ _ _ rs rs' ((cmpbs_cons h).2 hx) (lay_cons la).2 (lay_cons lb).2 (room_tail hu) (fun _ hi => absurd hi (Nat.succ_ne_zero i)) hf' hq)
        | false =>
          rw [ltC_no (cmpbs_cons h).1 hx] at hq
          refine kat_no (oneC (fun hbi t => ?_) r r' (cmpbs_cons h).1 (lay_cons la).1 (lay_cons lb).1 (not_noneC (cmpbs_cons h).1 hx) (room_head hu) hq)
          rw [Bool.and_eq_true] at hbi
          exact hb hbi.1 (by simpa using hbi.2) x xs t rfl
end
/-! one value reads as one datum -/
mutual
theorem one_read {h : Heap} : ∀ (d d' : PyData) (v : Value) (as as' : List Addr), d.canLay0 = true → d'.canLay0 = true → Reads h v d as → Reads h v d' as' → d = d'
  | .none, _, _, _, _, _, _, r, r' => by cases r; cases r'; rfl
  | .bool _, _, _, _, _, _, _, r, r' => by cases r; cases r'; rfl
  | .int _, _, _, _, _, _, _, r, r' => by cases r; cases r'; rfl
  | .str _, _, _, _, _, _, _, r, r' => by cases r; cases r'; rfl
  | .list xs, d', _, _, _, la, lb, r, r' => by
    cases r with
    | list h1 h2 h3 h4 =>
      cases r' with
      | list k1 k2 k3 k4 =>
        rw [h1] at k1; cases k1
        rw [h3] at k3; cases k3
        rw [one_reads xs _ _ _ _ (by simpa [PyData.canLay0] using la) (by simpa [PyData.canLay0] using lb) h4 k4]
      | tuple k1 k2 k3 k4 => rw [h1] at k1; cases k1; rw [h2] at k2; exact absurd (Value.type.inj k2) (by decide)
      | dict k1 k2 k3 k4 k5 => exact absurd lb (by simp [PyData.canLay0])
  | .tuple xs, d', _, _, _, la, lb, r, r' => by
    cases r with
    | tuple h1 h2 h3 h4 =>
      cases r' with
      | tuple k1 k2 k3 k4 =>
        rw [h1] at k1; cases k1
        rw [h3] at k3; cases k3
        rw [one_reads xs _ _ _ _ (by simpa [PyData.canLay0] using la) (by simpa [PyData.canLay0] using lb) h4 k4]
      | list k1 k2 k3 k4 => rw [h1] at k1; cases k1; rw [h2] at k2; exact absurd (Value.type.inj k2) (by decide)
      | dict k1 k2 k3 k4 k5 => exact absurd lb (by simp [PyData.canLay0])
  | .dict _, _, _, _, _, la, _, _, _ => absurd la (by simp [PyData.canLay0])
theorem one_reads {h : Heap} : ∀ (xs ys : List PyData) (vs : List Value) (as as' : List Addr), PyData.canLayAll0 xs = true → PyData.canLayAll0 ys = true → ReadsAll h vs xs as → ReadsAll h vs ys as' → xs = ys
  | [], _, _, _, _, _, _, r, r' => by cases r; cases r'; rfl
  | x :: xs, [], _, _, _, _, _, r, r' => by cases r'; cases r
  | x :: xs, y :: ys, _, _, _, la, lb, r, r' => by
    cases r with
    | cons h1 h2 =>
      cases r' with
      | cons k1 k2 => rw [one_read x y _ _ _ (lay_cons la).1 (lay_cons lb).1 h1 k1, one_reads xs ys _ _ _ (lay_cons la).2 (lay_cons lb).2 h2 k2]
end
/-- every two can be compared, and are laid out plainly -/
structure AllC (ds : List PyData) : Prop where
  cmp : ∀ d, d ∈ ds → ∀ d', d' ∈ ds → cmpb d d' = true
  lay : ∀ d, d ∈ ds → d.canLay0 = true
theorem kindC {h : Heap} {ds : List PyData} (hal : AllC ds) {v : Value} {d : PyData} {as : List Addr} (hd : d ∈ ds) (r : Reads h v d as) : (dataKind h ds).keyOf v = some (keyToks d) := by
  have q : ∃ d, d ∈ ds ∧ ∃ as, Reads h v d as := ⟨d, hd, as, r⟩
  cases e : (dataKind h ds).keyOf v with
  | none =>
    exfalso
    have e' : (dataKind h ds).keyOf v = some (keyToks q.choose) := by
      show (open Classical in if q : ∃ d, d ∈ ds ∧ ∃ as, Reads h v d as then some (keyToks q.choose) else none) = _
      rw [dif_pos q]
    rw [e'] at e
    cases e
  | some k =>
    obtain ⟨d', as', h1, h2, rfl⟩ := dataKind_inv e
    rw [one_read d' d v as' as (hal.lay _ h1) (hal.lay _ hd) h2 r]; rfl
theorem typeC {x y : PyData} (h : cmpb x y = true) : dataType x = dataType y := by
  cases x <;> cases y <;> first | rfl | exact absurd h (by simp [cmpb])
end SX

set_option autoImplicit false
set_option maxRecDepth 100000
set_option maxHeartbeats 4000000
/-! sorted(xs, key=f), f a def of the program that makes what it likes and changes nothing -/
namespace SX
open PySem PySem.W PySem.SeqAt PySem.Calls PyProof.Rows
section
variable {prog : Program} {w : World} {A : Around} {E : Value → Shared → Prop} {s : Shared} {a kS : Addr} {b : Bool} {vs : List Value} {keys : Array Value} {e e1 : Nat} {P : PySem.Fin → Shared → Prop}
theorem sortsC {vs : List Value} {ds : List PyData} (e : EachIs (fun v d => ∃ as, Reads s.heap v d as) vs ds) (hal : AllC ds) (hk : Sortable ds) (hu : ∀ d, d ∈ ds → A.units + d.depth < cLine) : SortsAt prog w A s (dataKind s.heap ds) vs := by
  have room : ∀ {d d' : PyData}, d ∈ ds → A.units + min d.depth d'.depth < cLine := fun {d d'} hd => Nat.lt_of_le_of_lt (Nat.add_le_add_left (Nat.min_le_left _ _) _) (hu d hd)
  refine ⟨fun v hv => (let ⟨d, hd, as, r⟩ := e.left v hv; ⟨_, kindC hal hd r⟩), ?_⟩
  rcases hk with ht | hn
  · cases ds with
    | nil =>
      cases e
      exact ⟨general', fun E x y a b Q ha _ _ => (by obtain ⟨d, _, hd, _⟩ := dataKind_inv ha; cases hd), fun h2 => absurd h2 (by simp)⟩
    | cons d₀ ds₀ =>
      obtain ⟨x₀, r₀, e₀⟩ := ht d₀ (List.mem_cons_self ..)
      have hfirst : ∀ x r, PyData.tuple (x :: r) ∈ d₀ :: ds₀ → cmpb x x₀ = true := fun x r hm => by
        have q := hal.cmp _ hm d₀ (List.mem_cons_self ..)
        rw [e₀] at q
        exact (cmpbs_cons (by simpa [cmpb] using q)).1
      refine ⟨tuples' (dataType x₀ != Value.type "tuple"), ?_, fun h2 E Q hq => ?_⟩
      · intro E x y a b Q ha hb hq
        obtain ⟨d, as, hd, ra, rfl⟩ := dataKind_inv ha
        obtain ⟨d', as', hd', rb, rfl⟩ := dataKind_inv hb
        have hdd := hal.cmp d hd d' hd'
        have ld := hal.lay d hd
        have ld' := hal.lay d' hd'
        have hroom := room (d' := d') hd
        obtain ⟨x1, r1, rfl⟩ := ht d hd
        obtain ⟨x2, r2, rfl⟩ := ht d' hd'
        have hq' : Q (dataLt (.tuple (x1 :: r1)) (.tuple (x2 :: r2))) s := hq
        rw [dataLt_tuple] at hq'
        cases ra with
        | @tuple l o xs n _ _ h1 h2 h3 h4 =>
          cases rb with
          | @tuple l' o' xs' n' _ _ k1 k2 k3 k4 =>
            have n1 : xs.size = (x1 :: r1).length := by simpa using SeqAt.ReadsAll.length _ _ _ h4
            have n2 : xs'.size = (x2 :: r2).length := by simpa using SeqAt.ReadsAll.length _ _ _ k4
            refine kat_lt h1 h3 k1 k3 (katC (x1 :: r1) (x2 :: r2) 0 _ _ _ _ h4 k4 (by simpa [cmpb] using hdd) (lay_tup ld) (lay_tup ld') (by have q := SeqAt.room_in hroom; omega) (fun hb _ x r t ex => ?_) (by rw [n1, n2]) hq')
            obtain ⟨rfl, rfl⟩ := List.cons.inj ex
            rw [← typeC (hfirst _ _ hd)] at hb
            exact dataType_tuple hb t
      · obtain ⟨fs, t1, t2, t3⟩ := each_katTups e ht
        refine kat_kind (T := dataType x₀) t1 (by omega) (fun f hf => ?_) (beq_self_eq_true _) hq
        obtain ⟨x, r, as, m1, m2⟩ := t3 f hf
        rw [← typeC (hfirst x r m1)]
        exact looks_reads m2
  · refine ⟨oneType', ?_, fun h2 E Q hq => ?_⟩
    · intro E x y a b Q ha hb hq
      obtain ⟨d, as, hd, ra, rfl⟩ := dataKind_inv ha
      obtain ⟨d', as', hd', rb, rfl⟩ := dataKind_inv hb
      rw [keyLt'_oneType]
      exact oneC (fun _ => (hn d hd).2) ra rb (hal.cmp d hd d' hd') (hal.lay d hd) (hal.lay d' hd') (hn d hd).1 (room hd) hq
    · cases ds with
      | nil => cases e; exact absurd h2 (by simp)
      | cons d₀ ds₀ =>
        refine kas_kind (T := dataType d₀) h2 (fun v hv => ?_) (dataType_other (hn d₀ (List.mem_cons_self ..)).2) (beq_self_eq_true _) hq
        obtain ⟨d, hd, as, r⟩ := e.left v hv
        rw [← typeC (hal.cmp d hd d₀ (List.mem_cons_self ..))]
        exact looks_reads r
theorem keysC {h : Heap} {ds : List PyData} (hal : AllC ds) {vs : List Value} (e : EachIs (fun v d => ∃ as, Reads h v d as) vs ds) : EachIs (fun v d => (dataKind h ds).keyOf v = some (keyToks d)) vs ds :=
  (each_mem e).mono fun _ _ ⟨⟨_, r⟩, hd⟩ => kindC hal hd r
theorem outC {rev : Bool} {β : Type} {R : Value → β → Prop} {bs : List β} {ks vs : List Value} {h : Heap} (k : β → PyData) (hal : AllC (bs.map k)) (hk : EachIs (fun v d => ∃ as, Reads h v d as) ks (bs.map k)) (hR : EachIs R vs bs) :
    EachIs R (sortVals (dataKind h (bs.map k)) rev ks vs) (bs.mergeSort (dataLe rev k)) :=
  sortVals_each (κ := dataKind h (bs.map k)) (fun b => keyToks (k b)) hR (each_of_map k (keysC hal hk))
/-- the heap at the end: the keys' list is emptied, the list has its items -/
def endHeap (h : Heap) (kS a : Addr) (out : List Value) : Heap := (h.update kS (Obj.mapSeq fun _ => (#[] : Array Value))).update a (Obj.mapSeq fun _ => out.toArray)
theorem tailC {st : SortSt} {out : List Value} (nk : s.heap.get? kS = some (seqObj "list" keys e)) (na : s.heap.get? a = some (seqObj "list" #[] e1)) (hka : kS ≠ a)
    (hsz : keys.size ≤ sizeLine) (hz : out.length ≤ sizeLine) (hfl : failedOf st = none) (ho : (if b = true then ((arrOf st).map (·.2)).reverse else (arrOf st).map (·.2)) = out.toArray)
    (h : ∀ tk, P (.done (.ret .none)) { s with heap := endHeap s.heap kS a out, toks := tk }) : wpAny (model prog w) A (ksk_tail a b e1 (.ref kS) st) P E s := by
  have na1 : (s.heap.update kS (Obj.mapSeq fun _ => (#[] : Array Value))).get? a = some (seqObj "list" #[] e1) := (Heap.get?_update_ne _ _ _ _ hka.symm).trans na
  unfold ksk_tail
  try dsimp only
  rw [ho]
  refine wpAny_bind (listUpdate_at nk rfl ?_ hsz (Nat.zero_le _))
  refine wpAny_bind (wpAny_letGo ?_)
  refine wpAny_bind (seqEpoch_at na1 rfl ?_)
  refine wpAny_bind (listUpdate_at na1 rfl ?_ (Nat.zero_le _) (by rw [List.size_toArray]; exact Nat.le_succ_of_le hz))
  rw [hfl]
  simp only [bne_self_eq_false, Bool.false_eq_true, if_false]
  exact wpAny_pure (h _)
theorem endC {κ : PyProof.Rows.KeyKind} (nk : s.heap.get? kS = some (seqObj "list" keys e)) (na : s.heap.get? a = some (seqObj "list" #[] e1)) (hka : kS ≠ a) (S : SortsAt prog w A s κ keys.toList) (hsz : keys.size = vs.length) (hZ : vs.length ≤ sizeLine)
    (h : ∀ tk, P (.done (.ret .none)) { s with heap := endHeap s.heap kS a (sortVals κ b keys.toList vs), toks := tk }) : wpAny (model prog w) A (ksk_end a b vs.toArray e1 (.ref kS) keys) P E s := by
  obtain ⟨kd, h1, h2⟩ := S.kind
  have hkl : keys.toList.length = vs.length := by rw [Array.length_toList]; exact hsz
  have hK : PyProof.Rows.KeysOf κ (keys.zip vs.toArray) := keysOf_zip S.keys
  have hol : (sortVals κ b keys.toList vs).length = vs.length := sortVals_length b hkl
  have hstart : (if b = true then (keys.zip vs.toArray).reverse else keys.zip vs.toArray).Perm (keys.zip vs.toArray) := by
    cases b with
    | false => exact Array.Perm.refl _
    | true => exact Array.perm_iff_toList_perm.mpr (by rw [if_pos rfl, Array.toList_reverse]; exact List.reverse_perm _)
  have hss : (if b = true then (keys.zip vs.toArray).reverse else keys.zip vs.toArray).size = vs.length := by rw [hstart.size_eq, Array.size_zip, hsz, List.size_toArray, Nat.min_self]
  have fin : ∀ st' : SortSt, (arrOf st').Perm (if b = true then (keys.zip vs.toArray).reverse else keys.zip vs.toArray) → SortedToK κ (arrOf st') (if b = true then (keys.zip vs.toArray).reverse else keys.zip vs.toArray).size →
      Stable κ (arrOf st') (if b = true then (keys.zip vs.toArray).reverse else keys.zip vs.toArray) → (if b = true then ((arrOf st').map (·.2)).reverse else (arrOf st').map (·.2)) = (sortVals κ b keys.toList vs).toArray := fun st' hp hs ht => by
    have z := congrArg List.toArray (sort_out (rev := b) (keys := keys) (items := vs.toArray) (xs := arrOf st') (κ := κ) hK hp hs ht)
    rw [Array.toArray_toList] at z
    exact z
  have step : ∀ t : Sem PySem.Fin, wpAny (model prog w) A t P E s → wpAny (model prog w) A (if b = true then (do let _ ← rule "list.sort.reverse"; t) else t) P E s := fun t ht => by
    split
    · exact wpAny_bind (wpAny_rule ht)
    · exact ht
  unfold ksk_end
  try dsimp only
  refine step _ ?_
  by_cases hl2 : vs.toArray.size < 2
  · rw [if_pos hl2, if_pos hl2]
    refine wpAny_bind (wpAny_pure ?_)
    rw [StateT.run_pure]
    refine wpAny_bind (wpAny_pure ?_)
    try dsimp only
    refine tailC (st := SortSt.mk' general' (if b = true then (keys.zip vs.toArray).reverse else keys.zip vs.toArray) #[] 7 none) nk na hka (by rw [hsz]; exact hZ) (by rw [hol]; exact hZ) rfl (fin _ (Array.Perm.refl _) ?_ (Stable.refl _)) h
    intro i j hij hj
    rw [hss] at hj
    rw [List.size_toArray] at hl2
    obtain rfl : i = j := by omega
    exact KeyOrd.kle_refl _
  · rw [if_neg hl2, if_neg hl2]
    rw [List.size_toArray] at hl2
    refine wpAny_bind (h2 (by omega) _ ?_)
    refine wpAny_bind (wpAny_mono (H.wpS_sortRunsSt (κ := κ) (kd := kd) (a₀ := if b = true then (keys.zip vs.toArray).reverse else keys.zip vs.toArray) (st := SortSt.mk' kd (if b = true then (keys.zip vs.toArray).reverse else keys.zip vs.toArray) #[] 7 none)
      (Q := fun _ st' => failedOf st' = none ∧ (if b = true then ((arrOf st').map (·.2)).reverse else (arrOf st').map (·.2)) = (sortVals κ b keys.toList vs).toArray) h1 (hK.perm hstart) ⟨Array.Perm.refl _, rfl, rfl⟩ rfl (Stable.refl _) (by rw [hss]; omega) fun st' a1 a2 a3 a4 => ⟨a2, fin st' a1 a3 a4⟩) ?_ fun _ _ e => e)
    rintro ⟨⟨⟩, st'⟩ s' ⟨rfl, hf, ho⟩
    try dsimp only at ho ⊢
    exact tailC nk na hka (by rw [hsz]; exact hZ) (by rw [hol]; exact hZ) hf ho h
end
end SX
namespace DL
open PySem L2
section
variable {K : PySem.W.Frag} {Fr H0 H : Hp} {M M' : Mem}
/-- what is told of stays told of -/
def ExtA (M M' : Mem) : Prop := ∀ a c, M a = some c → M' a = some c
theorem ExtA.refl (M : Mem) : ExtA M M := fun _ _ e => e
theorem ExtA.trans {M M1 M2 : Mem} (a : ExtA M M1) (b : ExtA M1 M2) : ExtA M M2 := fun x c e => b x c (a x c e)
theorem ExtA.new {M M1 : Mem} {p : Addr} {c : Cell} (e : ExtA M M1) (hp : M p = none) : ExtA M (setM M1 p c) := fun a x q => by rw [setM_ne (neM q hp)]; exact e a x q
theorem ExtA.none {M M1 : Mem} {p : Addr} (e : ExtA M M1) (hp : M1 p = none) : M p = none := by
  cases q : M p with
  | none => rfl
  | some c => rw [e p c q] at hp; cases hp
theorem Wd.less {G0 F0 G : Hp} (w : Wd K Fr H0 M' H) (w0 : Wd K F0 G0 M G) (e : ExtA M M') : Wd K Fr H0 M H := ⟨w.ex, fun a c q => w.mem a c (e a c q), fun a o q => by
  obtain ⟨h1, h2, h3⟩ := w.fr a o q
  exact ⟨h1, e.none h2, h3⟩, w0.tb⟩
mutual
theorem toP_ext (e : ExtA M M') : ∀ (d : D) (p : PyData), toP M d = some p → toP M' d = some p
  | .non, _, h => h
  | .bl _, _, h => h
  | .int _, _, h => h
  | .str _, _, h => h
  | .tup ds, p, h => by
    unfold toP at h ⊢
    cases q : toPs M ds with
    | none => rw [q] at h; cases h
    | some ps => rw [toPs_ext e ds ps q]; rw [q] at h; exact h
  | .lst ds, p, h => by
    unfold toP at h ⊢
    cases q : toPs M ds with
    | none => rw [q] at h; cases h
    | some ps => rw [toPs_ext e ds ps q]; rw [q] at h; exact h
  | .scr ds, p, h => by
    unfold toP at h ⊢
    first
    | exact h
    | (cases q : toPs M ds with
      | none => rw [q] at h; cases h
      | some ps => rw [toPs_ext e ds ps q]; rw [q] at h; exact h)
  | .cel a, p, h => by unfold toP at h ⊢; exact h
  | .ty _, p, h => by unfold toP at h ⊢; exact h
theorem toPs_ext (e : ExtA M M') : ∀ (ds : List D) (ps : List PyData), toPs M ds = some ps → toPs M' ds = some ps
  | [], _, h => h
  | d :: ds, ps, h => by
    unfold toPs at h ⊢
    cases q : toP M d with
    | none => rw [q] at h; cases h
    | some p =>
      rw [toP_ext e d p q]
      rw [q] at h
      cases q2 : toPs M ds with
      | none => rw [q2] at h; cases h
      | some ps' => rw [toPs_ext e ds ps' q2]; rw [q2] at h; exact h
end
theorem toPC_ext (e : ExtA M M') {d : D} {p : PyData} (h : toPC M d = some p) : toPC M' d = some p := by
  cases d with
  | cel a =>
    unfold toPC at h ⊢
    simp only at h ⊢
    cases q : M a with
    | none => rw [q] at h; cases h
    | some c =>
      rw [e a c q]
      rw [q] at h
      cases c with
      | lst ds =>
        simp only at h ⊢
        cases q2 : toPs M ds with
        | none => rw [q2] at h; cases h
        | some ps => rw [toPs_ext e ds ps q2]; rw [q2] at h; exact h
      | dct kvs => cases h
      | dnt _ _ _ _ => cases h
      | rng _ _ => cases h
      | ctab _ => cases h
      | dcf _ _ _ => cases h
  | _ => exact toP_ext e _ p h
end
end DL

set_option autoImplicit false
set_option maxRecDepth 100000
set_option maxHeartbeats 4000000
namespace DL
open PySem PySem.Spec PyProof.Rows L2
abbrev leK (rev : Bool) (key : D → PyData) : D → D → Bool := PySem.W.dataLe rev key
/-- what is asked of the keys -/
structure KeysOk (ds : List D) (key : D → PyData) : Prop where
  all : SX.AllC (ds.map key)
  srt : PySem.W.Sortable (ds.map key)
  dep : ∀ d ∈ ds, (key d).depth ≤ 64
/-- a def gives such keys -/
def Keyed (F : FD) (ds : List D) (key : D → PyData) (M : Mem) : Prop := ∀ M', ExtA M M' → ∀ d ∈ ds, ∀ kd : KD, (∀ x M'', ExtA M' M'' → toPC M'' x = some (key d) → kd x M'') → F [d] M' kd
def rSortK (K : PySem.W.Frag) (F : FD) (f : Addr) (rev : Bool) (more : List V) : List V → List V → Hp → VK → Prop := fun vs zs H Q => ∃ a xs ds Fr H0 M key k, vs = [.ref a] ∧ zs = .ref f :: more ∧ SqL K H a xs ∧ Wd K Fr H0 M H ∧ Dats K H0 xs ds ∧ KeysOk ds key ∧ Keyed F ds key M ∧
  k (.lst (ds.mergeSort (leK rev key))) M ∧ Cont K Fr H0 k Q
theorem vals_each : ∀ {ps : List (V × D)} {out : List Value}, PySem.W.EachIs (fun v (b : V × D) => RelV b.1 v) out ps → Vals (ps.map (·.1)) out
  | _, _, .nil => .nil
  | _, _, .cons h t => .cons h (vals_each t)
theorem each_vals : ∀ {xs : List V} {ds : List D} {its : List Value}, Vals xs its → xs.length = ds.length → PySem.W.EachIs (fun v (b : V × D) => RelV b.1 v) its (xs.zip ds)
  | _, [], _, .nil, _ => .nil
  | _, _ :: _, _, .nil, h => by cases h
  | _, [], _, .cons _ _, h => by cases h
  | _, d :: ds, _, .cons r t, h => .cons r (each_vals t (by simpa using h))
theorem dats_zip {K : PySem.W.Frag} {H : Hp} : ∀ {xs : List V} {ds : List D}, Dats K H xs ds → ∀ p ∈ xs.zip ds, Dat K H p.1 p.2
  | _, _, .nil, p, hp => by cases hp
  | _, _, .cons h t, p, hp => by
    rcases List.mem_cons.mp hp with rfl | hp
    · exact h
    · exact dats_zip t p hp
theorem dats_of {K : PySem.W.Frag} {H : Hp} : ∀ {ps : List (V × D)}, (∀ p ∈ ps, Dat K H p.1 p.2) → Dats K H (ps.map (·.1)) (ps.map (·.2))
  | [], _ => .nil
  | p :: ps, h => .cons (h p List.mem_cons_self) (dats_of fun q hq => h q (List.mem_cons_of_mem _ hq))
/-- the keys read off the heap -/
theorem keys_read {X : Cx} {pins : List (Addr × Obj)} {σ : L2.St} {H H0 Fr : Hp} {s : Shared} {M : Mem} (I : Inv X pins σ H s) (w : Wd X.K Fr H0 M H) : ∀ {kvs : List V} {kds : List D} {kA : List Value} {kz : List PyData}, Dats X.K H0 kvs kds → Vals kvs kA → kds.map (toPC M) = kz.map some →
    PySem.W.EachIs (fun v k => ∃ as, Reads s.heap v k as) kA kz
  | _, _, _, [], .nil, .nil, _ => .nil
  | _, _, _, z :: kz, .cons h t, .cons r u, e => by
    rw [List.map_cons, List.map_cons] at e
    injection e with e1 e2
    exact .cons (Dp.reads I _ _ _ (toPC_ok w h e1) r) (keys_read I w t u e2)
  | _, _, _, _ :: _, .nil, .nil, e => by cases e
  | _, _, _, [], .cons _ _, .cons _ _, e => by cases e
theorem snd_zip {xs : List V} {ds : List D} (h : xs.length = ds.length) : (xs.zip ds).map (·.2) = ds := by
  rw [List.map_snd_zip]; omega
theorem zip_snd_map {α : Type} (g : D → α) : ∀ {xs : List V} {ds : List D}, xs.length = ds.length → (xs.zip ds).map (fun b => g b.2) = ds.map g
  | [], [], _ => rfl
  | _ :: xs, _ :: ds, h => by
    rw [List.zip_cons_cons, List.map_cons, List.map_cons, zip_snd_map g (by simpa using h)]
  | [], _ :: _, h => by cases h
  | _ :: _, [], h => by cases h
section
variable {X : Cx} {f : Addr} {fd : FuncData} {F : FD} {kk : Nat} {q : Str}
/-- sorted with a key that answers so wherever the running def calls it -/
theorem run_sortG {kw : List (Str × Value)} {rev : Bool} {pins : List (Addr × Obj)} {σ : L2.St} {H H0 Fr : Hp} {s : Shared} {M : Mem} {a : Addr} {xs : List V} {ds : List D} {key : D → PyData} {k : KD} {Q : VK}
    (G : ∀ (s' : Shared) (H' H0' Fr' : Hp) (M' : Mem) (x : Value) (xv : V) (d : D) (kd : KD) (Q : VK), Inv X pins σ H' s' → Same H0 H0' → Wd X.K Fr' H0' M' H' → Dat X.K H0' xv d → RelV xv x → F [d] M' kd → Cont X.K Fr' H0' kd Q → codeAny (model X.prog X.w) X.A.in1.in1 (.call (.ref f) ⟨[x], []⟩) (CR CX0 X.stack X.prog X.w H' s' Q fun _ _ _ => False) s')
    (hr : DG.RoomG (kk + 2) X.A) (ha1 : argsOk "sorted" ⟨[.ref a], kw⟩) (ha2 : ∀ x, argsOk "list.sort" ⟨[.ref x], kw⟩) (ht : ∀ x, Builtin.«list.sort» ⟨[.ref x], kw⟩ = ksk_tree x (.ref f) rev)
    (I : Inv X pins σ H s) (hs : SqL X.K H a xs) (w : Wd X.K Fr H0 M H) (hd : Dats X.K H0 xs ds) (ko : KeysOk ds key) (hF : Keyed F ds key M) (hk : k (.lst (ds.mergeSort (leK rev key))) M) (hc : Cont X.K Fr H0 k Q) :
    wpAny (model X.prog X.w) X.A (call (.builtin "sorted") [.ref a] kw) (EP X pins σ Q) X.xe s := by
  obtain ⟨its, rv, hl, hz⟩ := I.list hs
  have hlen : xs.length = ds.length := hd.length
  have hlv : its.length = xs.length := rv.length.symm
  have hZ : its.length ≤ sizeLine := by rw [hlv]; exact hz
  refine PySem.W.sorted_of_sort hl.isList hZ ha1 ha2 fun E' => ?_
  rw [ht]
  have hun : X.A.units + 200 < cLine := by have := hr.r.un; omega
  have hr2 : DG.RoomG kk X.A.in1.in1 := ⟨hr.r.in1.in1, hr.g⟩
  -- the objects that sorting makes
  let p := s.heap.objs.size + 1
  have hp0 : H p = none := I.hok.fresh (Nat.le_succ _)
  have ho := PySem.W.copyHeap_at s.heap its
  have sz0 : (PySem.W.copyHeap s.heap its).objs.size = s.heap.objs.size + 2 := by
    unfold PySem.W.copyHeap
    rw [size_push', Heap.size_update, size_push']
  obtain ⟨e1, ho1⟩ : ∃ e1, ((PySem.W.copyHeap s.heap its).update p (Obj.mapSeq fun _ => (#[] : Array Value))).get? p = some (seqObj "list" #[] e1) := ⟨_, get?_update_seq ho fun _ => #[]⟩
  have hpS : ∀ b o, s.heap.get? b = some o → b ≠ p := fun b o e => Nat.ne_of_lt (Nat.lt_succ_of_lt (Heap.lt_size e))
  generalize hh1 : ((PySem.W.copyHeap s.heap its).update p (Obj.mapSeq fun _ => (#[] : Array Value))).push (seqObj "tuple" its.toArray 0) = h1
  have sz1 : h1.objs.size = s.heap.objs.size + 3 := by rw [← hh1, size_push', Heap.size_update, sz0]
  have at1 : h1.get? p = some (seqObj "list" #[] e1) := by rw [← hh1]; exact Heap.get?_push_of_some _ ho1
  have keep1 : ∀ b o, s.heap.get? b = some o → h1.get? b = some o := fun b o e => by
    rw [← hh1]
    exact Heap.get?_push_of_some _ ((Heap.get?_update_ne _ _ _ _ (hpS b o e)).trans (PySem.W.copyHeap_old e))
  have I1 : Inv X pins σ (upd H p (.lst [])) { s with heap := h1 } := I.laid (t' := s.toks) keep1 (Nat.le_succ _) ⟨Nat.zero_le _, [], e1, .nil, at1⟩
  let kS := h1.objs.size
  have hkp : kS ≠ p := by show h1.objs.size ≠ s.heap.objs.size + 1; omega
  generalize hh2 : h1.push (seqObj "list" #[] 0) = h2
  have at2 : h2.get? kS = some (seqObj "list" #[] 0) := by rw [← hh2]; exact Heap.get?_push_size _ rfl
  have keep2 : ∀ b o, h1.get? b = some o → h2.get? b = some o := fun b o e => by rw [← hh2]; exact Heap.get?_push_of_some _ e
  have I2 : Inv X pins σ (upd (upd H p (.lst [])) kS (.lst [])) { s with heap := h2 } := I1.laid (t' := s.toks) keep2 (Nat.le_refl _) ⟨Nat.zero_le _, [], 0, .nil, at2⟩
  have hkS0 : H kS = none := I.hok.fresh (by show s.heap.objs.size ≤ h1.objs.size; omega)
  have hp2 : (upd (upd H p (.lst [])) kS (.lst [])) p = some (.lst []) := by rw [upd_ne hkp.symm]; exact upd_same
  obtain ⟨od, I3⟩ := I2.lock hp2 trivial
  have nf := I2.nofrz hp2 trivial
  have hod : od = seqObj "list" #[] e1 := by
    have z := (I3.hok p _ upd_same).1
    rw [keep2 _ _ at1] at z
    exact (Option.some.inj z).symm
  subst hod
  have w3 : Wd X.K (upd (upd Fr kS (.lst [])) p (.frz (seqObj "list" #[] e1) (.lst []))) H0 M (upd (upd (upd H p (.lst [])) kS (.lst [])) p (.frz (seqObj "list" #[] e1) (.lst []))) := by
    have a1 : Wd X.K Fr H0 M (upd H p (.lst [])) := w.tmp hp0
    have a2 : Wd X.K Fr H0 M (upd (upd H p (.lst [])) kS (.lst [])) := a1.tmp (by rw [upd_ne hkp]; exact hkS0)
    have a3 : Wd X.K Fr H0 M (upd (upd (upd H p (.lst [])) kS (.lst [])) p (.frz (seqObj "list" #[] e1) (.lst []))) := a2.tmpSet (w.fresh hp0) (w.freshM hp0) (w.freshF hp0)
    exact (a3.frame (w.fresh hkS0) (w.freshM hkS0) (by rw [upd_ne hkp]; exact upd_same)).frame (w.fresh hp0) (w.freshM hp0) upd_same
  generalize upd (upd (upd H p (.lst [])) kS (.lst [])) p (.frz (seqObj "list" #[] e1) (.lst [])) = H3 at I3 w3
  have hFk : Fr kS = none := w.freshF hkS0
  have hFp : Fr p = none := w.freshF hp0
  have hz2 : ds.length ≤ sizeLine := by rw [← hlen]; exact hz
  unfold ksk_tree
  refine wpAny_bind (listItems_at ho rfl ?_)
  refine wpAny_bind (listUpdate_at ho rfl ?_ (by rw [List.size_toArray]; exact hZ) (Nat.zero_le _))
  refine wpAny_bind (seqEpoch_at ho1 rfl ?_)
  refine wpAny_bind (wpAny_newTuple ?_ (by show its.length ≤ _; exact hZ))
  refine wpAny_bind (wpAny_newList ?_ (Nat.zero_le _))
  refine wpAny_holding ?_
  unfold ksk_rest
  refine wpAny_bind (wpAny_rule ?_)
  first
    | rw [List.forIn_toArray]
    | (rw [← Array.forIn_toList]; simp only [List.toList_toArray])
  have est : ({ s with heap := (((PySem.W.copyHeap s.heap its).update p (Obj.mapSeq fun _ => (#[] : Array Value))).push (seqObj "tuple" its.toArray 0)).push (seqObj "list" #[] 0) } : Shared) = { s with heap := h2 } := by rw [hh1, hh2]
  have ekS : (((PySem.W.copyHeap s.heap its).update p (Obj.mapSeq fun _ => (#[] : Array Value))).push (seqObj "tuple" its.toArray 0)).objs.size = kS := by rw [hh1]
  show wpAny _ _ _ _ _ { s with heap := (((PySem.W.copyHeap s.heap its).update p (Obj.mapSeq fun _ => (#[] : Array Value))).push (seqObj "tuple" its.toArray 0)).push (seqObj "list" #[] 0) }
  rw [est]
  try rw [ekS]
  refine wpAny_bind (ksk_fold (fun i s' => ∃ H' M' H0' kvs kds n, ∃ kA : List Value, Inv X pins σ H' s' ∧ Wd X.K (upd (upd Fr kS (.lst kvs)) p (.frz (seqObj "list" #[] e1) (.lst []))) H0' M' H' ∧ Same H0 H0' ∧ ExtA M M' ∧ Dats X.K H0' kvs kds ∧ Vals kvs kA ∧
      s'.heap.get? kS = some (seqObj "list" kA.toArray n) ∧ kds.map (toPC M') = (((ds.take i).map key).map some)) its 0 { s with heap := h2 }
    ⟨H3, M, H0, [], [], 0, [], I3, w3, Same.refl _, ExtA.refl _, .nil, .nil, at2, by rw [List.take_zero]; rfl⟩ ?step ?done)
  case step =>
    rintro j x s' hx ⟨H', M', H0', kvs, kds, n, kA, I', w', sm, ex, rk, rkA, nk, ek⟩
    simp only [Nat.zero_add] at ek ⊢
    have hj : j < its.length := (List.getElem?_eq_some_iff.mp hx).1
    obtain ⟨xv, hxv, rx⟩ : ∃ xv, xs[j]? = some xv ∧ RelV xv x := by
      obtain ⟨u, h1, h2⟩ := rv.get (i := j) (x := xs[j]'(by omega)) (List.getElem?_eq_getElem _)
      rw [hx] at h1
      cases h1
      exact ⟨_, List.getElem?_eq_getElem _, h2⟩
    obtain ⟨d, hdj, rd⟩ := hd.getV hxv
    have hdm : d ∈ ds := List.mem_of_getElem? hdj
    have hkl : kA.length = kds.length := by rw [← rkA.length, rk.length]
    have hkl2 : kds.length = j := by
      have z := congrArg List.length ek
      rw [List.length_map, List.length_map, List.length_map, List.length_take] at z
      omega
    refine wpAny_bind (wpAny_attempt ?_)
    refine wpAny_mono (Q := EP X pins σ (fun v H'' => ∃ H0'' M'' x, Same H0' H0'' ∧ Wd X.K (upd (upd Fr kS (.lst kvs)) p (.frz (seqObj "list" #[] e1) (.lst []))) H0'' M'' H'' ∧ Dat X.K H0'' v x ∧ ExtA M' M'' ∧ toPC M'' x = some (key d))) (E := fun _ _ => False)
      (wpAny_call (codeAny_mono (G s' H' H0' _ M' x xv d (fun x M'' => ExtA M' M'' ∧ toPC M'' x = some (key d)) (fun v H'' => ∃ H0'' M'' x, Same H0' H0'' ∧ Wd X.K (upd (upd Fr kS (.lst kvs)) p (.frz (seqObj "list" #[] e1) (.lst []))) H0'' M'' H'' ∧ Dat X.K H0'' v x ∧ ExtA M' M'' ∧ toPC M'' x = some (key d)) I' sm w' (rd.mono sm) rx (by exact hF M' ex d hdm _ fun x M'' e1 e2 => ⟨e1, e2⟩) (by intro v H0'' H'' x M'' e w1 r qq; exact ⟨H0'', M'', x, e, w1, r, qq⟩)) fun r s'' z => ?_)) (fun v s'' z => ?_) fun _ _ z => z.elim
    · match r, z with
      | .error e, z => exact z.elim
      | .ok (.ret u), z => exact I'.after z
      | .ok .next, z => exact z.elim
      | .ok .brk, z => exact z.elim
      | .ok .cont, z => exact z.elim
    obtain ⟨vv, H4, I4, r4, H0'', M'', x', sm2, w4, d4, ex2, et⟩ := z
    have nk4 : ∃ its' n', Vals kvs its' ∧ s''.heap.get? kS = some { cls := .type "list", data := .seq its'.toArray n' } := by
      have z := I4.hok kS (.lst kvs) (by
        have := (w4.fr kS (.lst kvs) (by rw [upd_ne hkp]; exact upd_same)).2.2
        exact this)
      obtain ⟨_, its', n', a1, a2⟩ := z
      exact ⟨its', n', a1, a2⟩
    obtain ⟨kA', n', rkA', nk'⟩ := nk4
    have hkA' : kA'.length = j := by rw [← rkA'.length, rk.length]; exact hkl2
    obtain ⟨c2, hc2⟩ : ∃ c2, (s''.heap.update kS (Obj.mapSeq (·.push v))).get? kS = some (seqObj "list" (kA'.toArray.push v) c2) := ⟨_, get?_update_seq nk' (·.push v)⟩
    refine wpAny_bind (listUpdate_at nk' rfl ?_ (by rw [List.size_toArray]; omega) (by rw [Array.size_push, List.size_toArray]; omega))
    have hwk : H4 kS = some (.lst kvs) := (w4.fr kS (.lst kvs) (by rw [upd_ne hkp]; exact upd_same)).2.2
    have I5 : Inv X pins σ (upd H4 kS (.lst (kvs ++ [vv]))) { s'' with heap := s''.heap.update kS (Obj.mapSeq (·.push v)) } := I4.write (t' := s''.toks) (by rw [hwk]; trivial) (.inl rfl) (fun b u hb e => (Heap.get?_update_ne _ _ _ _ hb).trans e) ⟨_, hc2⟩
      ⟨by rw [List.length_append, rk.length, hkl2]; simp; omega, kA' ++ [v], c2, rkA'.append (.cons r4 .nil), by rw [hc2]; unfold seqObj; simp⟩
    refine wpAny_pure ⟨rfl, _, M'', H0'', kvs ++ [vv], kds ++ [x'], c2, kA' ++ [v], I5, ?_, sm.trans sm2, ex.trans ex2, (rk.mono sm2).append (.one d4), rkA'.append (.cons r4 .nil), by rw [hc2]; simp, ?_⟩
    · obtain ⟨u1, u2, u3, u4⟩ := w4.unframe (by rw [upd_ne hkp.symm]; exact hFp)
      obtain ⟨v1, v2, v3, v4⟩ := u1.unframe hFk
      have g := v1.tmpSet (o := .lst (kvs ++ [vv])) v2 v3 hFk
      exact (g.frame v2 v3 upd_same).frame u2 u3 (by rw [upd_ne hkp.symm]; exact u4)
    · have e5 : ds.take (j + 1) = ds.take j ++ [d] := by rw [List.take_add_one, hdj]; rfl
      rw [e5, List.map_append, List.map_append, List.map_append, ← ek]
      congr 1
      · refine List.map_congr_left fun y hy => ?_
        have : toPC M' y ∈ kds.map (toPC M') := List.mem_map_of_mem hy
        rw [ek] at this
        obtain ⟨z, _, hz⟩ := List.mem_map.mp this
        rw [toPC_ext ex2 hz.symm, ← hz]
      · simp [et]
  case done =>
    rintro s' ⟨H', M', H0', kvs, kds, n, kA, I', w', sm, ex, rk, rkA, nk, ek⟩
    have etk : ds.take (0 + its.length) = ds := List.take_of_length_le (by omega)
    rw [etk] at ek
    have hkl : kA.length = its.length := by
      have z := congrArg List.length ek
      rw [List.length_map, List.length_map, List.length_map] at z
      have := rkA.length; have := rk.length
      omega
    obtain ⟨u1, u2, u3, u4⟩ := w'.unframe (by rw [upd_ne hkp.symm]; exact hFp)
    obtain ⟨v1, v2, v3, v4⟩ := u1.unframe hFk
    have rdk : PySem.W.EachIs (fun v k => ∃ as, Reads s'.heap v k as) kA (ds.map key) := keys_read I' v1 rk rkA (by rw [ek])
    have na : s'.heap.get? p = some (seqObj "list" #[] e1) := (I'.hok p _ u4).1
    try dsimp only
    refine wpAny_bind (listItems_at nk rfl ?_)
    have I6 := I'.unlock u4 nf
    have eqz : (xs.zip ds).map (fun b => key b.2) = ds.map key := zip_snd_map key hlen
    have out := SX.outC (rev := rev) (R := fun v (b : V × D) => RelV b.1 v) (bs := xs.zip ds) (ks := kA) (vs := its) (h := s'.heap) (fun b => key b.2) (by rw [eqz]; exact ko.all) (by rw [eqz]; exact rdk) (each_vals rv hlen)
    rw [eqz] at out
    have S := SX.sortsC (prog := X.prog) (w := X.w) (A := X.A.in1.in1) (s := s') rdk ko.all ko.srt (fun z hz => by
      obtain ⟨d, hdm, rfl⟩ := List.mem_map.mp hz
      have := ko.dep d hdm
      show X.A.units + 1 + 1 + _ < _
      omega)
    have eka : kA.toArray.toList = kA := by simp
    refine SX.endC (vs := its) (κ := PySem.W.dataKind s'.heap (ds.map key)) (b := rev) nk na hkp (by rw [eka]; exact S) (by rw [List.size_toArray]; exact hkl) hZ fun tk => ?_
    rw [eka]
    refine ⟨rfl, ?_⟩
    generalize hol : PySem.W.sortVals (PySem.W.dataKind s'.heap (ds.map key)) rev kA its = ov at out
    have rvo := vals_each out
    -- the keys' list is emptied
    obtain ⟨c1, hc1⟩ : ∃ c1, (s'.heap.update kS (Obj.mapSeq fun _ => (#[] : Array Value))).get? kS = some (seqObj "list" #[] c1) := ⟨_, get?_update_seq nk fun _ => #[]⟩
    have hk6 : (upd H' p (.lst [])) kS = some (.lst kvs) := by rw [upd_ne hkp]; exact v4
    have I7 : Inv X pins σ (upd (upd H' p (.lst [])) kS (.lst [])) { s' with heap := s'.heap.update kS (Obj.mapSeq fun _ => (#[] : Array Value)) } := I6.write (t' := s'.toks) (by rw [hk6]; trivial) (.inl rfl) (fun b u hb e => (Heap.get?_update_ne _ _ _ _ hb).trans e) ⟨_, hc1⟩
      ⟨Nat.zero_le _, [], c1, .nil, hc1⟩
    have na7 : (s'.heap.update kS (Obj.mapSeq fun _ => (#[] : Array Value))).get? p = some (seqObj "list" #[] e1) := (Heap.get?_update_ne _ _ _ _ hkp.symm).trans na
    obtain ⟨c3, hc3⟩ : ∃ c3, (SX.endHeap s'.heap kS p ov).get? p = some (seqObj "list" ov.toArray c3) := ⟨_, get?_update_seq na7 fun _ => ov.toArray⟩
    have hp7 : (upd (upd H' p (.lst [])) kS (.lst [])) p = some (.lst []) := by rw [upd_ne hkp.symm]; exact upd_same
    have I8 : Inv X pins σ (upd (upd (upd H' p (.lst [])) kS (.lst [])) p (.lst (((xs.zip ds).mergeSort (PySem.W.dataLe rev fun b => key b.2)).map (·.1)))) { s' with heap := SX.endHeap s'.heap kS p ov, toks := tk } :=
      I7.write (t' := tk) (by rw [hp7]; trivial) (.inl rfl) (fun b u hb e => (Heap.get?_update_ne _ _ _ _ hb).trans e) ⟨_, hc3⟩
        ⟨by rw [List.length_map, List.length_mergeSort, List.length_zip]; omega, ov, c3, rvo, hc3⟩
    have esort : ((xs.zip ds).mergeSort (PySem.W.dataLe rev fun b => key b.2)).map (·.2) = ds.mergeSort (leK rev key) := by
      have z := PySem.W.sort_maps (r := PySem.W.dataLe rev fun b : V × D => key b.2) (s := leK rev key) (fun b : V × D => b.2) (l := xs.zip ds) (fun _ _ _ _ => rfl)
      rw [snd_zip hlen] at z
      exact z
    have rds : Dats X.K H0' (((xs.zip ds).mergeSort (PySem.W.dataLe rev fun b => key b.2)).map (·.1)) (ds.mergeSort (leK rev key)) := by
      rw [← esort]
      refine dats_of fun b hb => ?_
      exact dats_zip (hd.mono sm) b ((List.mergeSort_perm _ _).mem_iff.mp hb)
    have pM : M' p = none := u3
    have g1 : Wd X.K Fr H0' M' (upd (upd H' p (.lst [])) kS (.lst [])) := (v1.tmpSet u2 u3 hFp).tmpSet v2 v3 hFk
    have g2 : Wd X.K Fr H0' M' (upd (upd (upd H' p (.lst [])) kS (.lst [])) p (.lst (((xs.zip ds).mergeSort (PySem.W.dataLe rev fun b => key b.2)).map (·.1)))) := g1.tmpSet u2 u3 hFp
    have g3 := (g2.adopt u2 u3 hFp upd_same).less w ex
    exact ⟨.ref p, _, I8, rfl, hc (.ref p) _ _ _ M (sm.trans (same_new u2)) g3 (.lst upd_same (rds.mono (same_new u2))) hk⟩
theorem run_sortK {kw : List (Str × Value)} {rev : Bool} {pins : List (Addr × Obj)} {σ : L2.St} {H H0 Fr : Hp} {s : Shared} {M : Mem} {a : Addr} {xs : List V} {ds : List D} {key : D → PyData} {k : KD} {Q : VK}
    (G : DFn X.prog X.w X.K X.mg X.base kk f fd [q] F) (hb : Binds X.K fd [q] []) (hr : DG.RoomG (kk + 2) X.A) (ha1 : argsOk "sorted" ⟨[.ref a], kw⟩) (ha2 : ∀ x, argsOk "list.sort" ⟨[.ref x], kw⟩) (ht : ∀ x, Builtin.«list.sort» ⟨[.ref x], kw⟩ = ksk_tree x (.ref f) rev)
    (I : Inv X pins σ H s) (hs : SqL X.K H a xs) (w : Wd X.K Fr H0 M H) (hd : Dats X.K H0 xs ds) (ko : KeysOk ds key) (hF : Keyed F ds key M) (hk : k (.lst (ds.mergeSort (leK rev key))) M) (hc : Cont X.K Fr H0 k Q) :
    wpAny (model X.prog X.w) X.A (call (.builtin "sorted") [.ref a] kw) (EP X pins σ Q) X.xe s :=
  run_sortG (kk := kk) (fun s' H' H0' Fr' M' x xv d kd Q I' _ w' rd rx h cc => G.run X.A.in1.in1 X.stack s' H' ⟨[x], []⟩ [x] [xv] Q (fun _ _ _ => False) ⟨hr.r.in1.in1, hr.g⟩ I'.env0.in1.in1 (hb s' [x] I'.kIn rfl) (.cons rx .nil) ⟨Fr', H0', M', [d], kd, w', .one rd, h, cc⟩) hr ha1 ha2 ht I hs w hd ko hF hk hc
theorem cr_sortK (G : DFn X.prog X.w X.K X.mg X.base kk f fd [q] F) (hb : Binds X.K fd [q] []) (hr : DG.RoomG (kk + 2) X.A) : CallRK X (.builtin "sorted") [Str.ofString "key"] (rSortK X.K F f false []) := by
  intro pins s σ H vs zs us ws Q I r rz h
  obtain ⟨a, xs, ds, Fr, H0, M, key, k, rfl, rfl, hs, w, hd, ko, hF, hk, hc⟩ := h
  obtain rfl := Vals.ref1 r
  obtain ⟨w1, rfl, z1⟩ := vals1 rz
  obtain rfl : w1 = Value.ref f := z1
  exact run_sortK G hb hr (ksk_s1 _ _) (fun _ => ksk_l1 _ _) (fun _ => ksk_t1 _ _) I hs w hd ko hF hk hc
end
end DL

set_option autoImplicit false
set_option maxRecDepth 100000
set_option maxHeartbeats 4000000
namespace DL
open PySem PySem.Spec PyProof.Rows L2
def rdSortK (F : FD) (rev : Bool) : FD := fun ds M k => match ds with
  | [d] => (match asR M d with | some xs => ∃ key : D → PyData, KeysOk xs key ∧ Keyed F xs key M ∧ k (.lst (xs.mergeSort (leK rev key))) M | none => False)
  | _ => False
section
variable {X : Cx} {f : Addr} {fd : FuncData} {F : FD} {kk j : Nat} {q g : Str} {st : Stmt}
theorem de_sortK {e : Expr} {we : WE} {p pg kp pos : Pos} (d : Def X.K X.mg g st [q] f fd) (G : DFn X.prog X.w X.K X.mg X.base kk f fd [q] F) (hr : DG.RoomG j X.A) (hk : kk + 2 ≤ j) (hm : X.mg "sorted" = none) (he : DE X e we) (hg : Gl X "sorted" := by rfl) (hg2 : Gl X g := by rfl)
    (hdb : (g == ("__debug__" : Str)) = false := by decide) (hs : starEach [e] X.env = (false, eval e X.env) :: starEach [] X.env := by rfl) (hst : backTo pos (starEach [e] X.env) = (false, eval e X.env) :: backTo pos (starEach [] X.env) := by rfl) (hpl : (backTo pos (starEach [e] X.env)).any (·.1) = false := by rfl)
    (hall : (backToKw pos (keywordEach [⟨some (Str.ofString "key"), .Name g pg, kp⟩] X.env)).all (·.1.isSome) = true := by rfl) (hnone : (backToKw pos (keywordEach [⟨some (Str.ofString "key"), .Name g pg, kp⟩] X.env)).any (·.1.isNone) = false := by rfl)
    (hks : (backToKw pos (keywordEach [⟨some (Str.ofString "key"), .Name g pg, kp⟩] X.env)).filterMap (·.1) = [Str.ofString "key"] := by rfl) :
    DE X (.Call (.Name "sorted" p) [e] [⟨some (Str.ofString "key"), .Name g pg, kp⟩] pos) (wCall (rdSortK F false) (wCons we wNil)) :=
  de_of (pe_callBK (cr_sortK G d.b (hr.mono hk)) hg hm PyProof.Rows.boot_sorted (da_cons he da_nil hs).run (pk_cons (pe_glob hg2 d.at_ (v := .ref f) rfl hdb) pk_nil) (by decide) (by decide) hst hpl hall hnone hks) fun σ H Q Γ Fr H0 M k h1 h2 h3 h4 => by
    refine ⟨Γ, Fr, H0, M, _, h1, h2, h3, fun vs H1 H' ds M' e1 w1 r1 q1 => ?_⟩
    unfold rdSortK at q1
    split at q1
    · rename_i d'
      split at q1
      · rename_i xs ea
        obtain ⟨v, rfl, rv⟩ := dats1 r1
        obtain ⟨a, us, rfl, hsq, hd⟩ := asR_ok w1 rv ea
        obtain ⟨key, ko, hF, hk'⟩ := q1
        exact ⟨a, us, xs, Fr, H1, M', key, k, rfl, rfl, hsq, w1, hd, ko, hF, hk', h4.mono e1⟩
      · exact q1.elim
    · exact q1.elim
end
end DL

set_option autoImplicit false
set_option maxRecDepth 100000
set_option maxHeartbeats 4000000
/-! xs[::-1] of a list -/
namespace DL
open PySem L2
section
variable {X : Cx}
def rdBackL : D → Mem → KD → Prop := fun d M k => match asR M d with
  | some ds => k (.lst ds.reverse) M
  | none => False
theorem de_backL {e : Expr} {we : WE} {k : Nat} {p1 p2 p3 pos : Pos} (he : DE X e we) : DE X (.Subscript e (.Slice none none (some (.UnaryOp .USub (.Constant (.int 1) k p1) p2)) p3) pos) (wUn rdBackL we) :=
  de_of (pe_revL he.run) fun σ H Q Γ Fr H0 M k h1 h2 h3 h4 => ⟨Γ, Fr, H0, M, _, h1, h2, h3, fun v H1 H' d M' e1 w1 r1 q1 => by
    unfold rdBackL at q1
    split at q1
    · rename_i ds ea
      obtain ⟨a, vs, rfl, hs, hd⟩ := asR_ok w1 r1 ea
      exact ⟨_, _, rfl, hs, fun p hp => h4 _ _ _ _ M' (e1.trans (same_new (w1.fresh hp))) (w1.new hp) (.lst upd_same ((Dats.rev hd).mono (same_new (w1.fresh hp)))) q1⟩
    · exact q1.elim⟩
end
end DL

set_option autoImplicit false
set_option maxRecDepth 100000
set_option maxHeartbeats 4000000
/-! data without cells: what repr tells of it hangs on nothing else -/
namespace DL
open PySem PySem.Spec PyProof.Rows L2
mutual
def pur : D → Bool
  | .non => true
  | .bl _ => true
  | .int i => decide (i.natAbs < 1000000000000)
  | .str s => plain s
  | .tup ds => purs ds
  | .lst ds => purs ds
  | _ => false
def purs : List D → Bool
  | [] => true
  | d :: ds => pur d && purs ds
end
mutual
def pd : D → PyData
  | .bl b => .bool b
  | .int i => .int i
  | .str s => .str s
  | .tup ds => .tuple (pds ds)
  | .lst ds => .list (pds ds)
  | _ => .none
def pds : List D → List PyData
  | [] => []
  | d :: ds => pd d :: pds ds
end
mutual
theorem pur_R (M : Mem) : ∀ d, pur d = true → toR M d = some (pd d) ∧ fit 1000000000000 M d = true
  | .non, _ => ⟨by unfold toR pd; rfl, by unfold fit; rfl⟩
  | .bl _, _ => ⟨by unfold toR pd; rfl, by unfold fit; rfl⟩
  | .int _, h => ⟨by unfold toR pd; rfl, by unfold fit; unfold pur at h; exact h⟩
  | .str _, h => ⟨by unfold toR pd; rfl, by unfold fit; unfold pur at h; exact h⟩
  | .tup ds, h => by
    unfold pur at h
    obtain ⟨a, b⟩ := purs_R M ds h
    exact ⟨by unfold toR pd; rw [a], by unfold fit; exact b⟩
  | .lst ds, h => by
    unfold pur at h
    obtain ⟨a, b⟩ := purs_R M ds h
    exact ⟨by unfold toR pd; rw [a], by unfold fit; exact b⟩
  | .scr _, h => by unfold pur at h; cases h
  | .cel _, h => by unfold pur at h; cases h
  | .ty _, h => by unfold pur at h; cases h
theorem purs_R (M : Mem) : ∀ ds, purs ds = true → toRs M ds = some (pds ds) ∧ fits 1000000000000 M ds = true
  | [], _ => ⟨by unfold toRs pds; rfl, by unfold fits; rfl⟩
  | d :: ds, h => by
    unfold purs at h
    rw [Bool.and_eq_true] at h
    obtain ⟨a, b⟩ := pur_R M d h.1
    obtain ⟨c, e⟩ := purs_R M ds h.2
    exact ⟨by unfold toRs pds; rw [a, c], by unfold fits; rw [b, e]; rfl⟩
end
structure Pu (a b : Nat) (d : D) : Prop where
  ok : pur d = true
  hv : heavy d ≤ a
  fr : far d ≤ b
theorem Pu.up {a b a' b' : Nat} {d : D} (h : Pu a b d) (h1 : a ≤ a') (h2 : b ≤ b') : Pu a' b' d := ⟨h.ok, Nat.le_trans h.hv h1, Nat.le_trans h.fr h2⟩
theorem r_reprP {a b : Nat} {d : D} {M : Mem} {k : KD} (h : Pu a b d) (ha : a ≤ 1000000) (hb : b ≤ 64) (hk : k (.str (pd d).shown) M) : rdRepr [d] M k := by
  obtain ⟨e, f⟩ := pur_R M d h.ok
  refine r_repr (Nat.le_refl _) f (Nat.le_trans h.hv ha) (Nat.le_trans h.fr hb) fun p ep => ?_
  rw [e] at ep
  cases ep
  exact hk
theorem purs_mem : ∀ {ds : List D}, (∀ d ∈ ds, pur d = true) → purs ds = true
  | [], _ => by unfold purs; rfl
  | d :: ds, h => by unfold purs; rw [h d List.mem_cons_self, purs_mem fun x hx => h x (List.mem_cons_of_mem _ hx)]; rfl
theorem purs_all : ∀ {ds : List D}, purs ds = true → ∀ d ∈ ds, pur d = true
  | d :: ds, h, x, hx => by
    unfold purs at h
    rw [Bool.and_eq_true] at h
    rcases List.mem_cons.mp hx with rfl | hx
    · exact h.1
    · exact purs_all h.2 x hx
theorem hvs_nil : heavies [] = 0 := by rw [heavies]
theorem hvs_cons (d : D) (ds : List D) : heavies (d :: ds) = heavy d + 1 + heavies ds := by rw [heavies]
theorem hvs_app : ∀ a b : List D, heavies (a ++ b) = heavies a + heavies b
  | [], b => by rw [hvs_nil]; simp
  | d :: a, b => by rw [List.cons_append, hvs_cons, hvs_cons, hvs_app a b]; omega
theorem hvs_le {n : Nat} : ∀ {xs : List D}, (∀ d ∈ xs, heavy d ≤ n) → heavies xs ≤ xs.length * (n + 1)
  | [], _ => by rw [hvs_nil]; exact Nat.zero_le _
  | d :: xs, h => by
    have h1 := h d List.mem_cons_self
    have h2 := hvs_le fun x hx => h x (List.mem_cons_of_mem _ hx)
    rw [hvs_cons, List.length_cons, Nat.succ_mul]; omega
theorem frs_le {n : Nat} : ∀ {a : List D}, (∀ d ∈ a, far d ≤ n) → fars a ≤ n
  | [], _ => by unfold fars; exact Nat.zero_le _
  | d :: a, h => by
    have e : fars (d :: a) = max (far d) (fars a) := by rw [fars]
    rw [e, Nat.max_le]
    exact ⟨h d List.mem_cons_self, frs_le fun x hx => h x (List.mem_cons_of_mem _ hx)⟩
theorem frs_mem {n : Nat} : ∀ {a : List D}, fars a ≤ n → ∀ d ∈ a, far d ≤ n
  | x :: a, h, d, hd => by
    have e : fars (x :: a) = max (far x) (fars a) := by rw [fars]
    rw [e, Nat.max_le] at h
    rcases List.mem_cons.mp hd with rfl | hd
    · exact h.1
    · exact frs_mem h.2 d hd
theorem pu_tup {a b : Nat} {xs : List D} (h : ∀ x ∈ xs, pur x = true ∧ far x ≤ b) (h1 : heavies xs ≤ a) : Pu a (b + 1) (.tup xs) :=
  ⟨by unfold pur; exact purs_mem fun x hx => (h x hx).1, by rw [heavy]; exact h1, by rw [far]; have := frs_le fun x hx => (h x hx).2; omega⟩
theorem pu_lst {a b : Nat} {xs : List D} (h : ∀ x ∈ xs, pur x = true ∧ far x ≤ b) (h1 : heavies xs ≤ a) : Pu a (b + 1) (.lst xs) :=
  ⟨by unfold pur; exact purs_mem fun x hx => (h x hx).1, by rw [heavy]; exact h1, by rw [far]; have := frs_le fun x hx => (h x hx).2; omega⟩
/-- a tuple of alike things, at most n -/
theorem pu_many {a b n : Nat} {xs : List D} (h : ∀ x ∈ xs, Pu a b x) (hl : xs.length ≤ n) : Pu (n * (a + 1)) (b + 1) (.tup xs) :=
  pu_tup (fun x hx => ⟨(h x hx).ok, (h x hx).fr⟩) (Nat.le_trans (hvs_le fun x hx => (h x hx).hv) (Nat.mul_le_mul hl (Nat.le_refl _)))
theorem pu_str {a b : Nat} {s : Str} (h : plain s = true) (h1 : s.length ≤ a) : Pu a b (.str s) := ⟨by unfold pur; exact h, by rw [heavy]; exact h1, by unfold far; exact Nat.zero_le _⟩
theorem pu_int {b : Nat} {i : Int} (h : i.natAbs < 1000000000000) : Pu 41 b (.int i) := ⟨by unfold pur; exact decide_eq_true h, by rw [heavy]; exact Nat.le_refl _, by unfold far; exact Nat.zero_le _⟩
theorem pu_non {a b : Nat} : Pu a b .non := ⟨by unfold pur; rfl, by unfold heavy; exact Nat.zero_le _, by unfold far; exact Nat.zero_le _⟩
theorem pu_bl {a b : Nat} {x : Bool} : Pu a b (.bl x) := ⟨by unfold pur; rfl, by unfold heavy; exact Nat.zero_le _, by unfold far; exact Nat.zero_le _⟩
theorem pu2 {a1 a2 b : Nat} {x y : D} (h1 : Pu a1 b x) (h2 : Pu a2 b y) : Pu (a1 + a2 + 2) (b + 1) (.tup [x, y]) := by
  refine pu_tup (fun z hz => ?_) (by rw [hvs_cons, hvs_cons, hvs_nil]; have := h1.hv; have := h2.hv; omega)
  simp only [List.mem_cons, List.not_mem_nil, or_false] at hz
  rcases hz with rfl | rfl
  · exact ⟨h1.ok, h1.fr⟩
  · exact ⟨h2.ok, h2.fr⟩
theorem pu3 {a1 a2 a3 b : Nat} {x y z : D} (h1 : Pu a1 b x) (h2 : Pu a2 b y) (h3 : Pu a3 b z) : Pu (a1 + a2 + a3 + 3) (b + 1) (.tup [x, y, z]) := by
  refine pu_tup (fun u hu => ?_) (by rw [hvs_cons, hvs_cons, hvs_cons, hvs_nil]; have := h1.hv; have := h2.hv; have := h3.hv; omega)
  simp only [List.mem_cons, List.not_mem_nil, or_false] at hu
  rcases hu with rfl | rfl | rfl
  · exact ⟨h1.ok, h1.fr⟩
  · exact ⟨h2.ok, h2.fr⟩
  · exact ⟨h3.ok, h3.fr⟩
theorem pu4 {a1 a2 a3 a4 b : Nat} {x y z u : D} (h1 : Pu a1 b x) (h2 : Pu a2 b y) (h3 : Pu a3 b z) (h4 : Pu a4 b u) : Pu (a1 + a2 + a3 + a4 + 4) (b + 1) (.tup [x, y, z, u]) := by
  refine pu_tup (fun v hv => ?_) (by rw [hvs_cons, hvs_cons, hvs_cons, hvs_cons, hvs_nil]; have := h1.hv; have := h2.hv; have := h3.hv; have := h4.hv; omega)
  simp only [List.mem_cons, List.not_mem_nil, or_false] at hv
  rcases hv with rfl | rfl | rfl | rfl
  · exact ⟨h1.ok, h1.fr⟩
  · exact ⟨h2.ok, h2.fr⟩
  · exact ⟨h3.ok, h3.fr⟩
  · exact ⟨h4.ok, h4.fr⟩
theorem pu5 {a1 a2 a3 a4 a5 b : Nat} {x y z u v : D} (h1 : Pu a1 b x) (h2 : Pu a2 b y) (h3 : Pu a3 b z) (h4 : Pu a4 b u) (h5 : Pu a5 b v) : Pu (a1 + a2 + a3 + a4 + a5 + 5) (b + 1) (.tup [x, y, z, u, v]) := by
  refine pu_tup (fun t ht => ?_) (by rw [hvs_cons, hvs_cons, hvs_cons, hvs_cons, hvs_cons, hvs_nil]; have := h1.hv; have := h2.hv; have := h3.hv; have := h4.hv; have := h5.hv; omega)
  simp only [List.mem_cons, List.not_mem_nil, or_false] at ht
  rcases ht with rfl | rfl | rfl | rfl | rfl
  · exact ⟨h1.ok, h1.fr⟩
  · exact ⟨h2.ok, h2.fr⟩
  · exact ⟨h3.ok, h3.fr⟩
  · exact ⟨h4.ok, h4.fr⟩
  · exact ⟨h5.ok, h5.fr⟩
/-- slices from the back -/
theorem cut_but {α : Type} (xs : List α) (m : Nat) (h0 : 0 < m) (h : m ≤ xs.length) : cutD xs none (some (-(m : Int))) = xs.take (xs.length - m) := by
  have e : HT.sIx xs.length xs.length (some (-(m : Int))) = xs.length - m := by
    show (if -(m : Int) < 0 then (-(m : Int) + (xs.length : Int)).toNat else min (-(m : Int)).toNat xs.length) = _
    rw [if_pos (by omega)]; omega
  unfold cutD
  rw [HT.sIx_none, e]
  simp
theorem cut_last {α : Type} (xs : List α) (m : Nat) (h0 : 0 < m) (h : m ≤ xs.length) : cutD xs (some (-(m : Int))) none = xs.drop (xs.length - m) := by
  have e : HT.sIx xs.length 0 (some (-(m : Int))) = xs.length - m := by
    show (if -(m : Int) < 0 then (-(m : Int) + (xs.length : Int)).toNat else min (-(m : Int)).toNat xs.length) = _
    rw [if_pos (by omega)]; omega
  unfold cutD
  rw [HT.sIx_none, e]
  rw [List.take_of_length_le (by rw [List.length_drop]; omega)]
end DL

set_option autoImplicit false
set_option maxRecDepth 100000
set_option maxHeartbeats 4000000
/-! f-strings, starred displays, stores into dicts, anything looked for in a tuple of data -/
namespace DL
open PySem PySem.Spec PyProof.Rows L2
section
variable {X : Cx} {K : PySem.W.Frag}
/-! ### f-strings -/
def wFmt (we : WE) : WE := fun Γ M k => we Γ M fun d M1 => match d with
  | .str y => y.length ≤ sizeLine ∧ k (.str y) M1
  | .int i => i.natAbs.log2 < 1920 ∧ k (.str (toString i)) M1
  | _ => False
theorem de_fmt {e : Expr} {we : WE} {pos : Pos} (he : DE X e we) : DE X (.FormattedValue e (-1) none pos) (wFmt we) :=
  de_of (pe_fmt he.run) fun σ H Q Γ Fr H0 M k h1 h2 h3 h4 => ⟨Γ, Fr, H0, M, _, h1, h2, h3, fun v H1 H' d M' e1 w1 r1 q1 => by
    split at q1
    · cases r1; exact .inl ⟨_, rfl, q1.1, h4 _ _ _ _ M' e1 w1 (.str _) q1.2⟩
    · cases r1; exact .inr ⟨_, rfl, q1.1, h4 _ _ _ _ M' e1 w1 (.str _) q1.2⟩
    · exact q1.elim⟩
def wFs : List WE → Str → WE
  | [], acc => fun _ M k => k (.str acc) M
  | w :: ws, acc => fun Γ M k => w Γ M fun d M1 => match d with | .str y => (acc ++ y).length ≤ sizeLine ∧ wFs ws (acc ++ y) Γ M1 k | _ => False
inductive DJ (X : Cx) : List Expr → List WE → Prop where
  | nil : DJ X [] []
  | cons {e : Expr} {w : WE} {es : List Expr} {ws : List WE} (h : DE X e w) (r : DJ X es ws) : DJ X (e :: es) (w :: ws)
theorem DJ.pj {es : List Expr} {ws : List WE} (h : DJ X es ws) : PJ X es (ws.map (liftE X.K)) := by
  induction h with
  | nil => exact .nil
  | cons h _ ih => exact .cons h.run ih
theorem fs_lift : ∀ (ws : List WE) (acc : Str) {σ : L2.St} {H : Hp} {Q : VK} {Γ : Env} {Fr H0 : Hp} {M : Mem} {k : KD}, Slots K H0 σ Γ → Wd K Fr H0 M H → wFs ws acc Γ M k → Cont K Fr H0 k Q → tJs (ws.map (liftE K)) acc σ H fun out H1 => Q (.str out) H1
  | [], acc, σ, H, Q, Γ, Fr, H0, M, k, h1, h2, h3, h4 => h4 _ H0 H _ M (Same.refl _) h2 (.str acc) h3
  | w :: ws, acc, σ, H, Q, Γ, Fr, H0, M, k, h1, h2, h3, h4 => ⟨Γ, Fr, H0, M, _, h1, h2, h3, fun v H1 H' d M' e1 w1 r1 q1 => by
    split at q1
    · cases r1
      exact ⟨_, rfl, q1.1, fs_lift ws _ (h1.mono e1) w1 q1.2 (h4.mono e1)⟩
    · exact q1.elim⟩
theorem de_fs {v1 v2 : Expr} {rest : List Expr} {ws : List WE} {pos : Pos} (h : DJ X (v1 :: v2 :: rest) ws) : DE X (.JoinedStr (v1 :: v2 :: rest) pos) (wFs ws Str.empty) :=
  de_of (pe_joined h.pj) fun σ H Q Γ Fr H0 M k h1 h2 h3 h4 => fs_lift ws Str.empty h1 h2 h3 h4
/-! ### starred displays -/
def wStar (we : WE) (wr : WA) : WA := fun Γ M k => we Γ M fun d M1 => match seqD M1 d with | some ds => wr Γ M1 fun es M2 => k (ds ++ es) M2 | none => False
theorem da_star {e : Expr} {es : List Expr} {we : WE} {wr : WA} {p : Pos} (he : DE X e we) (hr : DA X es wr) (hs : starEach (.Starred e p :: es) X.env = (true, eval e X.env) :: starEach es X.env := by rfl) : DA X (.Starred e p :: es) (wStar we wr) :=
  da_of (StX.pa_star he.run hr.run hs) fun σ H Q Γ Fr H0 M k h1 h2 h3 h4 => ⟨Γ, Fr, H0, M, _, h1, h2, h3, fun v H1 H' d M' e1 w1 r1 q1 => by
    split at q1
    · rename_i ds es'
      obtain ⟨a, vs, rfl, hs', hd⟩ := seqD_ok w1 r1 es'
      exact ⟨a, vs, rfl, hs'.symm, Γ, Fr, H1, M', _, h1.mono e1, w1, q1, fun us H2 H'' fs M'' e2 w2 r2 q2 => h4 _ H2 H'' _ M'' (e1.trans e2) w2 ((hd.mono e2).append r2) q2⟩
    · exact q1.elim⟩
/-! ### d[k] = v -/
def rdPut (x y v : D) (M : Mem) (k : Mem → Prop) : Prop := match x, keyD y with
  | .cel a, some κ => (match M a with | some (.dct kvs) => kvs.length < sizeLine ∧ k (setM M a (.dct (putD kvs κ v))) | _ => False)
  | _, _ => False
def wPut (wa wi wv : WE) : WS := fun k Γ M => wv Γ M fun v M1 => wa Γ M1 fun x M2 => wi Γ M2 fun y M3 => rdPut x y v M3 (k.nx Γ)
theorem ds_put {o i v : Expr} {wa wi wv : WE} {pos' pos : Pos} (hu : X.A.units + 1 < cLine) (ho : DE X o wa) (hi : DE X i wi) (hv : DE X v wv) (hs : swapsWith v (some (.Subscript o i pos')) pos.line X.env = pure false := by rfl) :
    DS X (.Assign [.Subscript o i pos'] v pos) (wPut wa wi wv) :=
  ds_of (ps_dput hu ho.run hi.run hv.run hs) fun D σ H Γ Fr H0 M k h1 h2 h3 h4 => ⟨Γ, Fr, H0, M, _, h1, h2, h3, fun vv H1 H' dv M1 e1 w1 r1 q1 => by
    refine ⟨Γ, Fr, H1, M1, _, h1.mono e1, w1, q1, fun xv H2 H'' dx M2 e2 w2 r2 q2 => ?_⟩
    refine ⟨Γ, Fr, H2, M2, _, h1.mono (e1.trans e2), w2, q2, fun yv H3 H''' dy M3 e3 w3 r3 q3 => ?_⟩
    unfold rdPut at q3
    split at q3
    · rename_i a κ ek
      split at q3
      · rename_i kvs em
        obtain ⟨_, o, ho, ck⟩ := w3.mem a _ em
        cases ck with
        | dct hk =>
          cases r2
          have := keyD_ok r3 ek
          subst this
          have hl := Paired.length hk
          refine ⟨a, _, rfl, DPut.k ho (by rw [hl]; exact q3.1), ?_⟩
          exact h4.nx σ H3 _ Γ _ ((e1.trans e2).trans e3) (h1.mono ((e1.trans e2).trans e3)) (w3.set em (.dct (paired_put hk κ (r1.mono (e2.trans e3))))) q3.2
      · exact q3.elim
    · exact q3.elim⟩
/-! ### in a tuple of data -/
def rInT (K : PySem.W.Frag) (f : Bool → Bool) : R2 := fun x y H Q => ∃ d ds, Dp K H x d ∧ Dp K H y (.tuple ds) ∧ SeqAt.shaped d = true ∧ SeqAt.shaped (.tuple ds) = true ∧ Q (.bl (f (ds.any fun z => PyData.eqv z d))) H
theorem room_shaped {d : PyData} {n u : Nat} (h : SeqAt.shaped d = true) (hu : u + 65 < cLine) : u + 1 + min n d.depth < cLine := by
  have : d.depth ≤ 64 := by
    unfold SeqAt.shaped at h
    rw [Bool.and_eq_true] at h
    exact of_decide_eq_true h.2
  have := Nat.min_le_right n d.depth
  omega
theorem op_inT (hu : X.A.units + 65 < cLine) : OpR X (compareOp .In) (rInT X.K id) := by
  intro pins s σ H x y v u Q I rx ry h
  obtain ⟨d, ds, hd, he, sd, se, q⟩ := h
  obtain ⟨as, r1⟩ := Dp.reads I d x v hd rx
  obtain ⟨bs, r2⟩ := Dp.reads I (.tuple ds) y u he ry
  exact SeqAt.in_tuple_reads r2 r1 (SeqAt.canLay_of_shaped se) (SeqAt.canLay_of_shaped sd) (room_shaped sd hu) ⟨.bl _, H, I, rfl, q⟩
theorem op_ninT (hu : X.A.units + 65 < cLine) : OpR X (compareOp .NotIn) (rInT X.K not) := by
  intro pins s σ H x y v u Q I rx ry h
  obtain ⟨d, ds, hd, he, sd, se, q⟩ := h
  obtain ⟨as, r1⟩ := Dp.reads I d x v hd rx
  obtain ⟨bs, r2⟩ := Dp.reads I (.tuple ds) y u he ry
  exact SeqAt.notIn_tuple_reads r2 r1 (SeqAt.canLay_of_shaped se) (SeqAt.canLay_of_shaped sd) (room_shaped sd hu) ⟨.bl _, H, I, rfl, q⟩
def rdInTp (f : Bool → Bool) : D → D → Mem → KD → Prop := fun x y M k => match toP M x, toP M y with
  | some d, some (.tuple ds) => SeqAt.shaped d = true ∧ SeqAt.shaped (.tuple ds) = true ∧ k (.bl (f (ds.any fun z => PyData.eqv z d))) M
  | _, _ => False
theorem opd_inT {f : Bool → Bool} : OpD K (rInT K f) (rdInTp f) := fun Fr H0 M H x y vx vy k Q w rx ry h c => by
  unfold rdInTp at h
  split at h
  · rename_i d ds ex ey
    exact ⟨d, ds, toP_ok w x vx d rx ex, toP_ok w y vy _ ry ey, h.1, h.2.1, c _ H0 H _ M (Same.refl _) w (.bl _) h.2.2⟩
  · exact h.elim
theorem c_inT {k : Nat} (hr : DG.RoomG k X.A) : CmpD X .In (rdInTp id) := ⟨_, op_inT (by have := hr.r.un; omega), opd_inT⟩
theorem c_ninT {k : Nat} (hr : DG.RoomG k X.A) : CmpD X .NotIn (rdInTp not) := ⟨_, op_ninT (by have := hr.r.un; omega), opd_inT⟩
end
end DL

set_option autoImplicit false
set_option maxRecDepth 100000
set_option maxHeartbeats 4000000
/-! dicts whose keys are tuples of numbers, texts, None: as cells -/
namespace DL
open PySem PySem.Spec PyProof.Rows L2
abbrev NX := NestedKey × Addr × Value
def lookN (kvs : List (NestedKey × D)) (κ : NestedKey) : Option D := (kvs.find? fun p => decide (p.1 = κ)).map (·.2)
def putN (kvs : List (NestedKey × D)) (κ : NestedKey) (d : D) : List (NestedKey × D) := if (lookN kvs κ).isSome then kvs.map (fun p => if p.1 = κ then (p.1, d) else p) else kvs ++ [(κ, d)]
section
variable {X : Cx} {pins : List (Addr × Obj)} {σ : L2.St} {H H0 Fr : Hp} {s : Shared} {M : Mem} {K : PySem.W.Frag}
mutual
theorem nk_ok (I : Inv X pins σ H s) (ex : Same H0 H) : ∀ (κ : NestedKey) (v : V) (u : Value), Dat X.K H0 v (kD κ) → RelV v u → NestedIs s.heap κ u
  | .none, _, _, h, r => by rw [kD] at h; cases h; cases r; exact .none
  | .num i, _, _, h, r => by rw [kD] at h; cases h; obtain ⟨t, rfl⟩ := r; exact .int i t
  | .text x, _, _, h, r => by rw [kD] at h; cases h; obtain ⟨t, rfl⟩ := r; exact .text x t
  | .tup ks, _, _, h, r => by
    rw [kD] at h
    cases h with
    | tup hs hd =>
      cases r
      obtain ⟨its, rv, ⟨o, ho, hc, n, hdd⟩, _⟩ := I.tuple (same_t ex hs)
      exact .tup ho hc hdd (nks_ok I ex ks _ _ hd rv)
theorem nks_ok (I : Inv X pins σ H s) (ex : Same H0 H) : ∀ (κs : List NestedKey) (vs : List V) (us : List Value), Dats X.K H0 vs (kDs κs) → Vals vs us → NestedAll s.heap κs us
  | [], _, _, h, r => by rw [kDs] at h; cases h; cases r; exact .nil
  | κ :: κs, _, _, h, r => by
    rw [kDs] at h
    cases h with
    | cons h1 h2 =>
      cases r with
      | cons r1 r2 => exact .cons (nk_ok I ex κ _ _ h1 r1) (nks_ok I ex κs _ _ h2 r2)
end
/-! ### entries -/
theorem n_at {κ : NestedKey} : ∀ {xs : List NX} {kvs : List (NestedKey × D)}, Paired (NEnt K H) xs kvs → (∀ d, lookN kvs κ = some d → ∃ p v, atKey xs κ = some p ∧ RelV v p.2 ∧ Dat K H v d) ∧ (lookN kvs κ = none → atKey xs κ = none)
  | _, _, .nil => ⟨fun d e => (by simp [lookN] at e), fun _ => rfl⟩
  | _, _, .cons (a := x) (b := p) h t => by
    obtain ⟨i1, i2⟩ := n_at (κ := κ) t
    obtain ⟨h1, _, _, v, h4, h5⟩ := h
    by_cases e : p.1 = κ
    · have e' : x.1 = κ := h1.symm.trans e
      have a1 : ∀ l, lookN (p :: l) κ = some p.2 := fun l => by unfold lookN; rw [List.find?_cons]; simp [e]
      have a2 : ∀ l, atKey (x :: l) κ = some x.2 := fun l => by unfold atKey; rw [List.find?_cons]; simp [e']
      rw [a1, a2]
      exact ⟨fun d z => by cases z; exact ⟨_, v, rfl, h4, h5⟩, fun z => by cases z⟩
    · have e' : ¬ x.1 = κ := fun z => e (h1.trans z)
      have a1 : ∀ l, lookN (p :: l) κ = lookN l κ := fun l => by unfold lookN; rw [List.find?_cons]; simp [e]
      have a2 : ∀ l, atKey (x :: l) κ = atKey l κ := fun l => by unfold atKey; rw [List.find?_cons]; simp [e']
      rw [a1, a2]
      exact ⟨i1, i2⟩
theorem n_some {κ : NestedKey} {xs : List NX} {kvs : List (NestedKey × D)} (h : Paired (NEnt K H) xs kvs) : (atKey xs κ).isSome = (lookN kvs κ).isSome := by
  obtain ⟨a, b⟩ := n_at (κ := κ) h
  cases e : lookN kvs κ with
  | none => rw [b e]; rfl
  | some d => obtain ⟨p, v, q, _⟩ := a d e; rw [q]; rfl
theorem n_mapPut {κ : NestedKey} {v : V} {u : Value} {d : D} (r : RelV v u) (hd : Dat K H v d) : ∀ {xs : List NX} {kvs : List (NestedKey × D)}, Paired (NEnt K H) xs kvs →
    Paired (NEnt K H) (xs.map (putAt κ u)) (kvs.map fun p => if p.1 = κ then (p.1, d) else p)
  | _, _, .nil => .nil
  | _, _, .cons (a := x) (b := p) h t => by
    refine .cons ?_ (n_mapPut r hd t)
    obtain ⟨h1, h2, h3, w, h4, h5⟩ := h
    show NEnt K H (putAt κ u x) (if p.1 = κ then (p.1, d) else p)
    unfold putAt
    by_cases e : p.1 = κ
    · have e' : x.1 = κ := h1.symm.trans e
      rw [if_pos e, if_pos e']
      exact ⟨h1, h2, h3, v, r, hd⟩
    · have e' : ¬ x.1 = κ := fun z => e (h1.trans z)
      rw [if_neg e, if_neg e']
      exact ⟨h1, h2, h3, w, h4, h5⟩
theorem n_put {κ : NestedKey} {b : Addr} {v : V} {u : Value} {d : D} {xs : List NX} {kvs : List (NestedKey × D)} (h : Paired (NEnt K H) xs kvs) (hk : Dat K H (.ref b) (kD κ)) (h8 : κ.depth ≤ 8) (r : RelV v u) (hd : Dat K H v d) :
    Paired (NEnt K H) (storedH xs κ b u) (putN kvs κ d) := by
  have e := n_some (κ := κ) h
  unfold storedH putN
  rw [e]
  by_cases z : (lookN kvs κ).isSome
  · rw [if_pos z, if_pos z]; exact n_mapPut r hd h
  · rw [if_neg z, if_neg z]
    exact paired_append h (.cons ⟨rfl, hk, h8, v, r, hd⟩ .nil)
theorem length_storedH (xs : List NX) (κ : NestedKey) (b : Addr) (u : Value) : (storedH xs κ b u).length ≤ xs.length + 1 := by
  unfold storedH; split <;> simp
theorem length_putN (kvs : List (NestedKey × D)) (κ : NestedKey) (d : D) : (putN kvs κ d).length ≤ kvs.length + 1 := by
  unfold putN; split <;> simp
/-! ### the dict in the heap -/
/-- at a there is such a dict, its entries xs -/
structure ND (X : Cx) (H : Hp) (a : Addr) (lk : Option Obj) (xs : List NX) : Prop where
  at_ : H a = some (.ext (DObj X.w a lk xs))
  nd : (xs.map (·.1)).Nodup
  sz : xs.length ≤ sizeLine
  ns : (a == sysModules) = false
  ks : ∃ Hk, Same Hk H ∧ ∀ x ∈ xs, Dat X.K Hk (.ref x.2.1) (kD x.1) ∧ x.1.depth ≤ 8
/-- at b there is the key κ -/
def NK (X : Cx) (H : Hp) (b : Addr) (κ : NestedKey) : Prop := κ.depth ≤ 8 ∧ ∃ Hk, Same Hk H ∧ Dat X.K Hk (.ref b) (kD κ)
theorem paired_all {α β : Type} {R : α → β → Prop} : ∀ {xs : List α} {ys : List β}, Paired R xs ys → ∀ x ∈ xs, ∃ y, R x y
  | _, _, .nil, x, h => by cases h
  | _, _, .cons r t, x, h => by
    rcases List.mem_cons.mp h with e | h
    · exact ⟨_, e ▸ r⟩
    · exact paired_all t x h
theorem nd_of {a : Addr} {lk : Option Obj} {kvs : List (NestedKey × D)} (w : Wd X.K Fr H0 M H) (h : M a = some (.dnt X.w a lk kvs)) : ∃ xs, ND X H a lk xs ∧ Paired (NEnt X.K H0) xs kvs := by
  obtain ⟨_, o, ho, ck⟩ := w.mem a _ h
  cases ck with
  | dnt h h1 h2 h3 => exact ⟨_, ⟨ho, h1, h2, h3, H0, w.ex, fun x hx => by
      obtain ⟨p, q⟩ := paired_all h x hx
      exact ⟨q.2.1, q.2.2.1⟩⟩, h⟩
theorem nk_is {b : Addr} {κ : NestedKey} (I : Inv X pins σ H s) (h : NK X H b κ) : (nestedKind X.prog X.w).is s.heap κ b := by
  obtain ⟨h8, Hk, e, r⟩ := h
  exact ⟨nk_ok I e κ _ _ r rfl, h8⟩
theorem nd_dict {a : Addr} {lk : Option Obj} {xs : List NX} (I : Inv X pins σ H s) (h : ND X H a lk xs) : s.heap.DictOfH (nestedKind X.prog X.w) a xs := by
  obtain ⟨⟨o, es, ep, h1, _, h2, h3, h4⟩, _⟩ := I.hok a _ h.at_
  obtain ⟨Hk, e, hk⟩ := h.ks
  exact ⟨o, es, ep, h1, h2, h3, h4, fun x hx => ⟨nk_ok I e _ _ _ (hk x hx).1 rfl, (hk x hx).2⟩, h.nd⟩
theorem dobj_keeps {w : World} {a : Addr} {lk : Option Obj} {xs : List NX} (h1 h2 : Heap) (h : DObj w a lk xs h1) (k : ∀ o, h1.get? a = some o → h2.get? a = some o) : DObj w a lk xs h2 := by
  obtain ⟨o, es, ep, e, r⟩ := h
  exact ⟨o, es, ep, k _ e, r⟩
theorem dobj_ok {H' : Hp} {h' : Heap} {a : Addr} {xs : List NX} (h : h'.DictOfH (nestedKind X.prog X.w) a xs) : ObjOk X.prog X.w H' h' a (.ext (DObj X.w a none xs)) := by
  obtain ⟨o, es, ep, h1, h2, h3, h4, _⟩ := h
  exact ⟨⟨o, es, ep, h1, fun _ z => (by cases z), h2, h3, h4⟩, ⟨o, h1⟩, dobj_keeps⟩
theorem nroom {A : Around} (hu : A.units + 9 < cLine) : (nestedKind X.prog X.w).room A.in1 := by show A.units + 1 + 8 < cLine; omega
/-! ### {} -/
def tNNew (X : Cx) : TE := fun _ H Q => ∀ p, H p = none → (p == sysModules) = false → Q (.ref p) (upd H p (.ext (DObj X.w p none [])))
theorem pe_nnew {pos : Pos} : PE X (.Dict [] [] pos) (tNNew X) := ⟨fun pins s σ H Q I h => by
  have hs : (s.heap.objs.size == sysModules) = false := beq_eq_false_iff_ne.mpr (Ne.symm (Nat.ne_of_lt I.big))
  exact wpAny_Dict_empty ⟨.ref s.heap.objs.size, _, I.laid (a := s.heap.objs.size) (o := .ext (DObj X.w s.heap.objs.size none [])) (t' := s.toks) (fun _ _ q => Heap.get?_push_of_some _ q) (Nat.le_refl _) (dobj_ok (Heap.DictOfH.new s.heap)), rfl,
    h _ (I.hok.fresh (Nat.le_refl _)) hs⟩⟩
def wNNew (w : World) : WE := fun _ M k => ∀ p, M p = none → k (.cel p) (setM M p (.dnt w p none []))
theorem de_nnew {pos : Pos} {w : World} (hw : X.w = w := by rfl) : DE X (.Dict [] [] pos) (wNNew w) := by
  subst hw
  exact de_of pe_nnew fun σ H Q Γ Fr H0 M k h1 h2 h3 h4 p hp hs => h4 _ H0 _ _ _ (Same.refl _) (h2.newM hp (.dnt .nil List.nodup_nil (Nat.zero_le _) hs)) (.cel p) (h3 p (h2.freshM hp))
/-- what a rule asks of a value: it is such a key -/
def IsNK (d : D) (κ : NestedKey) : Prop := d = kD κ ∧ κ.depth ≤ 8
theorem nk_dat {κ : NestedKey} {v : V} {d : D} {ks : List NestedKey} (ex : Same H0 H) (r : Dat X.K H0 v d) (h : IsNK d κ) (ht : κ = .tup ks) : ∃ b, v = .ref b ∧ NK X H b κ := by
  obtain ⟨rfl, h8⟩ := h
  subst ht
  have r' := r
  rw [kD] at r'
  cases r' with
  | tup hs hd => exact ⟨_, rfl, h8, H0, ex, r⟩
/-! ### d.get(k, x), k in d, d[k], d[k] = v -/
def tNGet2 (X : Cx) (td ty tx : TE) : TE := fun σ H Q => td σ H fun x H1 => ∃ a, x = .ref a ∧ (∃ lk xs, ND X H1 a lk xs) ∧ ty σ H1 fun y H2 => tx σ H2 fun z H3 => ∃ lk xs b κ, y = .ref b ∧ ND X H3 a lk xs ∧ NK X H3 b κ ∧
  (∀ p, atKey xs κ = some p → ∃ v, RelV v p.2 ∧ Q v H3) ∧ (atKey xs κ = none → Q z H3)
theorem nd_isD {a : Addr} {lk : Option Obj} {xs : List NX} (I : Inv X pins σ H s) (h : ND X H a lk xs) : s.TypeIs (.ref a) "dict" ∧ (∀ b, Value.ref a = .ref b → ∃ ob, s.heap.get? b = some ob ∧ ob.dict = none) := by
  have dd := nd_dict I h
  refine ⟨dd.typeIs, fun b q => ?_⟩
  cases q
  obtain ⟨ob, _, _, h1, h2, _⟩ := dd
  exact ⟨ob, h1, h2.2.1⟩
theorem pe_nget2 {o e f : Expr} {apos cpos : Pos} {td ty tx : TE} (hu : X.A.units + 9 < cLine) (ho : PE X o td) (he : PE X e ty) (hf : PE X f tx) (m : M2 X o "get" apos e f cpos) : PE X (.Call (.Attribute o "get" apos) [e, f] [] cpos) (tNGet2 X td ty tx) := by
  refine ⟨fun pins s σ H Q I h => ?_⟩
  refine wpAny_Call_method m.base m.few m.line PySem.F.plainAttrs_dict PySem.F.slot_dict_get PySem.F.type_dict_get (thn (ho.run pins s σ H _ I h) fun u s1 ⟨x, H1, I1, rx, a, ex, ⟨lk, xs, d⟩, q1⟩ => ?_)
  subst ex
  obtain rfl : u = Value.ref a := rx
  obtain ⟨t1, t2⟩ := nd_isD I1 d
  refine ⟨t1, t2, ?_⟩
  rw [m.trees]
  refine Calls.callWith_builtin rfl (Calls.evalArgs_plain (Calls.spliced_cons (thn (he.run pins s1 σ H1 _ I1 q1) fun iv s2 ⟨y, H2, I2, ry, q2⟩ =>
    Calls.spliced_cons (thn (hf.run pins s2 σ H2 _ I2 q2) fun fv s3 ⟨z, H3, I3, rz, lk', xs', b, κ, ey, d', nk, y1, y2⟩ => Calls.spliced_nil ?_))))
  subst ey
  cases (show iv = Value.ref b from ry)
  have dd := nd_dict I3 d'
  refine call_meetsIn PySem.F.slot_dict_get dd.typeIs PySem.F.entry_dict_get (PySem.F.args_dict_get_3 _ _ _) (meetsH_dict_get_default (nestedKind X.prog X.w) a b d'.ns fv) ⟨nroom hu, κ, xs', nk_is I3 nk, dd, ?_⟩
  cases hp : atKey xs' κ with
  | some p =>
    obtain ⟨v, rv, q⟩ := y1 p hp
    exact ⟨v, H3, I3.tok _, rv, q⟩
  | none => exact ⟨z, H3, I3.tok _, rz, y2 hp⟩
/-- the cell of a dict whose keys are tuples -/
def isDn (w : World) (M : Mem) : D → Prop
  | .cel a => ∃ lk kvs, M a = some (.dnt w a lk kvs)
  | _ => False
def rdNGet2 (w : World) : D → D → D → Mem → KD → Prop := fun x y z M k => ∃ a lk kvs ks, x = .cel a ∧ M a = some (.dnt w a lk kvs) ∧ IsNK y (.tup ks) ∧ k ((lookN kvs (.tup ks)).getD z) M
def wNGet2 (w : World) (wa wb wc : WE) : WE := fun Γ M k => wa Γ M fun x M1 => isDn w M1 x ∧ wb Γ M1 fun y M2 => wc Γ M2 fun z M3 => rdNGet2 w x y z M3 k
theorem de_nget2 {o e f : Expr} {apos cpos : Pos} {wo we wf : WE} (hu : X.A.units + 9 < cLine) (ho : DE X o wo) (he : DE X e we) (hf : DE X f wf) {w : World} (m : M2 X o "get" apos e f cpos := by exact ⟨rfl, rfl, rfl, rfl⟩) (hw : X.w = w := by rfl) : DE X (.Call (.Attribute o "get" apos) [e, f] [] cpos) (wNGet2 w wo we wf) := by
  subst hw
  exact de_of (pe_nget2 hu ho.run he.run hf.run m) fun σ H Q Γ Fr H0 M k h1 h2 h3 h4 => by
    refine ⟨Γ, Fr, H0, M, _, h1, h2, h3, fun v H1 Ha d Ma e1 w1 r1 q1 => ?_⟩
    obtain ⟨q0, q1⟩ := q1
    cases d with
    | cel a =>
      cases r1
      obtain ⟨lk, kvs, qa⟩ := q0
      obtain ⟨xs, hn, _⟩ := nd_of w1 qa
      refine ⟨a, rfl, ⟨lk, xs, hn⟩, ?_⟩
      refine ⟨Γ, Fr, H1, Ma, _, h1.mono e1, w1, q1, fun u H2 Hb d' Mb e2 w2 r2 q2 => ?_⟩
      refine ⟨Γ, Fr, H2, Mb, _, h1.mono (e1.trans e2), w2, q2, fun z H3 Hc dz M3 e3 w3 r3 q3 => ?_⟩
      obtain ⟨a', lk', kvs', ks, ex, em, nk, q3⟩ := q3
      cases ex
      obtain ⟨xs', hn', hp⟩ := nd_of w3 em
      obtain ⟨b, rfl, nk'⟩ := nk_dat w3.ex (r2.mono e3) nk rfl
      obtain ⟨i1, i2⟩ := n_at (κ := .tup ks) hp
      refine ⟨lk', xs', b, _, rfl, hn', nk', fun p ep => ?_, fun en => ?_⟩
      · cases ql : lookN kvs' (.tup ks) with
        | none => rw [i2 ql] at ep; cases ep
        | some dd =>
          obtain ⟨p', v', j1, j2, j3⟩ := i1 dd ql
          rw [ep] at j1; cases j1
          rw [ql] at q3
          exact ⟨v', j2, h4 v' H3 Hc dd M3 (e1.trans (e2.trans e3)) w3 j3 q3⟩
      · cases ql : lookN kvs' (.tup ks) with
        | none => rw [ql] at q3; exact h4 z H3 Hc dz M3 (e1.trans (e2.trans e3)) w3 r3 q3
        | some dd =>
          obtain ⟨p', v', j1, _⟩ := i1 dd ql
          rw [en] at j1; cases j1
    | _ => exact q0.elim
/-- k in d, k not in d -/
def rInN (X : Cx) (f : Bool → Bool) : R2 := fun y x H Q => ∃ a b lk xs κ, x = .ref a ∧ y = .ref b ∧ ND X H a lk xs ∧ NK X H b κ ∧ Q (.bl (f (atKey xs κ).isSome)) H
theorem op_inN (hu : X.A.units + 9 < cLine) : OpR X (compareOp .In) (rInN X id) := by
  intro pins s σ H x y v u Q I rx ry h
  obtain ⟨a, b, lk, xs, κ, rfl, rfl, d, nk, q⟩ := h
  cases rx; cases ry
  exact wpAny_in_heap (nroom hu) (nk_is I nk) d.ns (nd_dict I d) ⟨.bl _, H, I.tok _, rfl, q⟩
theorem op_ninN (hu : X.A.units + 9 < cLine) : OpR X (compareOp .NotIn) (rInN X not) := by
  intro pins s σ H x y v u Q I rx ry h
  obtain ⟨a, b, lk, xs, κ, rfl, rfl, d, nk, q⟩ := h
  cases rx; cases ry
  exact wpAny_notIn_heap (nroom hu) (nk_is I nk) d.ns (nd_dict I d) ⟨.bl _, H, I.tok _, rfl, q⟩
def rdInN (w : World) (f : Bool → Bool) : D → D → Mem → KD → Prop := fun y x M k => ∃ a lk kvs ks, x = .cel a ∧ M a = some (.dnt w a lk kvs) ∧ IsNK y (.tup ks) ∧ k (.bl (f (lookN kvs (.tup ks)).isSome)) M
theorem opd_inN {f : Bool → Bool} : OpD X.K (rInN X f) (rdInN X.w f) := fun Fr H0 M H x y vx vy k Q w rx ry h c => by
  obtain ⟨a, lk, kvs, ks, rfl, em, nk, q⟩ := h
  cases ry
  obtain ⟨xs, hn, hp⟩ := nd_of w em
  obtain ⟨b, rfl, nk'⟩ := nk_dat w.ex rx nk rfl
  refine ⟨a, b, lk, xs, _, rfl, rfl, hn, nk', ?_⟩
  rw [n_some hp]
  exact c _ H0 H _ M (Same.refl _) w (.bl _) q
theorem c_inN {k : Nat} {w : World} (hr : DG.RoomG k X.A) (hw : X.w = w := by rfl) : CmpD X .In (rdInN w id) := hw ▸ ⟨_, op_inN (by have := hr.r.un; omega), opd_inN⟩
theorem c_ninN {k : Nat} {w : World} (hr : DG.RoomG k X.A) (hw : X.w = w := by rfl) : CmpD X .NotIn (rdInN w not) := hw ▸ ⟨_, op_ninN (by have := hr.r.un; omega), opd_inN⟩
/-- d[k] -/
def tNGet (X : Cx) (td ty : TE) : TE := fun σ H Q => td σ H fun x H1 => ty σ H1 fun y H2 => ∃ a b lk xs κ p v, x = .ref a ∧ y = .ref b ∧ ND X H2 a lk xs ∧ NK X H2 b κ ∧ atKey xs κ = some p ∧ RelV v p.2 ∧ Q v H2
theorem pe_nget {o i : Expr} {pos : Pos} {td ty : TE} (hu : X.A.units + 9 < cLine) (ho : PE X o td) (hi : PE X i ty) (hs : NoSl i) : PE X (.Subscript o i pos) (tNGet X td ty) := by
  refine ⟨fun pins s σ H Q I h => ?_⟩
  refine subD_of PySem.F.slot_dict_getitem.lookup hs (thn (ho.run pins s σ H _ I h) fun u s1 ⟨x, H1, I1, rx, q1⟩ => thn (hi.run pins s1 σ H1 _ I1 q1) fun iv s2 ⟨y, H2, I2, ry, a, b, lk, xs, κ, p, v, ex, ey, d, nk, hp, rv, q2⟩ => ?_)
  subst ex ey
  cases (show u = Value.ref a from rx)
  cases (show iv = Value.ref b from ry)
  have dd := nd_dict I2 d
  exact ⟨dd.typeIs, wpAny_getItem_heap (nroom hu) (nk_is I2 nk) dd hp ⟨v, H2, I2.tok _, rv, q2⟩⟩
def rdNGet (w : World) : D → D → Mem → KD → Prop := fun x y M k => ∃ a lk kvs ks d, x = .cel a ∧ M a = some (.dnt w a lk kvs) ∧ IsNK y (.tup ks) ∧ lookN kvs (.tup ks) = some d ∧ k d M
theorem de_nget {a b : Expr} {wa wb : WE} {pos : Pos} (hu : X.A.units + 9 < cLine) (ha : DE X a wa) (hb : DE X b wb) {w : World} (hs : NoSl b := by exact fun _ _ => rfl) (hw : X.w = w := by rfl) : DE X (.Subscript a b pos) (wOp (rdNGet w) wa wb) := by
  subst hw
  exact de_of (pe_nget hu ha.run hb.run hs) fun σ H Q Γ Fr H0 M k h1 h2 h3 h4 => by
    refine ⟨Γ, Fr, H0, M, _, h1, h2, h3, fun v H1 H' d M' e1 w1 r1 q1 => ?_⟩
    refine ⟨Γ, Fr, H1, M', _, h1.mono e1, w1, q1, fun u H2 H'' d' M'' e2 w2 r2 q2 => ?_⟩
    obtain ⟨a, lk, kvs, ks, dd, rfl, em, nk, hl, q⟩ := q2
    cases r1
    obtain ⟨xs, hn, hp⟩ := nd_of w2 em
    obtain ⟨b, rfl, nk'⟩ := nk_dat w2.ex r2 nk rfl
    obtain ⟨p, v', j1, j2, j3⟩ := (n_at (κ := .tup ks) hp).1 dd hl
    exact ⟨a, b, lk, xs, _, p, v', rfl, rfl, hn, nk', j1, j2, h4 v' H2 H'' dd M'' (e1.trans e2) w2 j3 q⟩
/-- d[k] = v -/
def sNPut (X : Cx) (td ty tv : TE) : TS := fun D σ H => tv σ H fun v H1 => td σ H1 fun x H2 => ty σ H2 fun y H3 => ∃ a b lk xs κ, x = .ref a ∧ y = .ref b ∧ ND X H3 a lk xs ∧ NK X H3 b κ ∧ xs.length < sizeLine ∧
  ∀ u, RelV v u → D.nx σ (upd H3 a (.ext (DObj X.w a none (storedH xs κ b u))))
theorem ps_nput {o i value : Expr} {pos pos' : Pos} {td ty tv : TE} (hu : X.A.units + 9 < cLine) (ho : PE X o td) (hi : PE X i ty) (hv : PE X value tv) (hs : swapsWith value (some (.Subscript o i pos')) pos.line X.env = pure false) :
    PS X (.Assign [.Subscript o i pos'] value pos) (sNPut X td ty tv) := by
  refine ⟨fun pins s σ H D I h => ?_⟩
  refine wpAny_Assign_Subscript (thn (hv.run pins s σ H _ I h) fun r s1 ⟨v, H1, I1, rv, q1⟩ => thn (ho.run pins s1 σ H1 _ I1 q1) fun u s2 ⟨x, H2, I2, rx, q2⟩ => thn (hi.run pins s2 σ H2 _ I2 q2) fun iv s3 ⟨y, H3, I3, ry, a, b, lk, xs, κ, ex, ey, d, nk, hz, q3⟩ => ?_) hs
  subst ex ey
  cases (show u = Value.ref a from rx)
  cases (show iv = Value.ref b from ry)
  have dd := nd_dict I3 d
  refine wpAny_setItem_heap (hsz := d.sz) (nroom hu) (nk_is I3 nk) dd fun h' dd' hs' => ⟨σ, _, ?_, q3 r rv⟩
  have he : ∃ q, h'.get? a = some q := let ⟨q, _, _, hq, _⟩ := dd'; ⟨q, hq⟩
  exact d_write I3 (by rw [d.at_]; exact True.intro) hs' he (dobj_ok dd')
def rdNPut (w : World) (x y v : D) (M : Mem) (k : Mem → Prop) : Prop := ∃ a lk kvs ks, x = .cel a ∧ M a = some (.dnt w a lk kvs) ∧ IsNK y (.tup ks) ∧ kvs.length < sizeLine ∧ k (setM M a (.dnt w a none (putN kvs (.tup ks) v)))
def wNPut (w : World) (wa wi wv : WE) : WS := fun k Γ M => wv Γ M fun v M1 => wa Γ M1 fun x M2 => wi Γ M2 fun y M3 => rdNPut w x y v M3 (k.nx Γ)
theorem storedH_nodup {xs : List NX} (h : (xs.map (·.1)).Nodup) (κ : NestedKey) (b : Addr) (u : Value) : ((storedH xs κ b u).map (·.1)).Nodup := by
  unfold storedH
  split
  · rw [keys_map_putAt]; exact h
  · rename_i z
    rw [List.map_append, List.nodup_append]
    refine ⟨h, by simp, fun x hx y hy e => ?_⟩
    have hy : y = κ := by simpa using hy
    subst hy e
    refine z ?_
    obtain ⟨p, hp, e⟩ := List.mem_map.mp hx
    unfold atKey
    rw [Option.isSome_map, List.find?_isSome]
    exact ⟨p, hp, by simp [e]⟩
theorem ds_nput {o i v : Expr} {wa wi wv : WE} {pos' pos : Pos} (hu : X.A.units + 9 < cLine) (ho : DE X o wa) (hi : DE X i wi) (hv : DE X v wv) {w : World} (hs : swapsWith v (some (.Subscript o i pos')) pos.line X.env = pure false := by rfl) (hw : X.w = w := by rfl) :
    DS X (.Assign [.Subscript o i pos'] v pos) (wNPut w wa wi wv) := by
  subst hw
  exact ds_of (ps_nput hu ho.run hi.run hv.run hs) fun D σ H Γ Fr H0 M k h1 h2 h3 h4 => ⟨Γ, Fr, H0, M, _, h1, h2, h3, fun vv H1 H' dv M1 e1 w1 r1 q1 => by
    refine ⟨Γ, Fr, H1, M1, _, h1.mono e1, w1, q1, fun xv H2 H'' dx M2 e2 w2 r2 q2 => ?_⟩
    refine ⟨Γ, Fr, H2, M2, _, h1.mono (e1.trans e2), w2, q2, fun yv H3 Hc dy M3 e3 w3 r3 q3 => ?_⟩
    obtain ⟨a, lk, kvs, ks, rfl, em, nk, hz, q⟩ := q3
    cases r2
    obtain ⟨xs, hn, hp⟩ := nd_of w3 em
    obtain ⟨b, rfl, nk'⟩ := nk_dat w3.ex r3 nk rfl
    have hl := Paired.length hp
    refine ⟨a, b, lk, xs, _, rfl, rfl, hn, nk', by rw [hl]; exact hz, fun u ru => ?_⟩
    have hr : Dat X.K H3 (.ref b) (kD (.tup ks)) := nk.1 ▸ r3
    refine h4.nx σ H3 _ Γ _ ((e1.trans e2).trans e3) (h1.mono ((e1.trans e2).trans e3)) (w3.set em (.dnt (n_put hp hr nk.2 ru (r1.mono (e2.trans e3))) (storedH_nodup hn.nd _ _ _) ?_ hn.ns)) q
    have := length_storedH xs (.tup ks) b u
    omega⟩
/-! ### for k in d -/
/-- the dict is just this object -/
def Itn (d : Addr) (o : Obj) (es : Array DictEntry) : It :=
  ⟨fun i H => (∃ φ, H d = some (.ext φ) ∧ ∀ h, φ h → h.get? d = some o) ∧ i < es.size, fun i H x H' => H' = H ∧ ∃ en q, es[i]? = some en ∧ en.key = .ref q ∧ x = .ref q, fun i H => (∃ φ, H d = some (.ext φ) ∧ ∀ h, φ h → h.get? d = some o) ∧ es.size ≤ i⟩
theorem turn_keysN {P : Program} {w : World} {tg : Expr} {d : Addr} {o : Obj} {es : Array DictEntry} {ep : Nat} (it : Addr) (hod : o.data = .dict es ep) (hk : ∀ (i : Nat) (en : DictEntry), es[i]? = some en → ∃ q, en.key = .ref q) :
    Turn P w K tg (Itn d o es) [it] it (fun i h => h.IsKeyIter it d i es.size ep) where
  mem := by simp
  obj := fun i h st b hb => by
    have e : b = it := by simpa using hb
    subst e
    obtain ⟨oi, e, c, dd⟩ := st
    exact ⟨oi, e, fun v z => by rw [dd] at z; cases z⟩
  keep := fun i h h' st k => st.at fun oi e => k it (by simp) oi e
  item := by
    intro X hP hw hK hc i pins s σ H E I hf st hg
    subst hP hw hK
    obtain ⟨⟨φ, hd, hφ⟩, hi⟩ := hg
    obtain ⟨f0, f1, f2, f3, f4, f5⟩ := hf it (by simp)
    have hgd := hφ _ (I.hok d _ hd).1
    have hen : es[i]? = some es[i] := Array.getElem?_eq_getElem hi
    obtain ⟨q, hq⟩ := hk i _ hen
    refine next_key_item st hgd hod rfl hen fun h' st' sb => ?_
    have I1 : Inv X pins σ H { s with heap := h' } := I.turned (t' := s.toks) (fun b ob hb e => (sb.2 b hb).trans e) f0 f1 f3 f4 f5
    obtain ⟨oi, e, c, dd⟩ := id st'
    exact ⟨_, rfl, go_of (s := { s with heap := h' }) e c dd (by decide) ⟨.ref q, H, I1, hq, ⟨rfl, _, q, hen, hq, rfl⟩, st', fun b hb => (hf b hb).1⟩⟩
  done := by
    intro X hP hw hK hc i pins s σ H E I hf st hg
    subst hP hw hK
    obtain ⟨⟨φ, hd, hφ⟩, hi⟩ := hg
    obtain ⟨f0, f1, f2, f3, f4, f5⟩ := hf it (by simp)
    have hgd := hφ _ (I.hok d _ hd).1
    exact next_key_end (I.ok.hd hc) st hgd hod rfl hi fun h' eb => ⟨rfl, I.turned (t' := s.toks) (fun b ob hb e => eb b ob hb e) f0 f1 f3 f4 f5⟩
  self := fun A i s Q E st h => wpAny_pyIter_keyiter st h
def iKeysN (X : Cx) (td : TE) : TI := fun σ H R => td σ H fun x H1 => ∃ d lk xs, x = .ref d ∧ ND X H1 d lk xs ∧ ∀ o es ep, o.data = .dict es ep → es.toList = xs.map (fun x => ⟨x.1.hash X.w, .ref x.2.1, x.2.2⟩) → R (Itn d o es) (upd H1 d (.ext (DObj X.w d (some o) xs)))
theorem pi_keysN {tg e : Expr} {td : TE} (he : PE X e td) : PI X tg e (iKeysN X td) := by
  refine ⟨fun pins s σ H R I h => ?_⟩
  refine thn (he.run pins s σ H _ I h) fun u s1 ⟨x, H1, I1, rx, d, lk, xs, ex, hn, q⟩ => ?_
  subst ex
  obtain rfl : u = Value.ref d := rx
  obtain ⟨⟨o, es, ep, g1, _, g2, g3, g4⟩, _⟩ := I1.hok d _ hn.at_
  have I2 : Inv X pins σ (upd H1 d (.ext (DObj X.w d (some o) xs))) { s1 with heap := s1.heap, toks := s1.toks } :=
    d_write (h' := s1.heap) I1 (by rw [hn.at_]; exact True.intro) ⟨rfl, fun _ _ => rfl⟩ ⟨o, g1⟩ ⟨⟨o, es, ep, g1, fun _ z => (by cases z; rfl), g2, g3, g4⟩, ⟨o, g1⟩, dobj_keeps⟩
  refine iter_keys hn.ns g1 g2 g3 (pi_one (tk := s1.toks) I2 _ (turn_keysN _ g3 fun i en z => ?_) ⟨_, Heap.get?_push_size _ rfl, rfl, rfl⟩ (q o es ep g3 g4))
  have z' : es.toList[i]? = some en := by rw [Array.getElem?_toList]; exact z
  rw [g4, List.getElem?_map] at z'
  cases y : xs[i]? with
  | none => rw [y] at z'; cases z'
  | some x => rw [y] at z'; cases z'; exact ⟨_, rfl⟩
def gDn (w : World) (a : Addr) (o : Obj) (kvs : List (NestedKey × D)) : Mem → Prop := fun M => M a = some (.dnt w a (some o) kvs)
def wiDn (w : World) (we : WE) : WI := fun Γ M k => we Γ M fun d M1 => match d with
  | .cel a => ∃ lk kvs, M1 a = some (.dnt w a lk kvs) ∧ ∀ o, k (kvs.map fun p => kD p.1) (gDn w a o kvs) (setM M1 a (.dnt w a (some o) kvs))
  | _ => False
theorem walks_keysN {w : World} {a : Addr} {o : Obj} {es : Array DictEntry} {xs : List NX} {kvs : List (NestedKey × D)} (hp : Paired (NEnt K H0) xs kvs) (he : es.toList = xs.map fun x => ⟨x.1.hash w, .ref x.2.1, x.2.2⟩) :
    Walks K (Itn a o es) H0 (kvs.map fun p => kD p.1) (gDn w a o kvs) := fun Fr H0' M H e wd g => by
  have hl : es.size = kvs.length := by
    have := congrArg List.length he
    rw [List.length_map, Paired.length hp] at this
    simpa using this
  obtain ⟨_, ho, q, ck⟩ := wd.mem a _ g
  have hφ : ∃ φ, H a = some (.ext φ) ∧ ∀ h, φ h → h.get? a = some o := by
    cases ck with
    | dnt _ _ _ _ => exact ⟨_, q, fun h z => by
        obtain ⟨o', es', ep', z1, z2, _⟩ := z
        rw [z1, z2 o rfl]⟩
  refine ⟨fun i hi => ⟨hφ, by rw [hl]; simpa using hi⟩, ⟨hφ, by rw [hl]; simp⟩, fun i x H' d hd y => ?_⟩
  obtain ⟨rfl, en, b, z1, z2, rfl⟩ := y
  have z' : es.toList[i]? = some en := by rw [Array.getElem?_toList]; exact z1
  rw [he, List.getElem?_map] at z'
  cases y : xs[i]? with
  | none => rw [y] at z'; cases z'
  | some x =>
    rw [y] at z'; cases z'
    cases z2
    rw [List.getElem?_map] at hd
    cases q2 : kvs[i]? with
    | none => rw [q2] at hd; cases hd
    | some p =>
      rw [q2] at hd; cases hd
      obtain ⟨p', y1, y2⟩ := L2.paired_get hp y
      rw [q2] at y1; cases y1
      exact ⟨H0', Same.refl _, wd, by show Dat K H0' (.ref x.2.1) (kD p.1); rw [show p.1 = x.1 from y2.1]; exact y2.2.1.mono e⟩
theorem di_keysN {tg l : Expr} {we : WE} {w : World} (h : DE X l we) (hw : X.w = w := by rfl) : DI X tg l (wiDn w we) := by
  subst hw
  exact ⟨_, pi_keysN h.run, fun σ H Γ Fr H0 M k R h1 h2 h3 h4 => ⟨Γ, Fr, H0, M, _, h1, h2, h3, fun v H1 H' d M' e1 w1 r1 q1 => by
  cases d with
  | cel a =>
    cases r1
    obtain ⟨lk, kvs, em, q⟩ := q1
    obtain ⟨xs, hn, hp⟩ := nd_of w1 em
    exact ⟨a, lk, xs, rfl, hn, fun o es ep _ he => h4 _ _ _ _ H1 _ e1 (w1.set em (.dnt hp hn.nd hn.sz hn.ns)) (q o) (walks_keysN hp he)⟩
  | _ => exact q1.elim⟩⟩
end
end DL

set_option autoImplicit false
set_option maxRecDepth 100000
set_option maxHeartbeats 4000000
/-! comprehensions of two fors -/
namespace DL
open PySem PySem.Spec PyProof.Rows L2
def liftI (K : PySem.W.Frag) (w : WI) : TI := fun σ H R => ∃ Γ Fr H0 M k, Slots K H0 σ Γ ∧ Wd K Fr H0 M H ∧ w Γ M k ∧ ∀ J its G H1 H0' M', Same H0 H0' → Wd K Fr H0' M' H1 → k its G M' → Walks K J H0' its G → R J H1
theorem DI.pi {X : Cx} {tg iter : Expr} {w : WI} (h : DI X tg iter w) : PI X tg iter (liftI X.K w) := by
  obtain ⟨ti, hpi, hti⟩ := h.run
  exact ⟨fun pins s σ H R I ⟨Γ, Fr, H0, M, k, h1, h2, h3, h4⟩ => hpi.run pins s σ H R I (hti σ H Γ Fr H0 M k R h1 h2 h3 h4)⟩
def lcD2 (gd : D → Env → Option Env) (wt : WT) (wi1 : WI) (gd1 : D → Env → Option Env) (wt1 : WT) (we : WE) (vs1 : List Nat) (G : Mem → Prop) (Γ : Env) : List D → List D → Mem → (List D → Mem → Prop) → Prop
  | [], acc, M, k => G M ∧ k acc M
  | d :: ds, acc, M, k => G M ∧ match gd d Γ with
    | some Γ' => wt Γ' M fun b M1 => if b = true then wi1 Γ' M1 fun its1 G1 M2 => lcD gd1 wt1 we G1 (wipeD Γ' vs1) its1 acc M2 fun acc' M3 => lcD2 gd wt wi1 gd1 wt1 we vs1 G Γ ds acc' M3 k
      else lcD2 gd wt wi1 gd1 wt1 we vs1 G Γ ds acc M1 k
    | none => False
def wLc2 (wi : WI) (gd : D → Env → Option Env) (wt : WT) (wi1 : WI) (gd1 : D → Env → Option Env) (wt1 : WT) (we : WE) (vs vs1 : List Nat) : WE := fun Γ M k => wi Γ M fun its G M1 => lcD2 gd wt wi1 gd1 wt1 we vs1 G (wipeD Γ vs) its [] M1 fun ds M2 => k (.lst ds) M2
theorem lc2_heart {K : PySem.W.Frag} {wi1 : WI} {g g1 : TG} {own own1 : List Nat} {gd gd1 : D → Env → Option Env} {wt wt1 : WT} {we : WE} {vs vs1 : List Nat} {Qd : Addr → Hp → Prop} {kd : List D → Mem → Prop}
    (hg : GD K g own gd) (hg1 : GD K g1 own1 gd1) (ho : ∀ i ∈ own, i ∈ vs) (ho1 : ∀ i ∈ own1, i ∈ vs1) {σ : L2.St} {H H0 Fr : Hp} {Γ : Env} {M : Mem} {J : It} {its : List D} {G : Mem → Prop} (s : Slots K H0 σ Γ) (w : Wd K Fr H0 M H) (wk : Walks K J H0 its G)
    (h : lcD2 gd wt wi1 gd1 wt1 we vs1 G (wipeD Γ vs) its [] M kd) {L : Addr} (hL : H L = none)
    (hk : ∀ H1 H' M' ds vs', Same H0 H1 → Wd K Fr H1 M' H' → H1 L = none → M' L = none → Fr L = none → H' L = some (.lst vs') → Dats K H1 vs' ds → kd ds M' → Qd L H') :
    ∃ W : Nat → Nat → Hp → Prop, (∃ m, W 0 m (upd H L (.lst []))) ∧ ∀ i m H, W i m H →
      (J.stop i H ∧ Qd L H) ∨ (J.go i H ∧ ∃ Nx : Hp → Prop, (∀ H', Nx H' → ∃ m', m' < m ∧ W (i + 1) m' H') ∧ ∀ x H', J.yld i H x H' → g x (wipe σ vs) H' fun σ2 H2 => wipe σ2 vs = wipe σ vs ∧ liftT K wt σ2 H2 fun b H3 =>
        if b = true then liftI K wi1 σ2 H3 fun J1 H4 => ∃ W1 : Nat → Nat → Hp → Prop, (∃ m, W1 0 m H4) ∧ ∀ j k H, W1 j k H →
          (J1.stop j H ∧ Nx H) ∨ (J1.go j H ∧ ∃ Nx1 : Hp → Prop, (∀ H', Nx1 H' → ∃ k', k' < k ∧ W1 (j + 1) k' H') ∧ ∀ x H', J1.yld j H x H' → g1 x (wipe σ2 vs1) H' fun σ3 H5 => wipe σ3 vs1 = wipe σ2 vs1 ∧ liftT K wt1 σ3 H5 fun b H6 =>
            if b = true then liftE K we σ3 H6 fun y H7 => ∃ acc, H7 L = some (.lst acc) ∧ acc.length < sizeLine ∧ Nx1 (upd H7 L (.lst (acc ++ [y]))) else Nx1 H6)
        else Nx H3) := by
  have hF : Fr L = none := w.freshF hL
  refine ⟨fun i m H => m = its.length - i ∧ i ≤ its.length ∧ ∃ H1 M av acc, Same H0 H1 ∧ Wd K (upd Fr L (.lst av)) H1 M H ∧ Dats K H1 av acc ∧ lcD2 gd wt wi1 gd1 wt1 we vs1 G (wipeD Γ vs) (its.drop i) acc M kd,
    ⟨its.length, by simp, Nat.zero_le _, H0, M, [], [], Same.refl _, (w.tmp hL).frame (w.fresh hL) (w.freshM hL) upd_same, .nil, h⟩, ?_⟩
  rintro i m H ⟨rfl, hle, H1, M, av, acc, e1, w1, ra, q1⟩
  by_cases hlt : i < its.length
  · right
    rw [drop_cons hlt] at q1
    obtain ⟨g1', q1⟩ := q1
    obtain ⟨k1, k2, k3⟩ := wk _ H1 M H e1 w1 g1'
    refine ⟨k1 i hlt, fun H' => ∃ H2 M av acc, Same H0 H2 ∧ Wd K (upd Fr L (.lst av)) H2 M H' ∧ Dats K H2 av acc ∧ lcD2 gd wt wi1 gd1 wt1 we vs1 G (wipeD Γ vs) (its.drop (i + 1)) acc M kd, fun H' z => ⟨its.length - (i + 1), by omega, rfl, hlt, z⟩, fun x H' y => ?_⟩
    obtain ⟨H2, e2, w2, r2⟩ := k3 i x H' its[i] (List.getElem?_eq_getElem hlt) y
    split at q1
    · rename_i Γ' eg
      refine hg _ H2 M H' _ _ Γ' x its[i] _ ((s.wipe vs).mono (e1.trans e2)) w2 r2 eg fun σ' s' hout hlen => ⟨?_, ?_⟩
      · rw [← wipe_wipe σ vs]
        refine wipe_eq hlen fun i hi => hout i fun z => hi (ho i z)
      · refine ⟨Γ', _, H2, M, _, s', w2, q1, fun b H3 H'' M3 e3 w3 q3 => ?_⟩
        cases b with
        | true =>
          rw [if_pos rfl] at q3 ⊢
          refine ⟨Γ', _, H3, M3, _, s'.mono e3, w3, q3, fun J1 its1 G1 H4 H0' M4 e4 w4 q4 wk1 => ?_⟩
          have e04 := (e1.trans e2).trans (e3.trans e4)
          refine ⟨fun j k H => k = its1.length - j ∧ j ≤ its1.length ∧ ∃ H5 M av acc, Same H0' H5 ∧ Wd K (upd Fr L (.lst av)) H5 M H ∧ Dats K H5 av acc ∧ lcD gd1 wt1 we G1 (wipeD Γ' vs1) (its1.drop j) acc M fun acc' M3 => lcD2 gd wt wi1 gd1 wt1 we vs1 G (wipeD Γ vs) (its.drop (i + 1)) acc' M3 kd,
            ⟨its1.length, by simp, Nat.zero_le _, H0', M4, av, acc, Same.refl _, w4, ra.mono (e2.trans (e3.trans e4)), q4⟩, ?_⟩
          rintro j k H5 ⟨rfl, hle1, H6, M6, av6, acc6, e6, w6, ra6, q6⟩
          by_cases hlt1 : j < its1.length
          · right
            rw [drop_cons hlt1] at q6
            obtain ⟨g6, q6⟩ := q6
            obtain ⟨l1, l2, l3⟩ := wk1 _ H6 M6 H5 e6 w6 g6
            refine ⟨l1 j hlt1, fun H' => ∃ H7 M av acc, Same H0' H7 ∧ Wd K (upd Fr L (.lst av)) H7 M H' ∧ Dats K H7 av acc ∧ lcD gd1 wt1 we G1 (wipeD Γ' vs1) (its1.drop (j + 1)) acc M fun acc' M3 => lcD2 gd wt wi1 gd1 wt1 we vs1 G (wipeD Γ vs) (its.drop (i + 1)) acc' M3 kd,
              fun H' z => ⟨its1.length - (j + 1), by omega, rfl, hlt1, z⟩, fun x H' y => ?_⟩
            obtain ⟨H7, e7, w7, r7⟩ := l3 j x H' its1[j] (List.getElem?_eq_getElem hlt1) y
            split at q6
            · rename_i Γ'' eg1
              refine hg1 _ H7 M6 H' _ _ Γ'' x its1[j] _ ((s'.mono (e3.trans (e4.trans (e6.trans e7)))).wipe vs1) w7 r7 eg1 fun σ'' s'' hout1 hlen1 => ⟨?_, ?_⟩
              · rw [← wipe_wipe σ' vs1]
                refine wipe_eq hlen1 fun i hi => hout1 i fun z => hi (ho1 i z)
              · refine ⟨Γ'', _, H7, M6, _, s'', w7, q6, fun b H8 H8' M8 e8 w8 q8 => ?_⟩
                cases b with
                | true =>
                  rw [if_pos rfl] at q8 ⊢
                  refine ⟨Γ'', _, H8, M8, _, s''.mono e8, w8, q8, fun v H9 H9' d M9 e9 w9 r9 q9 => ?_⟩
                  obtain ⟨w10, n1, n2, n3⟩ := w9.unframe hF
                  have ra9 := ra6.mono (e7.trans (e8.trans e9))
                  exact ⟨av6, n3, by rw [ra9.length]; exact q9.1, H9, M9, av6 ++ [v], acc6 ++ [d], (e6.trans e7).trans (e8.trans e9), (w10.tmpSet n1 n2 hF).frame n1 n2 upd_same, ra9.append (.one r9), q9.2⟩
                | false =>
                  rw [if_neg Bool.false_ne_true] at q8 ⊢
                  exact ⟨H8, M8, av6, acc6, (e6.trans e7).trans e8, w8, ra6.mono (e7.trans e8), q8⟩
            · exact q6.elim
          · left
            have ej : j = its1.length := by omega
            subst ej
            rw [List.drop_length] at q6
            obtain ⟨g6, q6⟩ := q6
            exact ⟨(wk1 _ H6 M6 H5 e6 w6 g6).2.1, H6, M6, av6, acc6, e04.trans e6, w6, ra6, q6⟩
        | false =>
          rw [if_neg Bool.false_ne_true] at q3 ⊢
          exact ⟨H3, M3, av, acc, (e1.trans e2).trans e3, w3, ra.mono (e2.trans e3), q3⟩
    · exact q1.elim
  · left
    have ei : i = its.length := by omega
    subst ei
    rw [List.drop_length] at q1
    obtain ⟨g1', q1⟩ := q1
    obtain ⟨w5, n1, n2, n3⟩ := w1.unframe hF
    exact ⟨(wk _ H1 M H e1 w1 g1').2.1, hk H1 H M acc av e1 w5 n1 n2 hF n3 ra q1⟩
theorem de_lc2 {X : Cx} {elt tg iter tg1 iter1 : Expr} {ifs ifs1 : List Expr} {scope : Scope} {own : List (Str × Nat)} {vs1 : List Nat} {pos : Pos} {wi wi1 : WI} {g g1 : TG} {ow ow1 : List Nat} {gd gd1 : D → Env → Option Env} {wt wt1 : WT} {we : WE} (hc : X.calm = true) (hN : X.N.Nodup) (hi : DI X tg iter wi) (ok : BlkOk X.N X.env.scope scope own)
    (hg : ∀ (s : Shared) (H : Hp) (C : Addr) (cl : List (Str × Addr)) (fp : List Addr), DG (X.blk s H scope (compEnvC scope cl C X.env) fp) tg g ow gd) (hgd : GD X.K g ow gd)
    (ht : ∀ (s : Shared) (H : Hp) (C : Addr) (cl : List (Str × Addr)) (fp : List Addr), DTs (X.blk s H scope (compEnvC scope cl C X.env) fp) ifs wt)
    (hi1 : ∀ (s : Shared) (H : Hp) (C : Addr) (cl : List (Str × Addr)) (fp : List Addr), DI (X.blk s H scope (compEnvC scope cl C X.env) fp) tg1 iter1 wi1)
    (hg1 : ∀ (s : Shared) (H : Hp) (C : Addr) (cl : List (Str × Addr)) (fp : List Addr), DG (X.blk s H scope (compEnvC scope cl C X.env) fp) tg1 g1 ow1 gd1) (hgd1 : GD X.K g1 ow1 gd1)
    (ht1 : ∀ (s : Shared) (H : Hp) (C : Addr) (cl : List (Str × Addr)) (fp : List Addr), DTs (X.blk s H scope (compEnvC scope cl C X.env) fp) ifs1 wt1)
    (he : ∀ (s : Shared) (H : Hp) (C : Addr) (cl : List (Str × Addr)) (fp : List Addr), DE (X.blk s H scope (compEnvC scope cl C X.env) fp) elt we)
    (ho : ∀ i ∈ ow, i ∈ own.map (·.2) := by decide) (ho1 : ∀ i ∈ ow1, i ∈ vs1 := by decide) (hv : ∀ i ∈ vs1, i ∈ own.map (·.2) := by decide) (hs : ∀ x, foldedSetIterable iter X.env x = pure x := by intro _; rfl) (hs1 : ∀ env x, foldedSetIterable iter1 env x = pure x := by intro _ _; rfl) :
    DE X (.ListComp elt [⟨tg, iter, ifs, 0⟩, ⟨tg1, iter1, ifs1, 0⟩] scope pos) (wLc2 wi gd wt wi1 gd1 wt1 we (own.map (·.2)) vs1) := by
  refine de_of (pe_lc2 (tt := liftT X.K wt) (wi1 := liftI X.K wi1) (tt1 := liftT X.K wt1) (te := liftE X.K we) hc hN hi.pi ok hv (fun s H C cl fp => (hg s H C cl fp).pg) (fun s H C cl fp => (ht s H C cl fp).run) (fun s H C cl fp => (hi1 s H C cl fp).pi) (fun s H C cl fp => (hg1 s H C cl fp).pg) (fun s H C cl fp => (ht1 s H C cl fp).run) (fun s H C cl fp => (he s H C cl fp).run) hs hs1) fun σ H Q Γ Fr H0 M k h1 h2 h3 h4 => ?_
  refine ⟨Γ, Fr, H0, M, _, h1, h2, h3, fun J its G H1 H0' M' e1 w1 q1 wk L hL => ?_⟩
  exact lc2_heart (Qd := fun L H => Q (.ref L) H) hgd hgd1 ho ho1 (h1.mono e1) w1 wk q1 hL fun H2 H' M2 ds vs' e2 w2 n1 n2 n3 n4 rd qk =>
    h4 _ (upd H2 L (.lst vs')) H' _ M2 ((e1.trans e2).trans (same_new n1)) (w2.adopt n1 n2 n3 n4) (.lst upd_same (rd.mono (same_new n1))) qk
end DL

set_option autoImplicit false
set_option maxRecDepth 100000
set_option maxHeartbeats 4000000
/-! xs.remove(x) of data -/
namespace DL
open PySem PySem.Spec PyProof.Rows L2
section
variable {X : Cx} {K : PySem.W.Frag}
def rRemD (K : PySem.W.Frag) : V → List V → Hp → VK → Prop := fun x ys H Q => ∃ l y vs ds d j, x = .ref l ∧ ys = [y] ∧ H l = some (.lst vs) ∧ DpAll K H vs ds ∧ Dp K H y d ∧ PyData.plainAll ds = true ∧ d.plain = true ∧ d.depth ≤ 64 ∧
  SeqAt.dataPlace ds d = some j ∧ Q .non (upd H l (.lst (vs.eraseIdx j)))
theorem mt_remD (hu : X.A.units + 66 < cLine) : MtR X "list.remove" (rRemD X.K) := by
  intro pins s σ H x vs v us Q I rx rv h
  obtain ⟨l, y, xs, ds, d, j, rfl, rfl, hH, hD, hd, p1, p2, p3, hj, q⟩ := h
  cases rx
  obtain ⟨u, rfl, ru⟩ := rv.one
  obtain ⟨z, its, n, r, hl, e⟩ := I.lstM hH
  obtain ⟨as, r1⟩ := Dp.readsAll I ds _ its hD r
  obtain ⟨bs, r2⟩ := Dp.reads I d y u hd ru
  have hlist : s.heap.IsList l its.toArray := ⟨_, e, rfl, n, rfl⟩
  have hm := Nat.min_le_right (PyData.depthAll ds) d.depth
  refine SeqAt.remove_list_data (vs := its.toArray) hlist (by simpa using r1) r2 p1 p2 (by omega) hj (by rw [List.size_toArray, ← hl]; exact z) ?_
  refine ⟨.non, _, I.lset (t' := s.toks) (its' := its.eraseIdx j) hH e ?_ (r.eraseIdx j) ?_, rfl, q⟩
  · show its.toArray.eraseIdxIfInBounds j = (its.eraseIdx j).toArray
    rw [List.eraseIdxIfInBounds_toArray]
  · have := List.length_eraseIdx_le xs j
    omega
def rdRem : D → List D → Mem → KD → Prop := fun x ds M k => match x, ds with
  | .cel a, [y] => (match M a with
    | some (.lst xs) => ∃ ps p j, toPs M xs = some ps ∧ toP M y = some p ∧ PyData.plainAll ps = true ∧ p.plain = true ∧ p.depth ≤ 64 ∧ SeqAt.dataPlace ps p = some j ∧ k .non (setM M a (.lst (xs.eraseIdx j)))
    | _ => False)
  | _, _ => False
theorem mtd_rem : MtD K (rRemD K) rdRem := fun Fr H0 M H v d vs ds k Q w r rs h c => by
  unfold rdRem at h
  split at h
  · rename_i a y
    split at h
    · rename_i xs em
      obtain ⟨ps, p, j, e1, e2, p1, p2, p3, hj, q⟩ := h
      obtain ⟨u, rfl, ru⟩ := dats1 rs
      cases r
      obtain ⟨_, o, ho, ck⟩ := w.mem a _ em
      cases ck with
      | lst hd => exact ⟨a, u, _, ps, p, j, rfl, rfl, ho, toPs_ok w xs _ ps hd e1, toP_ok w y u p ru e2, p1, p2, p3, hj, c _ H0 _ _ _ (Same.refl _) (w.set em (.lst (hd.eraseIdx j))) .non q⟩
    · exact h.elim
  · exact h.elim
theorem de_rem {o : Expr} {apos cpos : Pos} {wo we : WE} {e : Expr} (hu : X.A.units + 66 < cLine) (ho : DE X o wo) (he : DE X e we)
    (hs : starEach [e] X.env = [(false, eval e X.env)] := by rfl)
    (hbase : attributeBase o "remove" X.env (eval o X.env) = eval o X.env := by rfl)
    (hfew : ((backTo cpos (starEach [e] X.env)).all (fun x => !x.1) && (backToKw cpos (keywordEach [] X.env)).all (fun x => x.1.isSome)
      && decide ([e].length + ([] : List Keyword).length + (if ([] : List Keyword).isEmpty then 0 else 1) < 30)) = true := by rfl)
    (hline : (apos.endLine == cpos.line) = true := by rfl) (hplain : (backTo cpos (starEach [] X.env)).any (·.1) = false := by rfl) : DE X (.Call (.Attribute o "remove" apos) [e] [] cpos) (wMt rdRem wo (wCons we wNil)) :=
  de_mt PySem.F.slot_list_remove PySem.F.type_list_remove (mt_remD hu) mtd_rem ho (da_cons he da_nil hs) hbase hfew hline hs hplain
theorem nu {k : Nat} {A : Around} (hr : DG.RoomG k A) : A.units + 9 < cLine := by have := hr.r.un; omega
theorem ru {k : Nat} {A : Around} (hr : DG.RoomG k A) : A.units + 66 < cLine := by have := hr.r.un; omega
/-- // by a positive divisor of any size that counts -/
theorem de_divW {a b : Expr} {wa wb : WE} {pos : Pos} (ha : DE X a wa) (hb : DE X b wb) : DE X (.BinOp a .FloorDiv b pos) (wOp (rdI CDivW fun i j => .int (i / j)) wa wb) := de_op op_fdivW (opd_I fun _ _ _ => .int _) ha hb
theorem r_divW {i j : Int} {M : Mem} {k : KD} (h : 0 < j) (h' : j < 2 ^ 62) (hk : k (.int (i / j)) M) : rdI CDivW (fun i j => .int (i / j)) (.int i) (.int j) M k := ⟨wide_div (b := 62) h (by omega) (by decide) (by decide), hk⟩
end
end DL

set_option autoImplicit false
set_option maxRecDepth 100000
set_option maxHeartbeats 4000000
/-! data without cells whose numbers lie below 10 ** 18 -/
namespace DL
open PySem PySem.Spec PyProof.Rows L2
mutual
def purW : D → Bool
  | .non => true
  | .bl _ => true
  | .int i => decide (i.natAbs < 1000000000000000000)
  | .str s => plain s
  | .tup ds => pursW ds
  | .lst ds => pursW ds
  | _ => false
def pursW : List D → Bool
  | [] => true
  | d :: ds => purW d && pursW ds
end
theorem pdT (ds : List D) : pd (.tup ds) = .tuple (pds ds) := by rw [pd]
theorem pdL (ds : List D) : pd (.lst ds) = .list (pds ds) := by rw [pd]
theorem logW {i : Int} (h : i.natAbs < 1000000000000000000) : i.natAbs.log2 < 60 := by
  by_cases z : i.natAbs = 0
  · rw [z]; decide
  · exact (Nat.log2_lt z).mpr (by omega)
mutual
theorem purW_R (M : Mem) : ∀ d, purW d = true → toR M d = some (pd d) ∧ (pd d).showable = true ∧ (pd d).leavesShort 19 = true
  | .non, _ => ⟨by unfold toR pd; rfl, by unfold pd PyData.showable; rfl, by unfold pd PyData.leavesShort; rfl⟩
  | .bl _, _ => ⟨by unfold toR pd; rfl, by unfold pd PyData.showable; rfl, by unfold pd PyData.leavesShort; rfl⟩
  | .int i, h => by
    unfold purW at h
    have h := of_decide_eq_true h
    have := logW h
    refine ⟨by unfold toR pd; rfl, by unfold pd PyData.showable; exact decide_eq_true (by omega), ?_⟩
    unfold pd PyData.leavesShort
    refine decide_eq_true ?_
    have e := int_text_length_le10 (a := i) (k := 18) (by decide) (by simpa using h)
    show (Str.ofString (toString i)).length ≤ 19
    rw [PySem.ofString_length]; exact e
  | .str s, h => by
    refine ⟨by unfold toR pd; rfl, by unfold pd PyData.showable; rfl, ?_⟩
    unfold purW plain at h
    unfold pd PyData.leavesShort
    rw [List.all_eq_true] at h ⊢
    intro c hc
    have := of_decide_eq_true (h c hc)
    exact decide_eq_true (by omega)
  | .tup ds, h => by
    unfold purW at h
    obtain ⟨a, b, c⟩ := pursW_R M ds h
    exact ⟨by unfold toR pd; rw [a], by rw [pdT]; unfold PyData.showable; exact b, by rw [pdT]; unfold PyData.leavesShort; exact c⟩
  | .lst ds, h => by
    unfold purW at h
    obtain ⟨a, b, c⟩ := pursW_R M ds h
    exact ⟨by unfold toR pd; rw [a], by rw [pdL]; unfold PyData.showable; exact b, by rw [pdL]; unfold PyData.leavesShort; exact c⟩
  | .scr _, h => by unfold purW at h; cases h
  | .cel _, h => by unfold purW at h; cases h
  | .ty _, h => by unfold purW at h; cases h
theorem pursW_R (M : Mem) : ∀ ds, pursW ds = true → toRs M ds = some (pds ds) ∧ PyData.showableAll (pds ds) = true ∧ PyData.leavesShortAll 19 (pds ds) = true
  | [], _ => ⟨by unfold toRs pds; rfl, by unfold pds PyData.showableAll; rfl, by unfold pds PyData.leavesShortAll; rfl⟩
  | d :: ds, h => by
    unfold pursW at h
    rw [Bool.and_eq_true] at h
    obtain ⟨a, b, c⟩ := purW_R M d h.1
    obtain ⟨a2, b2, c2⟩ := pursW_R M ds h.2
    have e : pds (d :: ds) = pd d :: pds ds := by rw [pds]
    exact ⟨by unfold toRs; rw [a, a2, e], by rw [e]; unfold PyData.showableAll; rw [b, b2]; rfl, by rw [e]; unfold PyData.leavesShortAll; rw [c, c2]; rfl⟩
end
/-- such data, how much of it, how deep -/
structure Pw (a b : Nat) (d : D) : Prop where
  ok : purW d = true
  hv : (pd d).weight ≤ a
  fr : (pd d).depth ≤ b
theorem Pw.up {a b a' b' : Nat} {d : D} (h : Pw a b d) (h1 : a ≤ a') (h2 : b ≤ b') : Pw a' b' d := ⟨h.ok, Nat.le_trans h.hv h1, Nat.le_trans h.fr h2⟩
theorem r_reprW {a b : Nat} {d : D} {M : Mem} {k : KD} (h : Pw a b d) (ha : a ≤ 600000) (hb : b ≤ 64) (hk : k (.str (pd d).shown) M) : rdRepr [d] M k := by
  obtain ⟨e, f, g⟩ := purW_R M d h.ok
  unfold rdRepr
  simp only [e]
  have := h.hv
  have := h.fr
  have z := PyData.shown_le 19 (by decide) (pd d) g
  have := sizeLine_eq
  exact ⟨f, by omega, by omega, hk⟩
end DL

set_option autoImplicit false
set_option maxRecDepth 100000
set_option maxHeartbeats 4000000
/-! a list that nobody will change again: no cell any more -/
namespace DL
open PySem PySem.Spec PyProof.Rows L2
def delM (M : Mem) (a : Addr) : Mem := fun b => if b = a then none else M b
theorem delM_ne {M : Mem} {a b : Addr} (h : b ≠ a) : delM M a b = M b := by unfold delM; rw [if_neg h]
theorem delM_same {M : Mem} {a : Addr} : delM M a a = none := by unfold delM; rw [if_pos rfl]
theorem Wd.freeze {K : PySem.W.Frag} {Fr H0 H : Hp} {M : Mem} {a : Addr} {ds : List D} (w : Wd K Fr H0 M H) (h : M a = some (.lst ds)) : ∃ vs, Dats K H0 vs ds ∧ H0 a = none ∧ Wd K Fr (upd H0 a (.lst vs)) (delM M a) H := by
  obtain ⟨h0, o, ho, ck⟩ := w.mem a _ h
  cases ck with
  | lst hd =>
    refine ⟨_, hd, h0, fun b u e => ?_, fun b c e => ?_, fun b u e => ?_, fun P x e => ?_⟩
    · by_cases hb : b = a
      · subst hb; rw [upd_same] at e; rw [ho]; exact e
      · rw [upd_ne hb] at e; exact w.ex b u e
    · by_cases hb : b = a
      · subst hb; rw [delM_same] at e; cases e
      · rw [delM_ne hb] at e
        obtain ⟨h1, o', h2, h3⟩ := w.mem b c e
        exact ⟨by rw [upd_ne hb]; exact h1, o', h2, h3.mono (same_new h0)⟩
    · obtain ⟨h1, h2, h3⟩ := w.fr b u e
      have hb : b ≠ a := fun z => by rw [z, h] at h2; cases h2
      exact ⟨by rw [upd_ne hb]; exact h1, by rw [delM_ne hb]; exact h2, h3⟩
    · have hb : P ≠ a := fun z => by rw [← z, w.tb P x e] at h; cases h
      rw [delM_ne hb]; exact w.tb P x e
section
variable {X : Cx} {e : Expr}
def rdFrz (d : D) (M : Mem) (k : KD) : Prop := ∃ a ds, d = .cel a ∧ M a = some (.lst ds) ∧ k (.lst ds) (delM M a)
def wFrz (we : WE) : WE := fun Γ M k => we Γ M fun d M1 => rdFrz d M1 k
theorem de_frz {we : WE} (he : DE X e we) : DE X e (wFrz we) :=
  de_of he.run fun σ H Q Γ Fr H0 M k h1 h2 h3 h4 => ⟨Γ, Fr, H0, M, _, h1, h2, h3, fun v H1 H' d M' e1 w1 r1 q1 => by
    obtain ⟨a, ds, rfl, em, q⟩ := q1
    cases r1
    obtain ⟨vs, hd, h0, w2⟩ := w1.freeze em
    exact h4 _ _ H' _ _ (e1.trans (same_new h0)) w2 (.lst upd_same (hd.mono (same_new h0))) q⟩
/-- names out of a list -/
def gL (gs : List D → Env → Option Env) : D → Env → Option Env := fun d Γ => match d with | .lst ds => gs ds Γ | _ => none
theorem gd_lst {K : PySem.W.Frag} {n : Nat} {gs : TGs} {own : List Nat} {gds : List D → Env → Option Env} (h : GDs K gs own gds) (hn : ∀ ds Γ Γ', gds ds Γ = some Γ' → ds.length = n) : GD K (gLst K n gs) own (gL gds) := fun Fr H0 M H σ Γ Γ' v d Q s w r e q => by
    cases r with
    | lst hs hd =>
      rename_i a vs ds
      exact ⟨a, vs, rfl, .of (w.ex _ _ hs), by rw [hd.length]; exact hn ds Γ Γ' e, h Fr H0 M H σ Γ Γ' vs ds Q s w hd e q⟩
    | _ => cases e
theorem dg_lst {ts : List Expr} {k n : Nat} {gs : TGs} {own : List Nat} {gds : List D → Env → Option Env} {pos : Pos} (hc : X.calm = true) (h : DGs X ts gs own gds) (hn : ∀ ds Γ Γ', gds ds Γ = some Γ' → ds.length = n) (hl : (assignEach ts X.env).length = n := by rfl) (hst : (assignEach ts X.env).findIdx? (·.1) = none := by rfl) :
    DG X (.Tuple ts k pos) (gLst X.K n gs) own (gL gds) := ⟨pg_lst hc h.pg hl hst, gd_lst h.gd hn⟩
end
end DL

set_option autoImplicit false
set_option maxRecDepth 100000
set_option maxHeartbeats 4000000
/-! comprehensions of dicts, whatever the kind of their keys -/
namespace DL
open PySem PySem.Spec PyProof.Rows L2
/-- a kind of dicts: what a new one is, what a store does -/
structure DKnd (P : Program) (w : World) (K : PySem.W.Frag) (A : Around) where
  fst : Addr → HO
  fresh : ∀ (H : Hp) (h : Heap), sysModules < h.objs.size → ObjOk P w H (h.push { cls := .type "dict", data := .dict #[] }) h.objs.size (fst h.objs.size)
  stp : Addr → V → V → Hp → (Hp → Prop) → Prop
  run : ∀ (Y : Cx), Y.prog = P → Y.w = w → Y.K = K → Y.A = A → ∀ (pn : List (Addr × Obj)) (σ : L2.St) (H : Hp) (t : Shared) (D : Addr) (y z : V) (u r : Value) (N : Hp → Prop) (E : Value → Shared → Prop) (Q : Unit → Shared → Prop),
    Inv Y pn σ H t → RelV y u → RelV z r → stp D y z H N → (∀ H' t', Inv Y pn σ H' t' → N H' → Q () t') → wpAny (model P w) A (dictSet D u r) Q E t
abbrev blkOf (X : Cx) (t : Shared) (H : Hp) (sc : Scope) (C : Addr) (cl : List (Str × Addr)) (fp : List Addr) : Cx := X.blk t H sc (compEnvC sc cl C X.env) fp
def tDcG {P : Program} {w : World} {K : PySem.W.Frag} {A : Around} (κ : DKnd P w K A) (wi : TI) (g : TG) (tt : TT) (tk tv : TE) (vs : List Nat) : TE := fun σ H Q =>
  wi σ H fun J H1 => ∀ D, H1 D = none → (D == sysModules) = false → ∃ Z : Nat → Nat → Hp → Prop, (∃ n, Z 0 n (upd H1 D (κ.fst D))) ∧ ∀ j n H2, Z j n H2 →
    (J.stop j H2 ∧ Q (.ref D) H2) ∨ (J.go j H2 ∧ ∃ N : Hp → Prop, (∀ H3, N H3 → ∃ n', n' < n ∧ Z (j + 1) n' H3) ∧
      ∀ x H3, J.yld j H2 x H3 → g x (wipe σ vs) H3 fun ρ H4 => wipe ρ vs = wipe σ vs ∧ tt ρ H4 fun b H5 => if b = true then tk ρ H5 fun y H6 => tv ρ H6 fun z H7 => κ.stp D y z H7 N else N H5)
section
variable {X : Cx} {pn : List (Addr × Obj)} {t0 : Shared} {σ : L2.St} {H0 : Hp} {Q : VK} {kx vx tg iter : Expr} {ifs : List Expr} {sc : Scope} {own : List (Str × Nat)} {pos pos' : Pos} {wi : TI} {g : TG} {tt : TT} {tk tv : TE}
theorem dcG_core (κ : DKnd X.prog X.w X.K X.A) {use : Option (Value → Sem Unit)} {Qf : Value → Shared → Prop} (calm : X.calm = true) (nd : X.N.Nodup) (I : Inv X pn σ H0 t0) (pi : PI X tg iter wi) (ok : BlkOk X.N X.env.scope sc own)
    (pg : ∀ t H C cl fp, PG (blkOf X t H sc C cl fp) tg g) (pt : ∀ t H C cl fp, PTs (blkOf X t H sc C cl fp) ifs tt) (pk : ∀ t H C cl fp, PE (blkOf X t H sc C cl fp) kx tk) (pv : ∀ t H C cl fp, PE (blkOf X t H sc C cl fp) vx tv)
    (fold : ∀ x, foldedSetIterable iter X.env x = pure x) (hyp : tDcG κ wi g tt tk tv (own.map (·.2)) σ H0 Q)
    (fin : ∀ D C t' m H', Inv X pn σ H' t' → Q (.ref D) H' → t'.heap.Ns C m → FpOk X pn H' C → compPost (model X.prog X.w) X.A X.xe use Qf (.ref D) C (.ok .next) t') :
    wpAny (model X.prog X.w) X.A (comprehension (.DictComp kx vx [⟨tg, iter, ifs, 0⟩] sc pos) sc X.env pos' newDict false (eval iter X.env) use) Qf X.xe t0 := by
  have free : ∀ y ∈ sc.names, y.2 = .free → ∃ c, X.env.cells.lookup y.1 = some c := by
    intro y hy ey
    exact (ok.free y hy ey).elim (fun q => I.ok.has _ (.inl q)) fun q => I.ok.has _ (.inr q)
  refine wpAny_comprehension_free (use := use) rfl fold (closure_ok free) ok.kind (fun y hy ey => by rw [ok.uniq y hy, ey]) ?_
  refine thn (pi.run pn t0 σ H0 _ I hyp) fun _ t1 h1 => thn h1 fun _ t2 h2 => ?_
  obtain ⟨it, fp, tn, J, H2, rfl, I2, T, at2, fps, q⟩ := h2
  refine wpAny_newObj_type (newEnv_comp ?_)
  have big := I2.big
  generalize eD : t2.heap.objs.size = D at big
  obtain ⟨Z, ⟨n0, z0⟩, turn⟩ := q D (I2.hok.fresh (Nat.le_of_eq eD)) (beq_eq_false_iff_ne.mpr (Ne.symm (Nat.ne_of_lt big)))
  generalize e3 : ({ t2 with heap := t2.heap.push { cls := .type "dict", data := .dict #[] } } : Shared) = t3
  have hp3 : t3.heap = t2.heap.push { cls := .type "dict", data := .dict #[] } := by rw [← e3]
  have I3 : Inv X pn σ (upd H2 D (κ.fst D)) t3 := by
    rw [← e3]
    refine I2.laid (t' := t2.toks) (fun b o e => Heap.get?_push_of_some _ e) (Nat.le_of_eq eD) ?_
    rw [← eD]
    exact κ.fresh _ _ (by rw [eD]; exact big)
  have old : ∀ b ∈ fp, b < t2.heap.objs.size := fun b hb => let ⟨_, e, _⟩ := T.obj _ _ at2 b hb; Heap.lt_size e
  have fps3 : ∀ b ∈ fp, FpOk X pn (upd H2 D (κ.fst D)) b ∧ b < t3.heap.objs.size := fun b hb => by
    refine ⟨⟨?_, (fps b hb).2⟩, ?_⟩
    · rw [upd_ne (by rw [← eD]; exact Nat.ne_of_lt (old b hb))]; exact (fps b hb).1
    · rw [hp3, Heap.size_push]; exact Nat.lt_succ_of_lt (old b hb)
  have at3 : tn 0 t3.heap := T.keep _ _ _ at2 fun b _ o e => by rw [hp3]; exact Heap.get?_push_of_some _ e
  have I4 := block_start I3 ok nd fps3
  generalize eH : upd H2 D (κ.fst D) = H3 at I3 I4 z0 fps3
  have g' := pg t3 H3 t3.heap.objs.size (cellsFrom (t3.heap.objs.size + 1) sc.names (cloFrom X.env.cells sc.names [])) fp
  have t' := pt t3 H3 t3.heap.objs.size (cellsFrom (t3.heap.objs.size + 1) sc.names (cloFrom X.env.cells sc.names [])) fp
  have k' := pk t3 H3 t3.heap.objs.size (cellsFrom (t3.heap.objs.size + 1) sc.names (cloFrom X.env.cells sc.names [])) fp
  have v' := pv t3 H3 t3.heap.objs.size (cellsFrom (t3.heap.objs.size + 1) sc.names (cloFrom X.env.cells sc.names [])) fp
  unfold blkOf at g' t' k' v'
  have out3 : ∀ b ∈ fp, H3 b = none := fun b hb => (fps3 b hb).1.1
  show codeAny _ _ (.compStart _ 0 (.ref it) (.ref D) (compEnvC sc (cellsFrom (t3.heap.objs.size + 1) sc.names (cloFrom X.env.cells sc.names [])) t3.heap.objs.size X.env))
    (compPost _ X.A X.xe use Qf (.ref D) t3.heap.objs.size) { t3 with heap := pushCells (t3.heap.push { cls := .type "dict", data := .dict #[] }) sc.names }
  generalize ece : compEnvC sc (cellsFrom (t3.heap.objs.size + 1) sc.names (cloFrom X.env.cells sc.names [])) t3.heap.objs.size X.env = ce at I4 g' t' k' v' ⊢
  have loc : ce.locals = t3.heap.objs.size := by subst ece; rfl
  generalize e4 : ({ t3 with heap := pushCells (t3.heap.push { cls := .type "dict", data := .dict #[] }) sc.names } : Shared) = t4 at I4 ⊢
  have at4 : tn 0 t4.heap := T.keep _ _ _ at3 fun b _ o e => by rw [← e4]; exact pushCells_keeps _ _ _ _ (Heap.get?_push_of_some _ e)
  have stat : ∀ {ρ : L2.St} {H : Hp} {t : Shared}, Inv (X.blk t3 H3 sc ce fp) [] ρ H t → (∀ b ∈ fp, H b = none) → ∀ b ∈ fp, FpOk (X.blk t3 H3 sc ce fp) [] H b := by
    intro ρ H t J' no b hb
    exact ⟨no b hb, (J'.ok.exf b hb).1, J'.ok.exfs b hb, .inl hb, fun x c e => (J'.ok.exf b hb).2 x c e, fun p hp => absurd (show p ∈ ([] : List (Addr × Obj)) ++ [] from hp) (by simp)⟩
  have loop : codeAny (model X.prog X.w) X.A (.compLoop (.DictComp kx vx [⟨tg, iter, ifs, 0⟩] sc pos) 0 (.ref it) (.ref D) ce) (compPost (model X.prog X.w) X.A X.xe use Qf (.ref D) t3.heap.objs.size) t4 := by
    refine compLoop_anyD (fun n t => ∃ j H, Inv (X.blk t3 H3 sc ce fp) [] (wipe σ (own.map (·.2))) H t ∧ tn j t.heap ∧ (∀ b ∈ fp, H b = none) ∧ Z j n H) ?_ n0 ⟨0, H3, I4, at4, out3, z0⟩
    rintro n t5 ⟨j, H5, I5, at5, out5, z5⟩
    rcases turn j n H5 z5 with ⟨stop, qq⟩ | ⟨go, N, hN, step⟩
    · refine thnF (T.done (X.blk t3 H3 sc ce fp) rfl rfl rfl calm j [] t5 _ H5 (fun _ _ => False) I5 (stat I5 out5) at5 stop) fun r t6 ⟨er, I6⟩ => ?_
      subst er
      have I7 : Inv X pn σ H5 t6 := I3.call' (ch := fp) I6.os I6.base I6.hok I6.bare fun b hb =>
        let f := (fps3 b hb).1
        ⟨f.2.2.2.1, f.2.1, f.2.2.2.2.1, f.2.2.2.2.2⟩
      have none5 : H5 t3.heap.objs.size = none := by rw [← loc]; exact (show H5 ce.locals = none from I6.free)
      obtain ⟨m, hm, _⟩ := I6.loc
      have hm : t6.heap.Ns ce.locals m := hm
      rw [loc] at hm
      exact fin D t3.heap.objs.size t6 m H5 I7 qq hm (I3.fpOk (Nat.le_refl _) none5)
    · refine thnF (T.item (X.blk t3 H3 sc ce fp) rfl rfl rfl calm j [] t5 _ H5 (fun _ _ => False) I5 (stat I5 out5) at5 go) fun r t6 ⟨u, er, h6⟩ => ?_
      subst er
      refine thnF h6 fun _ t7 ⟨x, H7, I7, r7, y7, at7, out7⟩ => ?_
      have pin7 := I7.pinned (stat I7 out7) (T.obj _ _ at7)
      refine thnF (g'.run _ t7 _ H7 x u _ pin7 r7 (step x H7 y7)) fun _ t8 ⟨ρ, H8, I8, hw8, q8⟩ => ?_
      refine thnF (t'.run _ t8 ρ H8 _ I8 q8) fun b t9 ⟨H9, I9, q9⟩ => ?_
      have back : ∀ {H : Hp} {t : Shared}, Inv (X.blk t3 H3 sc ce fp) ([] ++ pinsAt fp t7.heap) ρ H t → N H → ∃ m, m < n ∧ ∃ j H, Inv (X.blk t3 H3 sc ce fp) [] (wipe σ (own.map (·.2))) H t ∧ tn j t.heap ∧ (∀ b ∈ fp, H b = none) ∧ Z j m H := by
        intro H t J' nx
        obtain ⟨m, hm, zm⟩ := hN H nx
        have same : ∀ b ∈ fp, ∀ o, t7.heap.get? b = some o → t.heap.get? b = some o ∧ H b = none := fun b hb o e =>
          have w := J'.pin (b, o) (List.mem_append_right _ (List.mem_append_right _ (mem_pinsAt hb e)))
          ⟨w.1, w.2.1⟩
        refine ⟨m, hm, j + 1, H, ?_, T.keep _ _ _ at7 fun b hb o e => (same b hb o e).1, fun b hb => ?_, zm⟩
        · refine (J'.unpinned (pins := [])).weak (by rw [← hw8, wipe_length]) fun i v e => ?_
          rw [← hw8] at e; exact (wipe_some e).1
        · obtain ⟨o, e, _⟩ := T.obj _ _ at7 b hb
          exact (same b hb o e).2
      cases b with
      | false =>
        simp only [Bool.false_eq_true, if_false] at q9 ⊢
        exact back I9 q9
      | true =>
        simp only [if_true] at q9 ⊢
        refine thnF (k'.run _ t9 ρ H9 _ I9 q9) fun uy ta ⟨y, Ha, Ia, ry, qa⟩ => ?_
        refine thnF (v'.run _ ta ρ Ha _ Ia qa) fun uz tb ⟨z, Hb, Ib, rz, qb⟩ => ?_
        exact κ.run (X.blk t3 H3 sc ce fp) rfl rfl rfl rfl _ ρ Hb tb D y z uy uz N _ _ Ib ry rz qb fun Hc tc Ic nx => back Ic nx
  exact codeAny_compStart_dict loop (T.self X.A 0 _ _ _ at4 loop)
/-- as a value -/
theorem pe_dcG (κ : DKnd X.prog X.w X.K X.A) (calm : X.calm = true) (nd : X.N.Nodup) (pi : PI X tg iter wi) (ok : BlkOk X.N X.env.scope sc own) (pg : ∀ t H C cl fp, PG (blkOf X t H sc C cl fp) tg g) (pt : ∀ t H C cl fp, PTs (blkOf X t H sc C cl fp) ifs tt)
    (pk : ∀ t H C cl fp, PE (blkOf X t H sc C cl fp) kx tk) (pv : ∀ t H C cl fp, PE (blkOf X t H sc C cl fp) vx tv) (fold : ∀ x, foldedSetIterable iter X.env x = pure x := by intro _; rfl) : PE X (.DictComp kx vx [⟨tg, iter, ifs, 0⟩] sc pos) (tDcG κ wi g tt tk tv (own.map (·.2))) := by
  refine ⟨fun pn t0 σ H0 Q I hyp => ?_⟩
  rw [arm_eval_DictComp]
  refine dcG_core κ calm nd I pi ok pg pt pk pv fold hyp fun D C t' m H' I' q hm f => ⟨m, hm, fun h'' sb => ?_⟩
  obtain ⟨f0, f1, f2, f3, f4, f5⟩ := f
  exact ⟨.ref D, H', I'.turned (t' := t'.toks) (fun b o hb e => (sb.2 b hb).trans e) f0 f1 f3 f4 f5, rfl, q⟩
end
end DL

set_option autoImplicit false
set_option maxRecDepth 100000
set_option maxHeartbeats 4000000
/-! comprehensions of dicts whose keys are tuples -/
namespace DL
open PySem PySem.Spec PyProof.Rows L2
def kndN (P : Program) (w : World) (K : PySem.W.Frag) (A : Around) (hu : A.units + 9 < cLine) : DKnd P w K A where
  fst D := .ext (DObj w D none [])
  fresh H h _ := by
    obtain ⟨o, es, ep, h1, h2, h3, h4, _⟩ := Heap.DictOfH.new (knd := nestedKind P w) h
    exact ⟨⟨o, es, ep, h1, fun _ z => (by cases z), h2, h3, h4⟩, ⟨o, h1⟩, dobj_keeps⟩
  stp D y z H N := ∃ b lk xs ks, y = .ref b ∧ H D = some (.ext (DObj w D lk xs)) ∧ (xs.map (·.1)).Nodup ∧ xs.length < sizeLine ∧ (D == sysModules) = false ∧
    (∃ Hk, Same Hk H ∧ ∀ x ∈ xs, Dat K Hk (.ref x.2.1) (kD x.1) ∧ x.1.depth ≤ 8) ∧ ((NestedKey.tup ks).depth ≤ 8 ∧ ∃ Hk, Same Hk H ∧ Dat K Hk (.ref b) (kD (.tup ks))) ∧
    ∀ u, RelV z u → N (upd H D (.ext (DObj w D none (storedH xs (.tup ks) b u))))
  run Y hP hw hK hA pn σ H t D y z u r N E Q I ry rz h q := by
    subst hP hw hK hA
    obtain ⟨b, lk, xs, ks, rfl, h1, h2, h3, h4, h5, h6, hN⟩ := h
    cases ry
    have nd : ND Y H D lk xs := ⟨h1, h2, Nat.le_of_lt h3, h4, h5⟩
    refine wpAny_dictSet_heap (hsz := nd.sz) (knd := nestedKind Y.prog Y.w) (show Y.A.units + 8 < cLine by omega) (nk_is I h6) (nd_dict I nd) fun h' dd' hs' => q _ _ ?_ (hN r rz)
    have he : ∃ o, h'.get? D = some o := let ⟨o, _, _, ho, _⟩ := dd'; ⟨o, ho⟩
    exact d_write I (by rw [h1]; exact True.intro) hs' he (dobj_ok dd')
def dcD (gd : D → Env → Option Env) (wt : WT) (wk wv : WE) (w : World) (G : Mem → Prop) (Γ : Env) (p : Addr) : List D → Mem → (Mem → Prop) → Prop
  | [], M, k => G M ∧ k M
  | d :: ds, M, k => G M ∧ match gd d Γ with
    | some Γ' => wt Γ' M fun b M1 => if b = true then wk Γ' M1 fun y M2 => wv Γ' M2 fun z M3 => rdNPut w (.cel p) y z M3 fun M4 => dcD gd wt wk wv w G Γ p ds M4 k else dcD gd wt wk wv w G Γ p ds M1 k
    | none => False
def wDcN (w : World) (wi : WI) (gd : D → Env → Option Env) (wt : WT) (wk wv : WE) (vs : List Nat) : WE := fun Γ M k =>
  wi Γ M fun its G M1 => ∀ p, M1 p = none → dcD gd wt wk wv w G (wipeD Γ vs) p its (setM M1 p (.dnt w p none [])) fun M2 => k (.cel p) M2
section
variable {X : Cx}
theorem dcN_heart {hu : X.A.units + 9 < cLine} {g : TG} {own : List Nat} {gd : D → Env → Option Env} {wt : WT} {wk wv : WE} {vs : List Nat} {Qd : Hp → Prop} {kd : Mem → Prop} (hg : GD X.K g own gd) (ho : ∀ i ∈ own, i ∈ vs) {σ : L2.St} {H H0 Fr : Hp} {Γ : Env} {M : Mem} {J : It} {its : List D} {G : Mem → Prop} {p : Addr}
    (s : Slots X.K H0 σ Γ) (w : Wd X.K Fr H0 M H) (wlk : Walks X.K J H0 its G) (h : dcD gd wt wk wv X.w G (wipeD Γ vs) p its M kd) (hk : ∀ H1 H' M', Same H0 H1 → Wd X.K Fr H1 M' H' → kd M' → Qd H') :
    ∃ Z : Nat → Nat → Hp → Prop, (∃ n, Z 0 n H) ∧ ∀ j n H2, Z j n H2 → (J.stop j H2 ∧ Qd H2) ∨ (J.go j H2 ∧ ∃ N : Hp → Prop, (∀ H3, N H3 → ∃ n', n' < n ∧ Z (j + 1) n' H3) ∧
      ∀ x H3, J.yld j H2 x H3 → g x (wipe σ vs) H3 fun ρ H4 => wipe ρ vs = wipe σ vs ∧ liftT X.K wt ρ H4 fun b H5 => if b = true then liftE X.K wk ρ H5 fun y H6 => liftE X.K wv ρ H6 fun z H7 => (kndN X.prog X.w X.K X.A hu).stp p y z H7 N else N H5) := by
  refine ⟨fun j n H2 => n = its.length - j ∧ j ≤ its.length ∧ ∃ H1 M, Same H0 H1 ∧ Wd X.K Fr H1 M H2 ∧ dcD gd wt wk wv X.w G (wipeD Γ vs) p (its.drop j) M kd, ⟨its.length, by simp, Nat.zero_le _, H0, M, Same.refl _, w, h⟩, ?_⟩
  rintro j n H2 ⟨rfl, hle, H1, M1, e1, w1, q1⟩
  by_cases hlt : j < its.length
  · right
    rw [drop_cons hlt] at q1
    obtain ⟨g1, q1⟩ := q1
    obtain ⟨k1, k2, k3⟩ := wlk _ H1 M1 H2 e1 w1 g1
    refine ⟨k1 j hlt, fun H3 => ∃ H1 M, Same H0 H1 ∧ Wd X.K Fr H1 M H3 ∧ dcD gd wt wk wv X.w G (wipeD Γ vs) p (its.drop (j + 1)) M kd, fun H3 z => ⟨its.length - (j + 1), by omega, rfl, hlt, z⟩, fun x H3 y => ?_⟩
    obtain ⟨H1', e2, w2, r2⟩ := k3 j x H3 its[j] (List.getElem?_eq_getElem hlt) y
    split at q1
    · rename_i Γ' eg
      refine hg _ H1' M1 H3 _ _ Γ' x its[j] _ ((s.wipe vs).mono (e1.trans e2)) w2 r2 eg fun σ' s' hout hlen => ⟨?_, ?_⟩
      · rw [← wipe_wipe σ vs]
        exact wipe_eq hlen fun i hi => hout i fun z => hi (ho i z)
      · refine ⟨Γ', _, H1', M1, _, s', w2, q1, fun b H5 H5' M5 e5 w5 q5 => ?_⟩
        cases b with
        | true =>
          rw [if_pos rfl] at q5 ⊢
          refine ⟨Γ', _, H5, M5, _, s'.mono e5, w5, q5, fun vy H6 H6' dy M6 e6 w6 r6 q6 => ?_⟩
          refine ⟨Γ', _, H6, M6, _, s'.mono (e5.trans e6), w6, q6, fun vz H7 H7' dz M7 e7 w7 r7 q7 => ?_⟩
          obtain ⟨a, lk, kvs, ks, ea, em, nk, hz, q⟩ := q7
          cases ea
          obtain ⟨xs, hn, hp⟩ := nd_of w7 em
          have r6' := r6.mono e7
          obtain ⟨b, rfl, nk'⟩ := nk_dat w7.ex r6' nk rfl
          refine ⟨b, lk, xs, ks, rfl, hn.at_, hn.nd, by rw [Paired.length hp]; exact hz, hn.ns, hn.ks, nk', fun u ru => ?_⟩
          refine ⟨H7, _, (e1.trans e2).trans (e5.trans (e6.trans e7)), w7.set em (.dnt (n_put hp (nk.1 ▸ r6') nk.2 ru r7) (storedH_nodup hn.nd _ _ _) ?_ hn.ns), q⟩
          have l1 := length_storedH xs (.tup ks) b u
          have l2 := Paired.length hp
          omega
        | false =>
          rw [if_neg Bool.false_ne_true] at q5 ⊢
          exact ⟨H5, M5, (e1.trans e2).trans e5, w5, q5⟩
    · exact q1.elim
  · left
    have ej : j = its.length := by omega
    subst ej
    rw [List.drop_length] at q1
    exact ⟨(wlk _ H1 M1 H2 e1 w1 q1.1).2.1, hk H1 H2 M1 e1 w1 q1.2⟩
theorem de_dcN {kx vx tg iter : Expr} {ifs : List Expr} {scope : Scope} {own : List (Str × Nat)} {pos : Pos} {wi : WI} {g : TG} {ow : List Nat} {gd : D → Env → Option Env} {wt : WT} {wk wv : WE} {w : World} (hu : X.A.units + 9 < cLine) (hc : X.calm = true) (hN : X.N.Nodup) (hi : DI X tg iter wi) (ok : BlkOk X.N X.env.scope scope own)
    (hg : ∀ t H C cl fp, DG (blkOf X t H scope C cl fp) tg g ow gd) (hgd : GD X.K g ow gd) (ht : ∀ t H C cl fp, DTs (blkOf X t H scope C cl fp) ifs wt) (hk : ∀ t H C cl fp, DE (blkOf X t H scope C cl fp) kx wk) (hv : ∀ t H C cl fp, DE (blkOf X t H scope C cl fp) vx wv)
    (ho : ∀ i ∈ ow, i ∈ own.map (·.2) := by decide) (hs : ∀ x, foldedSetIterable iter X.env x = pure x := by intro _; rfl) (hw : X.w = w := by rfl) : DE X (.DictComp kx vx [⟨tg, iter, ifs, 0⟩] scope pos) (wDcN w wi gd wt wk wv (own.map (·.2))) := by
  subst hw
  refine de_of (pe_dcG (tt := liftT X.K wt) (tk := liftE X.K wk) (tv := liftE X.K wv) (kndN X.prog X.w X.K X.A hu) hc hN hi.pi ok (fun t H C cl fp => (hg t H C cl fp).pg) (fun t H C cl fp => (ht t H C cl fp).run) (fun t H C cl fp => (hk t H C cl fp).run) (fun t H C cl fp => (hv t H C cl fp).run) hs) fun σ H Q Γ Fr H0 M k h1 h2 h3 h4 => ?_
  refine ⟨Γ, Fr, H0, M, _, h1, h2, h3, fun J its G H1 H0' M' e1 w1 q1 wlk p hp hps => ?_⟩
  exact dcN_heart (Qd := fun H => Q (.ref p) H) hgd ho (h1.mono e1) (w1.newM hp (.dnt .nil List.nodup_nil (Nat.zero_le _) hps)) wlk (q1 p (w1.freshM hp)) fun H2 H' M2 e2 w2 qk => h4 _ H2 H' _ M2 (e1.trans e2) w2 (.cel p) qk
end
end DL

set_option autoImplicit false
set_option maxRecDepth 100000
set_option maxHeartbeats 4000000
/-! a range as a value, walked later -/
namespace DL
open PySem PySem.Spec PyProof.Rows L2
section
variable {X : Cx} {K : PySem.W.Frag} {e a : Expr}
theorem cr_range1 : CallR X (.type "range") (fun vs H Q => ∃ j, vs = [V.int j] ∧ ∀ p, H p = none → Q (.ref p) (upd H p (.rng 0 j))) := by
  intro pins s σ H vs us Q I r h
  obtain ⟨j, rfl, q⟩ := h
  cases r with
  | cons r rr =>
    cases rr
    obtain ⟨t, rfl⟩ := r
    refine call_range_1 ⟨.ref s.heap.objs.size, _, I.laid (o := .rng 0 j) (t' := s.toks + 1 + 1) (fun b o z => Heap.get?_push_of_some _ z) (Nat.le_refl _) ?_, rfl, q _ (I.hok.fresh (Nat.le_refl _))⟩
    exact ⟨_, _, _, Heap.get?_push_size _ rfl⟩
def rdRange : FD := fun ds M k => match ds with
  | [.int n] => ∀ p, M p = none → k (.cel p) (setM M p (.rng 0 n))
  | _ => False
theorem calld_range : CallD K (fun vs H Q => ∃ j, vs = [V.int j] ∧ ∀ p, H p = none → Q (.ref p) (upd H p (.rng 0 j))) rdRange := fun Fr H0 M H vs ds k Q w r h c => by
  unfold rdRange at h
  split at h
  · obtain ⟨v, rfl, rv⟩ := dats1 r
    cases rv
    exact ⟨_, rfl, fun p hp => c _ H0 _ _ _ (Same.refl _) (w.newM hp (.rng 0 _)) (.cel p) (h p (w.freshM hp))⟩
  · exact h.elim
theorem de_rangeV {we : WE} {p pos : Pos} (hm : X.mg "range" = none) (he : DE X e we) (hs : starEach [e] X.env = (false, eval e X.env) :: starEach [] X.env := by rfl) (hg : Gl X "range" := by rfl) (hpl : (backTo pos (starEach [] X.env)).any (·.1) = false := by rfl) :
    DE X (.Call (.Name "range" p) [e] [] pos) (wCall rdRange (wCons we wNil)) :=
  de_callTy cr_range1 calld_range hm boot_range (da_cons he da_nil hs) hg (by decide) (by decide) hs hpl
def iRngV (td : TE) : TI := fun σ H R => td σ H fun x H1 => ∃ b lo hi, x = .ref b ∧ H1 b = some (.rng lo hi) ∧ (-(2 ^ 62) ≤ lo ∧ lo < 2 ^ 62 ∧ -(2 ^ 62) ≤ hi ∧ hi < 2 ^ 62) ∧ R (Itr lo (hi - lo).toNat) H1
theorem pi_rngV {tg l : Expr} {td : TE} (hl : PE X l td) : PI X tg l (iRngV td) := by
  refine ⟨fun pins s σ H R I h => ?_⟩
  refine thn (hl.run pins s σ H _ I h) fun v s1 ⟨x, H1, I1, rx, b, lo, hi, ex, hb, ⟨b1, b2, b3, b4⟩, q⟩ => ?_
  subst ex
  cases (show v = Value.ref b from rx)
  obtain ⟨t, u, w, ho⟩ := I1.hok b _ hb
  refine wpAny_pyIter_range (show IsRange s1.heap b lo hi 1 t u w from ho) (small_one b1 b2 b3 b4) (pi_one (tk := s1.toks) I1 _ (turn_range _ lo (hi - lo).toNat) ?_ q)
  have e1 : lo + ((0 : Nat) : Int) * 1 = lo := by omega
  have e2 : (((hi - lo).toNat : Nat) : Int) - ((0 : Nat) : Int) = Builtin.Range.rangeSize lo hi 1 := by rw [rangeSize_one]; split <;> omega
  show IsRangeIter _ _ (lo + ((0 : Nat) : Int) * 1) ((((hi - lo).toNat : Nat) : Int) - ((0 : Nat) : Int)) 1
  rw [e1, e2]
  exact Heap.get?_push_size _ rfl
def wiRv (we : WE) : WI := fun Γ M k => we Γ M fun d M1 => match d with
  | .cel b => ∃ lo hi, M1 b = some (.rng lo hi) ∧ (-(2 ^ 62) ≤ lo ∧ lo < 2 ^ 62 ∧ -(2 ^ 62) ≤ hi ∧ hi < 2 ^ 62) ∧ k (rng lo (hi - lo).toNat) gAny M1
  | _ => False
theorem di_rngV {tg l : Expr} {we : WE} (h : DE X l we) : DI X tg l (wiRv we) := ⟨_, pi_rngV h.run, fun σ H Γ Fr H0 M k R h1 h2 h3 h4 => ⟨Γ, Fr, H0, M, _, h1, h2, h3, fun v H1 H' d M' e1 w1 r1 q1 => by
  cases d with
  | cel b =>
    cases r1
    obtain ⟨lo, hi, em, hb, q⟩ := q1
    obtain ⟨_, o, ho, ck⟩ := w1.mem b _ em
    cases ck with
    | rng _ _ => exact ⟨b, lo, hi, rfl, ho, hb, h4 _ _ _ H' H1 M' e1 w1 q walks_rng⟩
  | _ => exact q1.elim⟩⟩
end
end DL

set_option autoImplicit false
set_option maxRecDepth 100000
set_option maxHeartbeats 4000000
/-! list(d.values()) -/
namespace DL
open PySem PySem.Spec PyProof.Rows L2
section
variable {X : Cx} {K : PySem.W.Frag} {o : Expr} {td : TE} {apos cpos : Pos}
abbrev viewO (v d : Addr) : HO := .ext fun h => h.IsValuesView v d
def tVals (td : TE) : TE := fun σ H Q => td σ H fun x H1 => ∃ d kvs, x = .ref d ∧ H1 d = some (.dK kvs) ∧ ∀ v, H1 v = none → Q (.ref v) (upd H1 v (viewO v d))
theorem view_keeps {v d : Addr} (h1 h2 : Heap) (h : h1.IsValuesView v d) (k : ∀ ob, h1.get? v = some ob → h2.get? v = some ob) : h2.IsValuesView v d := let ⟨ob, e, r⟩ := h; ⟨ob, k _ e, r⟩
theorem pe_vals (ho : PE X o td) (hbase : attributeBase o "values" X.env (eval o X.env) = eval o X.env := by rfl) (hline : (apos.endLine == cpos.line) = true := by rfl) : PE X (.Call (.Attribute o "values" apos) [] [] cpos) (tVals td) := by
  refine ⟨fun pins s σ H Q I h => ?_⟩
  refine wpAny_Call_method (T := "dict") (id := "dict.values") hbase rfl hline F.plainAttrs_dict F.slot_dict_values F.type_dict_values (thn (ho.run pins s σ H _ I h) fun u t ⟨x, G, J, rx, d, kvs, ex, hd, q⟩ => ?_)
  subst ex
  cases (show u = Value.ref d from rx)
  obtain ⟨z, ns, vs, rel, dd⟩ := dk_of J.hok hd
  refine ⟨dd.typeIs, dd.mapOf.noDict, ?_⟩
  show wpAny _ _ (callWith cpos (.builtin "dict.values") [.ref d] [] []) _ X.xe t
  have new : Inv X pins σ (upd G t.heap.objs.size (viewO t.heap.objs.size d)) { t with heap := t.heap.push { cls := .type "dict_values", data := .fields #[.ref d] } } :=
    J.laid (t' := t.toks) (fun b ob e => Heap.get?_push_of_some _ e) (Nat.le_refl _) ⟨⟨_, Heap.get?_push_size _ rfl, rfl, rfl⟩, ⟨_, Heap.get?_push_size _ rfl⟩, view_keeps⟩
  exact method_meetsIn F.slot_dict_values F.entry_dict_values rfl (PySem.evalArgs_none ⟨rfl, dd.typeIs, F.args_dict_values_1 _, _, meets_dict_values (mixKind X.prog X.w) d ns, ⟨vs, dd⟩, ⟨.ref t.heap.objs.size, _, new, rfl, q _ (J.hok.fresh (Nat.le_refl _))⟩⟩)
theorem vals_snd : ∀ {kvs : List (Key × V)} {vs : List (Key × Value)}, KV kvs vs → Vals (kvs.map (·.2)) (vs.map (·.2))
  | _, _, .nil => .nil
  | _, _, .cons h t => .cons h.2 (vals_snd t)
def rListV : List V → Hp → VK → Prop := fun xs H Q => ∃ v d kvs, xs = [.ref v] ∧ H v = some (viewO v d) ∧ H d = some (.dK kvs) ∧ ∀ l, H l = none → Q (.ref l) (upd H l (.lst (kvs.map (·.2))))
theorem cr_listV (hc : X.calm = true) : CallR X (.type "list") rListV := by
  intro pins s σ H xs us Q I r h
  obtain ⟨v, d, kvs, rfl, hv, hd, q⟩ := h
  cases r with
  | cons r rr =>
    cases rr
    cases r
    obtain ⟨z, ns, vs, rel, dd⟩ := dk_of I.hok hd
    obtain ⟨ep, hat⟩ := dd.dictAt
    have hl : kvs.length = vs.length := Paired.length rel
    refine PySem.W.kdl_call (PySem.W.kdl_values (knd := mixKind X.prog X.w) (kvs := vs) (ep := ep)) (I.ok.hd hc) ⟨(I.hok v _ hv).1, hat⟩ (by omega) fun h' tk acc c' kp e it => ?_
    have ea : acc.toList = vs.map (·.2) := PySem.W.kdl_vals_eq acc.toList (by rw [Array.length_toList]; exact it.1) fun j y hy => it.2 j y (by rw [← Array.getElem?_toList]; exact hy)
    refine ⟨.ref s.heap.objs.size, _, I.laid (t' := tk) (o := .lst (kvs.map (·.2))) kp (Nat.le_refl _) ⟨by rw [List.length_map]; exact z, acc.toList, c', by rw [ea]; exact vals_snd rel, by rw [Array.toArray_toList]; exact e⟩, rfl, q _ (I.hok.fresh (Nat.le_refl _))⟩
theorem dats_snd {H : Hp} : ∀ {kvs : List (Key × V)} {kds : List (Key × D)}, DKs K H kvs kds → Dats K H (kvs.map (·.2)) (kds.map (·.2))
  | _, _, .nil => .nil
  | _, _, .cons h t => .cons h.2 (dats_snd t)
/-- list(d.values()) -/
def wListV (we : WE) : WE := fun Γ M k => we Γ M fun d M1 => ∃ a kvs, d = .cel a ∧ M1 a = some (.dct kvs) ∧ k (.lst (kvs.map (·.2))) M1
theorem de_listV {we : WE} {p pos : Pos} (hc : X.calm = true) (hm : X.mg "list" = none) (ho : DE X o we) (hbase : attributeBase o "values" X.env (eval o X.env) = eval o X.env := by rfl) (hline : (apos.endLine == cpos.line) = true := by rfl)
    (hs : starEach [Expr.Call (.Attribute o "values" apos) [] [] cpos] X.env = (false, eval (.Call (.Attribute o "values" apos) [] [] cpos) X.env) :: starEach [] X.env := by rfl) (hg : Gl X "list" := by rfl) (hpl : (backTo pos (starEach [] X.env)).any (·.1) = false := by rfl) :
    DE X (.Call (.Name "list" p) [.Call (.Attribute o "values" apos) [] [] cpos] [] pos) (wListV we) :=
  de_of (pe_callTy (cr_listV hc) hg hm PyProof.Rows.boot_list (pa_cons (pe_vals ho.run hbase hline) pa_nil hs) (by decide) (by decide) hs hpl) fun σ H Q Γ Fr H0 M k h1 h2 h3 h4 => by
    refine ⟨Γ, Fr, H0, M, _, h1, h2, h3, fun v H1 H' d M' e1 w1 r1 q1 => ?_⟩
    obtain ⟨a, kvs, rfl, em, q⟩ := q1
    cases r1
    obtain ⟨_, ob, ho', ck⟩ := w1.mem a _ em
    cases ck with
    | dct hk =>
      refine ⟨a, _, rfl, ho', fun w hw => ?_⟩
      have wt := w1.tmp (o := viewO w a) hw
      have hwa : a ≠ w := ne_of_none ho' hw
      refine ⟨w, a, _, rfl, upd_same, by rw [upd_ne hwa]; exact ho', fun l hl => ?_⟩
      exact h4 _ _ _ _ M' (e1.trans (same_new (wt.fresh hl))) (wt.new hl) (.lst upd_same ((dats_snd hk).mono (same_new (wt.fresh hl)))) q
end
end DL

set_option autoImplicit false
set_option maxRecDepth 100000
set_option maxHeartbeats 4000000
/-! a sign in a text -/
namespace DL
open PySem PySem.Spec PyProof.Rows L2
section
variable {X : Cx} {K : PySem.W.Frag}
def rdInSg : D → D → Mem → KD → Prop := fun x y M k => ∃ c z, x = .str ⟨#[c]⟩ ∧ y = .str z ∧ k (.bl (decide (c ∈ z.cps.toList))) M
theorem opd_inSg : OpD K (fun x y H Q => ∃ (c : Nat) (z : Str), x = V.str ⟨#[c]⟩ ∧ y = V.str z ∧ Q (.bl (decide (c ∈ z.cps.toList))) H) rdInSg := fun Fr H0 M H x y vx vy k Q w rx ry h cc => by
  obtain ⟨c, z, rfl, rfl, q⟩ := h
  cases rx; cases ry
  exact ⟨c, z, rfl, rfl, cc _ H0 H _ M (Same.refl _) w (.bl _) q⟩
theorem c_inSg : CmpD X .In rdInSg := ⟨_, op_in_sign, opd_inSg⟩
/-- a comprehension within one, that takes nothing from outside -/
def noFree (scope : Scope) : Bool := scope.names.all fun y => match y.2 with | .free => false | _ => true
theorem blkOk_in {N : List Str} {sc sc' scope : Scope} {own : List (Str × Nat)} (h : blkC N sc scope own = true) (hf : noFree scope = true) : BlkOk N sc' scope own := by
  obtain ⟨h1, h2, h3, _, h5⟩ := blkOk_by h
  refine ⟨h1, h2, h3, fun y hy e => ?_, h5⟩
  unfold noFree at hf
  have := List.all_eq_true.mp hf y hy
  rw [e] at this
  cases this
end
end DL

set_option autoImplicit false
set_option maxRecDepth 100000
set_option maxHeartbeats 4000000
/-! dicts of plain keys: comprehensions, del, in; what is never reached -/
namespace DL
open PySem PySem.Spec PyProof.Rows L2
section
variable {X : Cx} {K : PySem.W.Frag}
def wNever : WS := fun _ _ _ => False
theorem ds_never {st : Stmt} : DS X st wNever := ds_of ps_never fun _ σ H Γ Fr H0 M k h1 h2 h3 h4 => h3.elim
/-! del d[k] -/
def dropD (kvs : List (Key × D)) (κ : Key) : List (Key × D) := kvs.filter fun kv => decide (kv.1 ≠ κ)
theorem paired_drop {H : Hp} (κ : Key) : ∀ {kvs : List (Key × V)} {kds : List (Key × D)}, DKs K H kvs kds → DKs K H (dropK kvs κ) (dropD kds κ)
  | _, _, .nil => .nil
  | _, _, .cons (a := p) (b := q) h t => by
    have ih := paired_drop κ t
    unfold dropK dropD at ih ⊢
    by_cases e : p.1 = κ
    · rw [List.filter_cons_of_neg (by simpa using e), List.filter_cons_of_neg (by rw [← h.1]; simpa using e)]; exact ih
    · rw [List.filter_cons_of_pos (by simpa using e), List.filter_cons_of_pos (by rw [← h.1]; simpa using e)]; exact .cons h ih
def rdDel (x y : D) (M : Mem) (k : Mem → Prop) : Prop := match x, keyD y with
  | .cel a, some κ => (match M a with | some (.dct kvs) => (lookD kvs κ).isSome = true ∧ k (setM M a (.dct (dropD kvs κ))) | _ => False)
  | _, _ => False
def wDel (wa wi : WE) : WS := fun k Γ M => wa Γ M fun x M1 => wi Γ M1 fun y M2 => rdDel x y M2 (k.nx Γ)
theorem ds_del {o i : Expr} {wa wi : WE} {tpos pos : Pos} (ho : DE X o wa) (hi : DE X i wi) : DS X (.Delete [.Subscript o i tpos] pos) (wDel wa wi) :=
  ds_of (ps_ddel ho.run hi.run) fun D σ H Γ Fr H0 M k h1 h2 h3 h4 => ⟨Γ, Fr, H0, M, _, h1, h2, h3, fun xv H2 H'' dx M2 e2 w2 r2 q2 => by
    refine ⟨Γ, Fr, H2, M2, _, h1.mono e2, w2, q2, fun yv H3 H''' dy M3 e3 w3 r3 q3 => ?_⟩
    unfold rdDel at q3
    split at q3
    · rename_i a κ ek
      split at q3
      · rename_i kvs em
        obtain ⟨_, o, ho, ck⟩ := w3.mem a _ em
        cases ck with
        | dct hk =>
          cases r2
          have := keyD_ok r3 ek
          subst this
          obtain ⟨d, hd⟩ := Option.isSome_iff_exists.mp q3.1
          obtain ⟨v, hv, _⟩ := (look_ok hk).1 d hd
          refine ⟨a, _, κ, rfl, ho, rfl, by rw [hv]; rfl, ?_⟩
          exact h4.nx σ H3 _ Γ _ (e2.trans e3) (h1.mono (e2.trans e3)) (w3.set em (.dct (paired_drop κ hk))) q3.2
      · exact q3.elim
    · exact q3.elim⟩
/-! k in d -/
def rdInK (f : Bool → Bool) (x y : D) (M : Mem) (k : KD) : Prop := match x, keyD y with
  | .cel a, some κ => (match M a with | some (.dct kvs) => k (.bl (f (lookD kvs κ).isSome)) M | _ => False)
  | _, _ => False
def wInK (f : Bool → Bool) (wi wa : WE) : WE := fun Γ M k => wi Γ M fun y M1 => wa Γ M1 fun x M2 => rdInK f x y M2 k
theorem inK_ok {Fr H0 H : Hp} {M : Mem} {x y : D} {xv yv : V} {f : Bool → Bool} {k : KD} (w : Wd K Fr H0 M H) (rx : Dat K H0 xv x) (ry : Dat K H0 yv y) (q : rdInK f x y M k) : ∃ a o, xv = .ref a ∧ DGet H a yv o ∧ k (.bl (f o.isSome)) M := by
  unfold rdInK at q
  split at q
  · rename_i a κ ek
    split at q
    · rename_i kvs em
      obtain ⟨_, o, ho, ck⟩ := w.mem a _ em
      cases ck with
      | dct hk =>
        cases rx
        have := keyD_ok ry ek
        subst this
        refine ⟨a, _, rfl, .inl ⟨_, κ, .of ho, rfl, rfl⟩, ?_⟩
        have l := look_ok (κ := κ) hk
        cases e : lookD kvs κ with
        | some d =>
          obtain ⟨v, hv, _⟩ := l.1 d e
          rw [hv]; rw [e] at q; exact q
        | none =>
          rw [l.2 e]; rw [e] at q; exact q
    · exact q.elim
  · exact q.elim
theorem de_inK {a b : Expr} {wi wa : WE} {pos : Pos} (hu : X.A.units + 1 < cLine) (hi : DE X a wi) (ha : DE X b wa) (hm : behindInMarks .In b = false := by first | exact nomark _ | (with_unfolding_all rfl)) : DE X (.Compare a [.In] [b] pos) (wInK id wi wa) :=
  de_of (pe_cmp (pc_din hu hi.run ha.run) hm) fun σ H Q Γ Fr H0 M k h1 h2 h3 h4 => ⟨Γ, Fr, H0, M, _, h1, h2, h3, fun yv H1 H' dy M1 e1 w1 r1 q1 => ⟨Γ, Fr, H1, M1, _, h1.mono e1, w1, q1, fun xv H2 H'' dx M2 e2 w2 r2 q2 => by
    obtain ⟨a, o, ea, g, q⟩ := inK_ok w2 r2 (r1.mono e2) q2
    exact ⟨a, o, ea, g, h4 _ H2 _ _ M2 (e1.trans e2) w2 (.bl _) q⟩⟩⟩
theorem de_ninK {a b : Expr} {wi wa : WE} {pos : Pos} (hu : X.A.units + 1 < cLine) (hi : DE X a wi) (ha : DE X b wa) (hm : behindInMarks .NotIn b = false := by first | exact nomark _ | (with_unfolding_all rfl)) : DE X (.Compare a [.NotIn] [b] pos) (wInK not wi wa) :=
  de_of (pe_cmp (pc_dnotin hu hi.run ha.run) hm) fun σ H Q Γ Fr H0 M k h1 h2 h3 h4 => ⟨Γ, Fr, H0, M, _, h1, h2, h3, fun yv H1 H' dy M1 e1 w1 r1 q1 => ⟨Γ, Fr, H1, M1, _, h1.mono e1, w1, q1, fun xv H2 H'' dx M2 e2 w2 r2 q2 => by
    obtain ⟨a, o, ea, g, q⟩ := inK_ok w2 r2 (r1.mono e2) q2
    exact ⟨a, o, ea, g, h4 _ H2 _ _ M2 (e1.trans e2) w2 (.bl _) q⟩⟩⟩
theorem dt_inK {a b : Expr} {wi wa : WE} {pos : Pos} (hu : X.A.units + 1 < cLine) (hi : DE X a wi) (ha : DE X b wa) (hm : behindInMarks .In b = false := by first | exact nomark _ | (with_unfolding_all rfl)) : DT X (.Compare a [.In] [b] pos) (wTst (wInK id wi wa)) :=
  dt_of (pt_cmp (pc_din hu hi.run ha.run) hm) fun σ H Q Γ Fr H0 M k h1 h2 h3 h4 => ⟨Γ, Fr, H0, M, _, h1, h2, h3, fun yv H1 H' dy M1 e1 w1 r1 q1 => ⟨Γ, Fr, H1, M1, _, h1.mono e1, w1, q1, fun xv H2 H'' dx M2 e2 w2 r2 q2 => by
    obtain ⟨a, o, ea, g, q⟩ := inK_ok w2 r2 (r1.mono e2) q2
    exact ⟨a, o, ea, g, _, rfl, h4 _ H2 _ M2 (e1.trans e2) w2 q⟩⟩⟩
theorem dt_ninK {a b : Expr} {wi wa : WE} {pos : Pos} (hu : X.A.units + 1 < cLine) (hi : DE X a wi) (ha : DE X b wa) (hm : behindInMarks .NotIn b = false := by first | exact nomark _ | (with_unfolding_all rfl)) : DT X (.Compare a [.NotIn] [b] pos) (wTst (wInK not wi wa)) :=
  dt_of (pt_cmp (pc_dnotin hu hi.run ha.run) hm) fun σ H Q Γ Fr H0 M k h1 h2 h3 h4 => ⟨Γ, Fr, H0, M, _, h1, h2, h3, fun yv H1 H' dy M1 e1 w1 r1 q1 => ⟨Γ, Fr, H1, M1, _, h1.mono e1, w1, q1, fun xv H2 H'' dx M2 e2 w2 r2 q2 => by
    obtain ⟨a, o, ea, g, q⟩ := inK_ok w2 r2 (r1.mono e2) q2
    exact ⟨a, o, ea, g, _, rfl, h4 _ H2 _ M2 (e1.trans e2) w2 q⟩⟩⟩
/-! {k: v for ..} -/
def dcK (gd : D → Env → Option Env) (wt : WT) (wk wv : WE) (G : Mem → Prop) (Γ : Env) (p : Addr) : List D → Mem → (Mem → Prop) → Prop
  | [], M, k => G M ∧ k M
  | d :: ds, M, k => G M ∧ match gd d Γ with
    | some Γ' => wt Γ' M fun b M1 => if b = true then wk Γ' M1 fun y M2 => wv Γ' M2 fun z M3 => rdPut (.cel p) y z M3 fun M4 => dcK gd wt wk wv G Γ p ds M4 k else dcK gd wt wk wv G Γ p ds M1 k
    | none => False
def wDcK (wi : WI) (gd : D → Env → Option Env) (wt : WT) (wk wv : WE) (vs : List Nat) : WE := fun Γ M k =>
  wi Γ M fun its G M1 => ∀ p, M1 p = none → dcK gd wt wk wv G (wipeD Γ vs) p its (setM M1 p (.dct [])) fun M2 => k (.cel p) M2
theorem dcK_heart {g : TG} {own : List Nat} {gd : D → Env → Option Env} {wt : WT} {wk wv : WE} {vs : List Nat} {Qd : Hp → Prop} {kd : Mem → Prop} (hg : GD X.K g own gd) (ho : ∀ i ∈ own, i ∈ vs) {σ : L2.St} {H H0 Fr : Hp} {Γ : Env} {M : Mem} {J : It} {its : List D} {G : Mem → Prop} {p : Addr}
    (s : Slots X.K H0 σ Γ) (w : Wd X.K Fr H0 M H) (wlk : Walks X.K J H0 its G) (h : dcK gd wt wk wv G (wipeD Γ vs) p its M kd) (hk : ∀ H1 H' M', Same H0 H1 → Wd X.K Fr H1 M' H' → kd M' → Qd H') :
    ∃ Z : Nat → Nat → Hp → Prop, (∃ n, Z 0 n H) ∧ ∀ j n H2, Z j n H2 → (J.stop j H2 ∧ Qd H2) ∨ (J.go j H2 ∧ ∃ N : Hp → Prop, (∀ H3, N H3 → ∃ n', n' < n ∧ Z (j + 1) n' H3) ∧
      ∀ x H3, J.yld j H2 x H3 → g x (wipe σ vs) H3 fun ρ H4 => wipe ρ vs = wipe σ vs ∧ liftT X.K wt ρ H4 fun b H5 => if b = true then liftE X.K wk ρ H5 fun y H6 => liftE X.K wv ρ H6 fun z H7 => ∃ kvs k, y = kV k ∧ H7 p = some (.dK kvs) ∧ kvs.length < sizeLine ∧ N (upd H7 p (.dK (putK kvs k z))) else N H5) := by
  refine ⟨fun j n H2 => n = its.length - j ∧ j ≤ its.length ∧ ∃ H1 M, Same H0 H1 ∧ Wd X.K Fr H1 M H2 ∧ dcK gd wt wk wv G (wipeD Γ vs) p (its.drop j) M kd, ⟨its.length, by simp, Nat.zero_le _, H0, M, Same.refl _, w, h⟩, ?_⟩
  rintro j n H2 ⟨rfl, hle, H1, M1, e1, w1, q1⟩
  by_cases hlt : j < its.length
  · right
    rw [drop_cons hlt] at q1
    obtain ⟨g1, q1⟩ := q1
    obtain ⟨k1, k2, k3⟩ := wlk _ H1 M1 H2 e1 w1 g1
    refine ⟨k1 j hlt, fun H3 => ∃ H1 M, Same H0 H1 ∧ Wd X.K Fr H1 M H3 ∧ dcK gd wt wk wv G (wipeD Γ vs) p (its.drop (j + 1)) M kd, fun H3 z => ⟨its.length - (j + 1), by omega, rfl, hlt, z⟩, fun x H3 y => ?_⟩
    obtain ⟨H1', e2, w2, r2⟩ := k3 j x H3 its[j] (List.getElem?_eq_getElem hlt) y
    split at q1
    · rename_i Γ' eg
      refine hg _ H1' M1 H3 _ _ Γ' x its[j] _ ((s.wipe vs).mono (e1.trans e2)) w2 r2 eg fun σ' s' hout hlen => ⟨?_, ?_⟩
      · rw [← wipe_wipe σ vs]
        exact wipe_eq hlen fun i hi => hout i fun z => hi (ho i z)
      · refine ⟨Γ', _, H1', M1, _, s', w2, q1, fun b H5 H5' M5 e5 w5 q5 => ?_⟩
        cases b with
        | true =>
          rw [if_pos rfl] at q5 ⊢
          refine ⟨Γ', _, H5, M5, _, s'.mono e5, w5, q5, fun vy H6 H6' dy M6 e6 w6 r6 q6 => ?_⟩
          refine ⟨Γ', _, H6, M6, _, s'.mono (e5.trans e6), w6, q6, fun vz H7 H7' dz M7 e7 w7 r7 q7 => ?_⟩
          unfold rdPut at q7
          split at q7
          · rename_i a κ ea ek
            cases ea
            split at q7
            · rename_i kvs em
              obtain ⟨_, o, ho', ck⟩ := w7.mem p _ em
              cases ck with
              | dct hk' =>
                have := keyD_ok (r6.mono e7) ek
                subst this
                refine ⟨_, κ, rfl, ho', by rw [Paired.length hk']; exact q7.1, ?_⟩
                exact ⟨H7, _, (e1.trans e2).trans (e5.trans (e6.trans e7)), w7.set em (.dct (paired_put hk' κ r7)), q7.2⟩
            · exact q7.elim
          · exact q7.elim
        | false =>
          rw [if_neg Bool.false_ne_true] at q5 ⊢
          exact ⟨H5, M5, (e1.trans e2).trans e5, w5, q5⟩
    · exact q1.elim
  · left
    have ej : j = its.length := by omega
    subst ej
    rw [List.drop_length] at q1
    exact ⟨(wlk _ H1 M1 H2 e1 w1 q1.1).2.1, hk H1 H2 M1 e1 w1 q1.2⟩
theorem de_dcK {kx vx tg iter : Expr} {ifs : List Expr} {scope : Scope} {own : List (Str × Nat)} {pos : Pos} {wi : WI} {g : TG} {ow : List Nat} {gd : D → Env → Option Env} {wt : WT} {wk wv : WE} (hc : X.calm = true) (hN : X.N.Nodup) (hi : DI X tg iter wi) (ok : BlkOk X.N X.env.scope scope own)
    (hg : ∀ (t : Shared) (H : Hp) (C : Addr) (cl : List (Str × Addr)) (fp : List Addr), DG (X.blk t H scope (compEnvC scope cl C X.env) fp) tg g ow gd) (hgd : GD X.K g ow gd) (ht : ∀ (t : Shared) (H : Hp) (C : Addr) (cl : List (Str × Addr)) (fp : List Addr), DTs (X.blk t H scope (compEnvC scope cl C X.env) fp) ifs wt)
    (hk : ∀ (t : Shared) (H : Hp) (C : Addr) (cl : List (Str × Addr)) (fp : List Addr), DE (X.blk t H scope (compEnvC scope cl C X.env) fp) kx wk) (hv : ∀ (t : Shared) (H : Hp) (C : Addr) (cl : List (Str × Addr)) (fp : List Addr), DE (X.blk t H scope (compEnvC scope cl C X.env) fp) vx wv)
    (ho : ∀ i ∈ ow, i ∈ own.map (·.2) := by decide) (hs : ∀ x, foldedSetIterable iter X.env x = pure x := by intro _; rfl) : DE X (.DictComp kx vx [⟨tg, iter, ifs, 0⟩] scope pos) (wDcK wi gd wt wk wv (own.map (·.2))) := by
  refine de_of (pe_dc (tt := liftT X.K wt) (tk := liftE X.K wk) (tv := liftE X.K wv) hc hN hi.pi ok (fun t H C cl fp => (hg t H C cl fp).pg) (fun t H C cl fp => (ht t H C cl fp).run) (fun t H C cl fp => (hk t H C cl fp).run) (fun t H C cl fp => (hv t H C cl fp).run) hs) fun σ H Q Γ Fr H0 M k h1 h2 h3 h4 => ?_
  refine ⟨Γ, Fr, H0, M, _, h1, h2, h3, fun J its G H1 H0' M' e1 w1 q1 wlk p hp => ?_⟩
  exact dcK_heart (Qd := fun H => Q (.ref p) H) hgd ho (h1.mono e1) (w1.newM hp (.dct .nil)) wlk (q1 p (w1.freshM hp)) fun H2 H' M2 e2 w2 qk => h4 _ H2 H' _ M2 (e1.trans e2) w2 (.cel p) qk
/-- by an invariant -/
theorem dcK_inv {gd : D → Env → Option Env} {wt : WT} {wk wv : WE} {G : Mem → Prop} {Γ : Env} {p : Addr} {k : Mem → Prop} (I : List D → Mem → Prop) (hG : ∀ ds M, I ds M → G M) (h0 : ∀ M, I [] M → k M)
    (hs : ∀ d ds M, I (d :: ds) M → ∃ Γ', gd d Γ = some Γ' ∧ ∀ kn : Mem → Prop, (∀ M2, I ds M2 → kn M2) → wt Γ' M fun b M1 => if b = true then wk Γ' M1 fun y M2 => wv Γ' M2 fun z M3 => rdPut (.cel p) y z M3 kn else kn M1) :
    ∀ its M, I its M → dcK gd wt wk wv G Γ p its M k
  | [], M, h => ⟨hG _ _ h, h0 M h⟩
  | d :: ds, M, h => by
    refine ⟨hG _ _ h, ?_⟩
    obtain ⟨Γ', e, q⟩ := hs d ds M h
    rw [e]
    exact q _ fun M2 h2 => dcK_inv I hG h0 hs ds M2 h2
end
end DL

set_option autoImplicit false
set_option maxRecDepth 100000
set_option maxHeartbeats 4000000
/-! sorted(set(xs)), xs a list of whole numbers -/
namespace TSI
open PySem PySem.Spec PyProof.Rows L2 PySem.Froz
section
variable {P : Program} {w : World} {A : Around} {E : Value → Shared → Prop} {s : Shared}
set_option maxHeartbeats 16000000 in
theorem call_setI {b : Addr} {its : Array Value} (xs : List Int) {Q : Value → Shared → Prop} (hh : A.handled = none) (hl : s.heap.IsList b its) (hv : IntsAre its.toList xs) (hb : xs.length + 1 < scanBound)
    (h : ∀ h' tk c, SetR w h' s.heap.objs.size (fun j => decide (j ∈ xs)) c → c ≤ xs.length → (∀ c o, s.heap.get? c = some o → h'.get? c = some o) → Q (.ref s.heap.objs.size) { s with heap := h', toks := tk }) :
    wpAny (model P w) A (call (.type "set") [.ref b]) Q E s := by
  have sz : its.size = xs.length := by
    have q := IntsAre.length hv
    rw [Array.length_toList] at q; exact q
  obtain ⟨mc, mt, hmro⟩ := F.called_set.mro
  have i1 := F.called_set.made
  have i2 := F.called_set.sub
  have i3 := F.called_set.notType
  have i4 := F.called_set.canCreate
  have i5 := F.typeCall_set_1 (.ref b)
  apply wpAny_call
  apply codeAny_of_tree
  show wpAny _ _ (callAny (.type "set") ⟨[.ref b], []⟩) _ _ _
  refine wpAny_pure ⟨Code.quiet_builtin _ (by decide +kernel), ?_⟩
  apply codeAny_builtin F.entry_type_call
  rw [Around.under_plain (weight_type_call_type "set" [.ref b] []) (by rfl)]
  repeat (any_goals first | assumption | wp_step)
  refine codeAny_mono (code_set_led1 (.ref b) (E := E) (Q₁ := fun v s1 => v = .ref s.heap.objs.size ∧ s1 = { s with heap := s.heap.push (TS.bare w) }) ⟨rfl, rfl⟩) fun r s1 hr => ?_
  match r, hr with
  | .error _, hr => exact hr
  | .ok (.ret v), ⟨e1, e2⟩ =>
    subst e1; subst e2
    have g0 : (s.heap.push (TS.bare w)).get? s.heap.objs.size = some (TS.bare w) := Heap.get?_push_size _ rfl
    have ty0 : Shared.TypeIs { s with heap := s.heap.push (TS.bare w) } (.ref s.heap.objs.size) "set" := ⟨_, g0, rfl⟩
    have j1 := F.called_set.init.lookup
    have j2 := F.called_set.init.bind (.ref s.heap.objs.size)
    repeat (any_goals first | assumption | wp_step)
    refine codeAny_mono (codeAny_call_builtin (R := wants (fun r s2 => r = .none ∧ ∃ h' tk cc, s2 = { s with heap := h', toks := tk } ∧ SetR w h' s.heap.objs.size (fun j => decide (j ∈ xs)) cc ∧ cc ≤ xs.length ∧ ∀ c o, s.heap.get? c = some o → h'.get? c = some o) E)
      F.called_set.init.plain F.entry_set_init (check_set_init_1 ty0 ?_)) fun r2 s2 hr2 => ?_
    · obtain ⟨lo, glo, lc, ln, ld⟩ := hl
      obtain ⟨cls, dic, dat, slo⟩ := lo
      simp only at lc ld
      subst lc; subst ld
      have glo' := Heap.get?_push_of_some (TS.bare w) glo
      have isl : (s.heap.push (TS.bare w)).IsList b its := ⟨_, glo', rfl, ln, rfl⟩
      have q1 := F.sub_list_set
      have q2 := F.sub_list_frozenset
      have q3 : (Value.type "list" == Value.type "dict") = false := by decide
      have blt : b < s.heap.objs.size := Heap.lt_size glo
      unfold Builtin.«set.__init__» noKeywords Builtin.Frozenset.updateFrom
      generalize hPI : pyIter = PI
      wp_walk
      subst hPI
      apply wpAny_pyIter_list isl
      apply wpAny_bind
      apply wpAny_runValue
      have sz2 : (s.heap.push (TS.bare w)).objs.size = s.heap.objs.size + 1 := Heap.size_push ..
      have n1 : b ≠ (s.heap.push (TS.bare w)).objs.size := fun z => by rw [sz2] at z; exact Nat.ne_of_lt (Nat.lt_succ_of_lt blt) z
      have n2 : s.heap.objs.size ∉ [(s.heap.push (TS.bare w)).objs.size, b] := by
        intro z
        rcases List.mem_cons.mp z with z | z
        · rw [sz2] at z; exact Nat.ne_of_lt (Nat.lt_succ_self _) z
        · rw [List.mem_singleton] at z; exact Nat.ne_of_gt blt z
      have vals : ∀ (i : Nat) (v : Value), its[i]? = some v → ∃ y t, xs[i]? = some y ∧ v = .int y t := fun i v e => by
        have hi : i < xs.length := by rw [← sz]; exact (Array.getElem?_eq_some_iff.mp e).1
        obtain ⟨t, et⟩ := PyProof.Rows.IntsAre.int_at hv i v (by rw [Array.getElem?_toList]; exact e)
        exact ⟨xs[i], t, List.getElem?_eq_getElem hi, by rw [et, List.getD_eq_getElem?_getD, List.getElem?_eq_getElem hi] <;> rfl⟩
      have hd3 : A.in1.in1.in1.handled = none := by simp [hh]
      refine set_update_ints (Walks.list hd3 _ b n1 its).toS s.heap.objs.size n2 xs sz hb vals (its.size - 0) 0 _ (by omega) (Nat.zero_le _) ⟨⟨_, Heap.get?_push_size _ rfl, rfl, rfl⟩, isl.push _⟩ ?_ ?_
      · exact ⟨0, Nat.le_refl 0, setR_new_at (Heap.get?_push_of_some _ g0)⟩
      · intro s2 cc hm hcc hs
        rw [sz] at hcc
        obtain ⟨h2, g2, d2, t2, o2⟩ := s2
        have eg : g2 = s.gens := hm.gens
        have ed : d2 = s.drawn := hm.drawn
        have eo : o2 = s.os := hm.os
        subst eg; subst ed; subst eo
        show wpAny _ _ _ _ _ _
        apply wpAny_pure
        show wpAny _ _ (ret Value.none) _ _ _
        refine wpAny_pure ⟨rfl, h2, t2, cc, rfl, hs, hcc, fun c o e => ?_⟩
        have cl := Heap.lt_size e
        refine hm.heap c o (fun z => ?_) (Heap.get?_push_of_some _ (Heap.get?_push_of_some _ e))
        rcases List.mem_cons.mp z with z | z
        · exact Nat.ne_of_lt cl z
        · rw [List.mem_singleton, sz2] at z; exact Nat.ne_of_lt (Nat.lt_succ_of_lt cl) z
    · match r2, hr2 with
      | .error _, hr2 => exact hr2
      | .ok (.ret v), ⟨e1, h', tk, cc, e2, y1, y2, y3⟩ =>
        subst e1; subst e2
        repeat (any_goals first | assumption | wp_step)
        exact h _ _ _ y1 y2 y3
      | .ok .next, hr2 => exact hr2.elim
      | .ok .brk, hr2 => exact hr2.elim
      | .ok .cont, hr2 => exact hr2.elim
  | .ok .next, hr => exact hr.elim
  | .ok .brk, hr => exact hr.elim
  | .ok .cont, hr => exact hr.elim
end
end TSI
namespace DL
open PySem PySem.Spec PyProof.Rows L2
section
variable {X : Cx}
def intsD : List D → Option (List Int)
  | [] => some []
  | .int i :: r => (intsD r).map (i :: ·)
  | _ :: _ => none
theorem intsD_ok {K : PySem.W.Frag} {H : Hp} : ∀ {vs : List V} {ds : List D} {l : List Int}, Dats K H vs ds → intsD ds = some l → vs = l.map V.int
  | _, _, _, .nil, e => by cases e; rfl
  | _, _, _, .cons (d := .int i) h t, e => by
    unfold intsD at e
    obtain ⟨l, e1, rfl⟩ := Option.map_eq_some_iff.mp e
    cases h
    rw [List.map_cons, intsD_ok t e1]
  | _, _, _, .cons (d := .non) _ _, e => by cases e
  | _, _, _, .cons (d := .bl _) _ _, e => by cases e
  | _, _, _, .cons (d := .str _) _ _, e => by cases e
  | _, _, _, .cons (d := .tup _) _ _, e => by cases e
  | _, _, _, .cons (d := .lst _) _ _, e => by cases e
  | _, _, _, .cons (d := .scr _) _ _, e => by cases e
  | _, _, _, .cons (d := .cel _) _ _, e => by cases e
  | _, _, _, .cons (d := .ty _) _ _, e => by cases e
theorem dats_intsL {K : PySem.W.Frag} {H : Hp} : ∀ l : List Int, Dats K H (l.map V.int) (l.map D.int)
  | [] => .nil
  | i :: l => .cons (.int i) (dats_intsL l)
theorem intsD_map (l : List Int) : intsD (l.map D.int) = some l := by
  induction l with
  | nil => rfl
  | cons i l ih => rw [List.map_cons]; unfold intsD; rw [ih]; rfl
def rdSortSetI : FD := fun ds M k => match ds with
  | [x] => (match asR M x with | some xs => (match intsD xs with | some l => l.length < 64 ∧ ∀ ys : List Int, ys.Pairwise (· < ·) → (∀ i, i ∈ ys ↔ i ∈ l) → k (.lst (ys.map D.int)) M | none => False) | none => False)
  | _ => False
theorem pe_sortSetI {a : Expr} {ta : TE} {p p2 q pos : Pos} (hc : X.calm = true) (hg : Gl X "sorted") (hm : X.mg "sorted" = none) (hg2 : Gl X "set") (hm2 : X.mg "set" = none) (ha : PE X a ta)
    (na : starEach [a] X.env = (false, eval a X.env) :: starEach [] X.env) :
    PE X (.Call (.Name "sorted" p) [.Call (.Name "set" p2) [a] [] q] [] pos) (fun σ H Q => ta σ H fun x H1 => ∃ l, ∃ xs : List Int, x = .ref l ∧ SqL X.K H1 l (xs.map V.int) ∧ xs.length < 64 ∧
      ∀ (ys : List Int) (p : Addr), ys.Pairwise (· < ·) → (∀ i, i ∈ ys ↔ i ∈ xs) → H1 p = none → Q (.ref p) (upd H1 p (.lst (ys.map V.int)))) := by
  refine ⟨fun pins s σ H Q I h => Call_ (ld_blt I hg hm boot_sorted ?_)⟩
  refine PyProof.Rows.callWith_builtin1 (PyProof.Rows.args_cons (Call_ (ld_blt I hg2 hm2 boot_set ?_)) rfl) rfl rfl
  refine PyProof.Rows.callWith_type1 (PyProof.Rows.args_cons (thn (ha.run pins s σ H _ I h) fun v s1 ⟨x, H1, I1, r1, q1⟩ => PyProof.Rows.args_nil ?_) na) na rfl
  obtain ⟨l, xs, rfl, hq, hb, q1⟩ := q1
  cases r1
  obtain ⟨its, r, pl, hz⟩ := I1.list hq
  have sb : scanBound = 4096 := rfl
  refine TSI.call_setI xs (I1.ok.hd hc) pl.isList (by simpa using ints_of_vals r) (by omega) fun h' tk c st hcl hk => ?_
  refine PyProof.Rows.args_nil ?_
  have I2 : Inv X pins σ H1 { s1 with heap := h', toks := tk } := I1.kept fun b o e => hk b o e
  have st2 : SetR X.w ({ s1 with heap := h', toks := tk } : Shared).heap s1.heap.objs.size (fun j => decide (j ∈ xs)) c := st
  generalize s1.heap.objs.size = b at st2 ⊢
  generalize ({ s1 with heap := h', toks := tk } : Shared) = s2 at I2 st2 ⊢
  refine sorted_set st2 (I2.ok.hd hc) (by omega) fun s' p' out c2 ns k g o hp hg hi hs hm2 hl => ?_
  have hlen : (ns.map V.int).length ≤ sizeLine := by rw [List.length_map, hl, sizeLine_eq]; omega
  have hn : H1 p' = none := I2.hok.fresh hp
  have J : Inv X pins σ (upd H1 p' (.lst (ns.map V.int))) { s2 with heap := s'.heap, gens := s'.gens, drawn := s'.drawn, toks := s'.toks } :=
    I2.call (ch := []) (Un.laid k hp hn) (I2.hok.laid k hp ⟨hlen, out.toList, c2, vals_of_ints hi, hg⟩) (by rw [g]; exact I2.bare) (fun _ z => nomatch z)
  have e : s' = { s2 with heap := s'.heap, gens := s'.gens, drawn := s'.drawn, toks := s'.toks } := by cases s'; cases s2; cases o; rfl
  rw [e]
  exact ⟨.ref p', _, J, rfl, q1 ns p' hs (fun i => (hm2 i).trans decide_eq_true_iff) hn⟩
theorem de_sortSetI {a : Expr} {we : WE} {p p2 q pos : Pos} (hc : X.calm = true) (hm : X.mg "sorted" = none) (hm2 : X.mg "set" = none) (ha : DE X a we) (na : starEach [a] X.env = (false, eval a X.env) :: starEach [] X.env := by rfl)
    (hg : Gl X "sorted" := by rfl) (hg2 : Gl X "set" := by rfl) : DE X (.Call (.Name "sorted" p) [.Call (.Name "set" p2) [a] [] q] [] pos) (wCall rdSortSetI (wCons we wNil)) :=
  de_of (pe_sortSetI hc hg hm hg2 hm2 ha.run na) fun σ H Q Γ Fr H0 M k h1 h2 h3 h4 => ⟨Γ, Fr, H0, M, _, h1, h2, h3, fun v H1 H' d M' e1 w1 r1 q1 => by
    simp only [wNil, rdSortSetI] at q1
    split at q1
    · rename_i xs e
      split at q1
      · rename_i l el
        obtain ⟨b, ws, rfl, hs, hd⟩ := asR_ok w1 r1 e
        have := intsD_ok hd el
        subst this
        refine ⟨b, l, rfl, hs, q1.1, fun ys p' hp hs2 hn => h4 _ _ _ _ M' (e1.trans (same_new (w1.fresh hn))) (w1.new hn) (.lst upd_same (dats_intsL ys)) (q1.2 ys hp hs2)⟩
      · exact q1.elim
    · exact q1.elim⟩
end
end DL

set_option autoImplicit false
set_option maxRecDepth 100000
set_option maxHeartbeats 4000000
/-! str() of anything, a text too -/
namespace DL
open PySem PySem.Spec PyProof.Rows L2
def rdStrX : FD := fun ds M k => match ds with
  | [.str s] => k (.str s) M
  | [x] => rdStr [x] M k
  | _ => False
theorem calld_strX {K : PySem.W.Frag} : CallD K (fun xs H Q => (∃ a, xs = [.str a] ∧ Q (.str a) H) ∨ RP.rStr K xs H Q) rdStrX := fun Fr H0 M H vs ds k Q w r h c => by
  unfold rdStrX at h
  split at h
  · obtain ⟨v, rfl, rv⟩ := dats1 r
    cases rv
    exact .inl ⟨_, rfl, c _ H0 H _ M (Same.refl _) w (.str _) h⟩
  · exact .inr (calld_str Fr H0 M H vs _ k Q w r h c)
  · exact h.elim
section
variable {X : Cx}
theorem de_strX {k : Nat} {e : Expr} {we : WE} {p pos : Pos} (hr : DG.RoomG k X.A) (hm : X.mg "str" = none) (he : DE X e we) (hs : starEach [e] X.env = (false, eval e X.env) :: starEach [] X.env := by rfl) (hg : Gl X "str" := by rfl) (hpl : (backTo pos (starEach [] X.env)).any (·.1) = false := by rfl) :
    DE X (.Call (.Name "str" p) [e] [] pos) (wCall rdStrX (wCons we wNil)) :=
  de_callTy (SkE.call_str_str.or (RP.call_str hr)) calld_strX hm boot_str (da_cons he da_nil hs) hg (by decide) (by decide) hs hpl
end
theorem r_strXs {s : Str} {M : Mem} {k : KD} (hk : k (.str s) M) : rdStrX [.str s] M k := hk
theorem r_strI {i : Int} {M : Mem} {k : KD} (h : i.natAbs < 1000000000000000000) (hk : k (.str (Str.ofString (toString i))) M) : rdStr [.int i] M k := by
  unfold rdStr
  have e : toR M (.int i) = some (.int i) := rfl
  simp only [e]
  have h2 : (PyData.int i).shown = Str.ofString (toString i) := rfl
  rw [h2]
  have l := int_text_length_le10 (a := i) (k := 18) (by decide) (by simpa using h)
  have hz := sizeLine_eq
  have nz : i.natAbs.log2 < 60 := by
    by_cases z : i.natAbs = 0
    · rw [z]; decide
    · exact (Nat.log2_lt z).mpr (by omega)
  refine ⟨by unfold PyData.showable; exact decide_eq_true (by omega), by rw [PySem.ofString_length]; omega, by unfold PyData.depth; omega, hk⟩
theorem r_strXi {i : Int} {M : Mem} {k : KD} (h : i.natAbs < 1000000000000000000) (hk : k (.str (Str.ofString (toString i))) M) : rdStrX [.int i] M k := r_strI h hk
end DL

set_option autoImplicit false
set_option maxRecDepth 100000
set_option maxHeartbeats 4000000
/-! sorted with a lambda as its key -/
namespace DL
open PySem PySem.Spec PyProof.Rows L2 LamX NdefX
/-- the running def x makes lambdas -/
def LamIn (X : Cx) (x : Str) : Prop := ∃ c P, x ∈ lamNames X.K ∧ PySem.W.tabIn X.K x = some (c, P) ∧ TabB X.base X.mg c P ∧ X.env.code = .ref c ∧ X.env.qual ++ "<lambda>" = lamQ x
/-- the object of a lambda; F's own body is empty -/
def LamF (f : Addr) (F : NF) (body : Expr) : HO := .ext fun h => ∃ (od : Option Addr) (sl : Array (Option Value)) (pm ct : Value), h.get? f = some ⟨.type "function", od, .func (PySem.W.kla_fn F.name F.qual F.params body F.scope F.cl pm (.ref F.c) ct), sl⟩
theorem lamF_ok {P : Program} {w : World} {H : Hp} {h : Heap} {f : Addr} {F : NF} {body : Expr} (k : HOk P w H h) (e : H f = some (LamF f F body)) : ∃ (od : Option Addr) (sl : Array (Option Value)) (pm ct : Value), h.get? f = some ⟨.type "function", od, .func (PySem.W.kla_fn F.name F.qual F.params body F.scope F.cl pm (.ref F.c) ct), sl⟩ := (k f _ e).1
/-- a table grows -/
theorem Wd.tabSet {K : PySem.W.Frag} {Fr H0 H : Hp} {M : Mem} {P : Addr} {x : Str} {ps : Array Value} (w : Wd K Fr H0 M H) (h : M P = some (.ctab x)) (g : TabGood H0 ps x) : Wd K Fr H0 M (upd H P (.tbl ps)) := by
  refine ⟨fun b u e => ?_, fun b c e => ?_, fun b u e => ?_, w.tb⟩
  · rw [upd_ne (ne_of_none e (w.mem P _ h).1)]; exact w.ex b u e
  · obtain ⟨h1, o, h2, h3⟩ := w.mem b c e
    by_cases hb : b = P
    · subst hb
      rw [h] at e
      cases e
      exact ⟨h1, _, upd_same, .tab g⟩
    · exact ⟨h1, o, by rw [upd_ne hb]; exact h2, h3⟩
  · obtain ⟨h1, h2, h3⟩ := w.fr b u e
    exact ⟨h1, h2, by rw [upd_ne fun z => by rw [z, h] at h2; cases h2]; exact h3⟩
theorem upd_swap {H : Hp} {a b : Addr} {u v : HO} (h : a ≠ b) : upd (upd H a u) b v = upd (upd H b v) a u := by
  funext c
  by_cases h1 : c = a
  · subst h1; rw [upd_ne h, upd_same, upd_same]
  · by_cases h2 : c = b
    · subst h2; rw [upd_same, upd_ne h1, upd_same]
    · rw [upd_ne h2, upd_ne h1, upd_ne h1, upd_ne h2]
section
variable {X : Cx} {pins : List (Addr × Obj)} {σ : L2.St} {H : Hp} {s : Shared}
theorem inv_lamF {F : NF} {body : Expr} {t' : Nat} {pm ct : Value} (I : Inv X pins σ H s) :
    Inv X pins σ (upd H s.heap.objs.size (LamF s.heap.objs.size F body)) { s with heap := s.heap.push { cls := .type "function", data := .func (PySem.W.kla_fn F.name F.qual F.params body F.scope F.cl pm (.ref F.c) ct) }, toks := t' } := by
  have at_ : (s.heap.push ({ cls := .type "function", data := .func (PySem.W.kla_fn F.name F.qual F.params body F.scope F.cl pm (.ref F.c) ct) } : Obj)).get? s.heap.objs.size = some { cls := .type "function", data := .func (PySem.W.kla_fn F.name F.qual F.params body F.scope F.cl pm (.ref F.c) ct) } := Heap.get?_push_size _ rfl
  exact I.laid (fun _ _ q => Heap.get?_push_of_some _ q) (Nat.le_refl _) ⟨⟨_, _, pm, ct, at_⟩, ⟨_, at_⟩, fun _ _ ⟨od, sl, p, q, z⟩ st => ⟨od, sl, p, q, st _ z⟩⟩
/-- the words of the lambda -/
abbrev lamNF (X : Cx) (params : Arguments) (scope : Scope) (c' : Addr) : NF := ⟨"<lambda>", X.env.qual ++ "<lambda>", params, [], scope, cloFrom X.env.cells scope.names [], c'⟩
/-- the lambda's value: its object and its code object are told of from now on -/
def tLamV (X : Cx) (params : Arguments) (body : Expr) (scope : Scope) : TE := fun _ H Q => ∃ Fr H0 M, Wd X.K Fr H0 M H ∧
  ∀ f c' H0' H', Same H0 H0' → Wd X.K Fr H0' M H' → H0' f = some (LamF f (lamNF X params scope c') body) → H0' c' = some (CodeO c' (X.env.qual ++ "<lambda>")) → Q (.ref f) H'
theorem pe_lam {x : Str} {params : Arguments} {body : Expr} {scope : Scope} {pos : Pos} {fr : List Str} (hl : LamIn X x) (hnd : ndefB X.env.scope scope fr = true) (hdef : defaultsOf params X.env = ([], []) := by rfl) : PE X (.Lambda params body scope pos) (tLamV X params body scope) := by
  obtain ⟨c, P, hx, ht, TB, hc, hq⟩ := hl
  refine ⟨fun pins s σ H Q I h => ?_⟩
  obtain ⟨Fr, H0, M, w, h⟩ := h
  obtain ⟨_, o, hP, ck⟩ := w.mem P _ (w.tb P x ⟨hx, c, ht⟩)
  cases ck with | tab good =>
  rename_i ps
  obtain ⟨tri, good⟩ := good
  have tabH : s.heap.get? P = some { cls := .none, data := .fields ps } := I.hok P _ hP
  have bat : s.heap.BuiltinsAt X.mg P := TB.bm.keeps I.bk
  have cds := TB.code.keeps I.bk
  have hasF : ∀ y ∈ scope.names, y.2 = .free → ∃ a, X.env.cells.lookup y.1 = some a := fun y hy e => (ndef_free hnd y hy e).elim (fun z => I.ok.has _ (.inl z)) fun z => I.ok.has _ (.inr z)
  refine PySem.W.kla_eval hdef ?_
  cases look : codeAmong pos ps.toList with
  | some u =>
    obtain ⟨b, rfl, hb⟩ := good pos u look
    refine PySem.W.kla_makeFunctionHit (closure_ok hasF) I.ok.glob (I.mod.glob.keeps I.bk) hc cds tabH tri look bat fun ct h1 tk keep _ => ?_
    have J : Inv X pins σ H { s with heap := h1, toks := tk } := I.kept keep
    have nf : H h1.objs.size = none := J.hok.fresh (Nat.le_refl _)
    have J2 := inv_lamF (F := lamNF X params scope b) (body := body) (t' := tk) (pm := (X.mg "__name__").getD .none) (ct := ct) J
    exact ⟨.ref h1.objs.size, _, J2, rfl, h _ b _ _ (same_new (w.fresh nf)) (w.new nf) upd_same ((upd_ne (ne_of_none hb (w.fresh nf))).trans (by rw [hq]; exact hb))⟩
  | none =>
    refine PySem.W.kla_makeFunction (closure_ok hasF) I.ok.glob (I.mod.glob.keeps I.bk) hc cds tabH tri look TB.gP bat fun b ct h1 tk keep hge hlt rec tab1 => ?_
    obtain ⟨b', ob, vs, t, eb, hob, hd, hv⟩ := rec
    cases eb
    have nb : H b = none := I.hok.fresh hge
    have J := inv_table (t' := tk) (more := #[rawInt pos.line, rawInt pos.col, .ref b]) I hP (fun a u ha e => keep a u ha e) tab1 hge ⟨ob, vs, t, hob, hd, hv⟩
    have w1 : Wd X.K Fr (upd H0 b (CodeO b (X.env.qual ++ "<lambda>"))) M (upd (upd H P (.tbl (ps ++ #[rawInt pos.line, rawInt pos.col, .ref b]))) b (CodeO b (X.env.qual ++ "<lambda>"))) := by
      rw [upd_swap (ne_of_none hP nb)]
      refine (w.new nb).tabSet (w.tb P x ⟨hx, c, ht⟩) ⟨by rw [Array.toList_append]; exact PySem.TriplesOk_snoc _ _ _ _ tri, fun po u hu => ?_⟩
      rw [Array.toList_append] at hu
      rcases among_app _ tri hu with z | z
      · obtain ⟨d, e1, e2⟩ := good po u z
        exact ⟨d, e1, same_new (w.fresh nb) _ _ e2⟩
      · exact ⟨b, z, by rw [← hq]; exact upd_same⟩
    have nf := J.hok.fresh (Nat.le_refl _)
    have J2 := inv_lamF (F := lamNF X params scope b) (body := body) (t' := tk) (pm := (X.mg "__name__").getD .none) (ct := ct) J
    refine ⟨.ref h1.objs.size, _, J2, rfl, h _ b _ _ ((same_new (w.fresh nb)).trans (same_new (w1.fresh nf))) (w1.new nf) upd_same ?_⟩
    exact (upd_ne (Nat.ne_of_lt hlt)).trans upd_same
/-! ### its body -/
/-- the names at its entry -/
def lamG (n : Nat) (js : List Nat) (Γ : Env) (ds : List D) : Env := ds.map some ++ (js.map (fun j => (Γ[j]?).join) ++ List.replicate (n - ds.length - js.length) none)
theorem slots_lam {K : PySem.W.Frag} {H0 H1 : Hp} {τ : L2.St} {Γ : Env} {vs : List V} {ds : List D} (N : List Str) (js : List Nat) (h : Slots K H0 τ Γ) (e : Same H0 H1) (r : Dats K H1 vs ds) : Slots K H1 (startF N vs (js.map (slotAt τ))) (lamG N.length js Γ ds) := by
  refine ⟨by unfold startF lamG; simp [r.length], fun i d q => ?_⟩
  unfold lamG at q
  unfold startF
  by_cases h1 : i < ds.length
  · rw [List.getElem?_append_left (by simpa using h1), List.getElem?_map] at q
    cases g : ds[i]? with
    | none => rw [g] at q; cases q
    | some d' =>
      rw [g] at q
      cases q
      obtain ⟨v, h2, h3⟩ := r.get g
      exact ⟨v, by rw [List.getElem?_append_left (by rw [List.length_map, r.length]; exact h1), List.getElem?_map, h2]; rfl, h3⟩
  · rw [List.getElem?_append_right (by simpa using h1), List.length_map] at q
    have lv : (vs.map some).length = ds.length := by rw [List.length_map, r.length]
    rw [List.getElem?_append_right (by rw [lv]; omega), lv, r.length]
    by_cases h2 : i - ds.length < js.length
    · rw [List.getElem?_append_left (by simpa using h2), List.getElem?_map] at q
      rw [List.getElem?_append_left (by rw [List.length_map]; exact h2), List.getElem?_map]
      cases g : js[i - ds.length]? with
      | none => rw [g] at q; cases q
      | some j =>
        rw [g] at q
        have q : (Γ[j]?).join = some d := Option.some.inj q
        cases g2 : Γ[j]? with
        | none => rw [g2] at q; cases q
        | some o =>
          rw [g2] at q
          have q : o = some d := q
          subst q
          obtain ⟨v, h3, h4⟩ := h.get j d g2
          exact ⟨v, by show some (slotAt τ j) = _; rw [slotAt_of h3], h4.mono e⟩
    · rw [List.getElem?_append_right (by simpa using h2), List.getElem?_replicate] at q
      split at q <;> cases q
/-- the lambda called -/
theorem lam_run {m : Nat} {params : Arguments} {body : Expr} {scope : Scope} {fr N : List Str} {js : List Nat} {qn : Str} {f c' : Addr} {x : Value} {xv : V} {d : D} {wb : WE} {A : Around} {τ : L2.St} {Γ : Env} {Fr H0 H0' : Hp} {M : Mem} {kd : KD} {Q : VK}
    (I : Inv X pins τ H s) (hnd : ndefB X.env.scope scope fr = true) (S : NScope N [qn] fr scope) (hjs : js.map (fun j => X.N[j]?) = fr.map some) (bind : ∀ (a : Str) (cl : List (Str × Addr)) (pm cv ct u : Value), bindArgs (PySem.W.kla_fn "<lambda>" a params body scope cl pm cv ct) ⟨[u], []⟩ = pure [(qn, u)])
    (hr : DG.RoomG (m + 1) A) (e0 : Env0 X.prog X.w X.K X.mg X.base A X.stack s H) (hf : H f = some (LamF f (lamNF X params scope c') body)) (hc : H c' = some (CodeO c' (X.env.qual ++ "<lambda>")))
    (hbody : ∀ (A : Around) (outer : List PySem.Env) (s : Shared) (H : Hp), DG.RoomG m (A.deeper (envF (lamNF X params scope c') f s.heap.objs.size)) → DE (ncx CX0 X.prog X.w X.K X.mg X.base N (lamNF X params scope c') f A outer s H fun _ _ _ => False) body wb)
    (sl : Slots X.K H0 τ Γ) (same : Same H0 H0') (w : Wd X.K Fr H0' M H) (rd : Dat X.K H0' xv d) (rx : RelV xv x) (hw : wb (lamG N.length js Γ [d]) M kd) (hk : Cont X.K Fr H0' kd Q) :
    codeAny (model X.prog X.w) A (.call (.ref f) ⟨[x], []⟩) (CR CX0 X.stack X.prog X.w H s Q fun _ _ _ => False) s := by
  obtain ⟨od, sl', pm, ct, ho⟩ := lamF_ok I.hok hf
  have lim : s.heap.NoLimit := e0.mod.nolimit.keeps fun b o e => (e0.bs b o e).1
  have C : CellsAt (lamNF X params scope c').cl fr (js.map (slotAt τ)) s.heap H := cells_of I (Caps.made I.ok (ndef_free hnd) (ndef_fr hnd) hjs)
  refine PySem.W.kla_callFunE (fd := PySem.W.kla_fn "<lambda>" (X.env.qual ++ "<lambda>") params body scope (cloFrom X.env.cells scope.names []) pm (.ref c') ct) hr.r.depth ho rfl S.co S.gen rfl (codeO_at I.hok hc) ?_
  rw [bind]
  have kinds : ∀ y ∈ [(qn, x)], scope.names.lookup y.1 = some .local := fun y hy => by
    rw [List.mem_singleton.mp hy]
    exact S.par qn List.mem_cons_self
  refine wpAny_pure (wpAny_newFunctionEnv S.nocell kinds (fun h1 ns sb => ⟨lim.fresh _ sb, PySem.W.kla_codeExpr ?_⟩) S.kind)
  have old : ∀ b o, s.heap.get? b = some o → h1.get? b = some o := fun b o e => sb.extBut b o (Nat.ne_of_lt (Heap.lt_size e)) (Heap.get?_push_of_some _ e)
  have J := inv_startN (CX := CX0) (E := fun _ _ _ => False) (F := lamNF X params scope c') (f := f) (us := [x]) (vs := [xv]) (tk := s.toks + 1) S hr.r.hd e0 rfl (.cons rx .nil) C ns old
  refine wpAny_mono ((hbody A X.stack s H ⟨hr.r.deeper _, hr.g⟩).run.run [] _ _ H Q J ⟨_, Fr, H0', M, kd, slots_lam N js sl same (.one rd), w, hw, hk⟩) (fun v t z => ?_) fun e t z => z
  obtain ⟨u, H', K', ru, q⟩ := z
  exact ⟨u, H', K'.os, K'.bare, K'.base, K'.hok, ru, q⟩
end
/-! ### sorted -/
def rdSortL (rev : Bool) (n : Nat) (js : List Nat) (wb : WE) (Γ : Env) : FD := fun ds M k => ∃ d xs, ∃ key : D → PyData, ds = [d] ∧ asR M d = some xs ∧ KeysOk xs key ∧ Keyed (fun ds M k => wb (lamG n js Γ ds) M k) xs key M ∧ k (.lst (xs.mergeSort (leK rev key))) M
def wSortL (rev : Bool) (n : Nat) (js : List Nat) (wb we : WE) : WE := fun Γ M k => wCons we wNil Γ M fun ds M1 => rdSortL rev n js wb Γ ds M1 k
section
variable {X : Cx} {x qn : Str} {m j : Nat} {e : Expr} {we wb : WE} {p lp kp kp2 pos : Pos} {params : Arguments} {body : Expr} {scope : Scope} {fr N : List Str} {js : List Nat}
theorem sortL_run {kw : Value → List (Str × Value)} {rev : Bool} {pins : List (Addr × Obj)} {σ : L2.St} {H H0 Fr : Hp} {s : Shared} {M : Mem} {Γ : Env} {v : V} {u : Value} {d : D} {f c' : Addr} {k : KD} {Q : VK}
    (hnd : ndefB X.env.scope scope fr = true) (S : NScope N [qn] fr scope) (hjs : js.map (fun j => X.N[j]?) = fr.map some) (bind : ∀ (a : Str) (cl : List (Str × Addr)) (pm cv ct u : Value), bindArgs (PySem.W.kla_fn "<lambda>" a params body scope cl pm cv ct) ⟨[u], []⟩ = pure [(qn, u)])
    (hr : DG.RoomG (m + 3) X.A)
    (hbody : ∀ (c' f : Addr) (A : Around) (outer : List PySem.Env) (s : Shared) (H : Hp), DG.RoomG m (A.deeper (envF (lamNF X params scope c') f s.heap.objs.size)) → DE (ncx CX0 X.prog X.w X.K X.mg X.base N (lamNF X params scope c') f A outer s H fun _ _ _ => False) body wb)
    (ha1 : ∀ a g, argsOk "sorted" ⟨[.ref a], kw (.ref g)⟩) (ha2 : ∀ x g, argsOk "list.sort" ⟨[.ref x], kw (.ref g)⟩) (ht : ∀ x g, Builtin.«list.sort» ⟨[.ref x], kw (.ref g)⟩ = ksk_tree x (.ref g) rev)
    (I : Inv X pins σ H s) (sl : Slots X.K H0 σ Γ) (w : Wd X.K Fr H0 M H) (rd : Dat X.K H0 v d) (rv : RelV v u) (hf : H0 f = some (LamF f (lamNF X params scope c') body)) (hc : H0 c' = some (CodeO c' (X.env.qual ++ "<lambda>")))
    (h : rdSortL rev N.length js wb Γ [d] M k) (hk : Cont X.K Fr H0 k Q) :
    wpAny (model X.prog X.w) X.A (call (.builtin "sorted") [u] (kw (.ref f))) (EP X pins σ Q) X.xe s := by
  obtain ⟨d', xs, key, ed, ea, ko, hF, hq⟩ := h
  cases ed
  · obtain ⟨a, us, rfl, hsq, hd⟩ := asR_ok w rd ea
    obtain rfl : u = Value.ref a := rv
    refine run_sortG (kk := m + 1) (F := fun ds M k => wb (lamG N.length js Γ ds) M k) (fun s' H' H0' Fr' M' y yv dd kd Q' I' sm w' rd' ry hb cc => ?_) hr (ha1 a f) (fun z => ha2 z f) (fun z => ht z f) I hsq w hd ko hF hq hk
    exact lam_run I' hnd S hjs bind ⟨hr.r.in1.in1, hr.g⟩ I'.env0.in1.in1 (w'.ex _ _ (sm _ _ hf)) (w'.ex _ _ (sm _ _ hc)) (hbody c' f) sl sm w' rd' ry hb cc
theorem de_sortL {sc : Scope} (hl : LamIn X x) (hr : DG.RoomG j X.A) (hj : m + 3 ≤ j) (hm : X.mg "sorted" = none) (he : DE X e we) (S : NScope N [qn] fr scope)
    (hbody : ∀ (c' f : Addr) (A : Around) (outer : List PySem.Env) (s : Shared) (H : Hp), DG.RoomG m (A.deeper (envF (lamNF X params scope c') f s.heap.objs.size)) → DE (ncx CX0 X.prog X.w X.K X.mg X.base N (lamNF X params scope c') f A outer s H fun _ _ _ => False) body wb)
    (hn0 : ndefB sc scope fr = true := by decide +kernel) (hsc : X.env.scope = sc := by rfl) (hjs : js.map (fun j => X.N[j]?) = fr.map some := by rfl) (bind : ∀ (a : Str) (cl : List (Str × Addr)) (pm cv ct u : Value), bindArgs (PySem.W.kla_fn "<lambda>" a params body scope cl pm cv ct) ⟨[u], []⟩ = pure [(qn, u)] := by intros; rfl)
    (hdef : defaultsOf params X.env = ([], []) := by rfl) (hg : Gl X "sorted" := by rfl)
    (hs : starEach [e] X.env = (false, eval e X.env) :: starEach [] X.env := by rfl) (hst : backTo pos (starEach [e] X.env) = (false, eval e X.env) :: backTo pos (starEach [] X.env) := by rfl) (hpl : (backTo pos (starEach [e] X.env)).any (·.1) = false := by rfl)
    (hall : (backToKw pos (keywordEach [⟨some (Str.ofString "key"), .Lambda params body scope lp, kp⟩] X.env)).all (·.1.isSome) = true := by rfl) (hnone : (backToKw pos (keywordEach [⟨some (Str.ofString "key"), .Lambda params body scope lp, kp⟩] X.env)).any (·.1.isNone) = false := by rfl)
    (hks : (backToKw pos (keywordEach [⟨some (Str.ofString "key"), .Lambda params body scope lp, kp⟩] X.env)).filterMap (·.1) = [Str.ofString "key"] := by rfl) :
    DE X (.Call (.Name "sorted" p) [e] [⟨some (Str.ofString "key"), .Lambda params body scope lp, kp⟩] pos) (wSortL false N.length js wb we) := by
  have hnd : ndefB X.env.scope scope fr = true := by rw [hsc]; exact hn0
  refine ⟨⟨fun pins s σ H Q I ⟨Γ, Fr, H0, M, k, h1, h2, h3, h4⟩ => wpAny_Call_Name_kw (ld_blt I hg hm PyProof.Rows.boot_sorted ?_ (by decide) (by decide))⟩⟩
  have one := (da_cons he da_nil hs).run.run pos pins s σ H (fun vs H' => ∃ H0' v d M', vs = [v] ∧ Same H0 H0' ∧ Wd X.K Fr H0' M' H' ∧ Dat X.K H0' v d ∧ rdSortL false N.length js wb Γ [d] M' k) I ⟨Γ, Fr, H0, M, _, h1, h2, h3, fun vs H0' H' ds M' e1 w1 r1 q1 => by
        have q2 := q1
        obtain ⟨d, _, _, rfl, _⟩ := q2
        obtain ⟨v, rfl, rv⟩ := dats1 r1
        exact ⟨H0', v, d, M', rfl, e1, w1, rv, q1⟩⟩
  refine PyProof.Rows.callWith_kw (thn one fun us t ⟨vs, HA, J, ra, HB, v, d, M', ev, eB, wB, rd, after⟩ => ?_) hst hpl hall hnone
  subst ev
  obtain ⟨u, eu, ru⟩ := vals1 ra
  subst eu
  refine thn ((pk_cons (nm := some (Str.ofString "key")) (pe_lam hl hnd hdef) pk_nil).run pos pins t σ HA (fun zs H' => ∃ f c' HC, zs = [.ref f] ∧ Same HB HC ∧ Wd X.K Fr HC M' H' ∧ HC f = some (LamF f (lamNF X params scope c') body) ∧ HC c' = some (CodeO c' (X.env.qual ++ "<lambda>"))) J
    ⟨Fr, HB, M', wB, fun f c' HC HD eC wC hf hc => ⟨f, c', HC, rfl, eC, wC, hf, hc⟩⟩) fun ws t2 ⟨zs, HD, J2, rz, f, c', HC, ez, eC, wC, hf, hc⟩ => ?_
  subst ez
  obtain ⟨g, rfl, rg⟩ := vals1 rz
  obtain rfl : g = Value.ref f := rg
  rw [hks]
  exact sortL_run (kw := fun g => [(Str.ofString "key", g)]) hnd S hjs bind (hr.mono hj) hbody (fun _ _ => ksk_s1 _ _) (fun _ _ => ksk_l1 _ _) (fun _ _ => ksk_t1 _ _) J2 (h1.mono (eB.trans eC)) wC (rd.mono eC) ru hf hc after (h4.mono (eB.trans eC))
theorem de_sortLR {sc : Scope} {jc : Nat} {pc : Pos} (hl : LamIn X x) (hr : DG.RoomG j X.A) (hj : m + 3 ≤ j) (hm : X.mg "sorted" = none) (he : DE X e we) (S : NScope N [qn] fr scope)
    (hbody : ∀ (c' f : Addr) (A : Around) (outer : List PySem.Env) (s : Shared) (H : Hp), DG.RoomG m (A.deeper (envF (lamNF X params scope c') f s.heap.objs.size)) → DE (ncx CX0 X.prog X.w X.K X.mg X.base N (lamNF X params scope c') f A outer s H fun _ _ _ => False) body wb)
    (hn0 : ndefB sc scope fr = true := by decide +kernel) (hsc : X.env.scope = sc := by rfl) (hjs : js.map (fun j => X.N[j]?) = fr.map some := by rfl) (bind : ∀ (a : Str) (cl : List (Str × Addr)) (pm cv ct u : Value), bindArgs (PySem.W.kla_fn "<lambda>" a params body scope cl pm cv ct) ⟨[u], []⟩ = pure [(qn, u)] := by intros; rfl)
    (hdef : defaultsOf params X.env = ([], []) := by rfl) (hg : Gl X "sorted" := by rfl)
    (hs : starEach [e] X.env = (false, eval e X.env) :: starEach [] X.env := by rfl) (hst : backTo pos (starEach [e] X.env) = (false, eval e X.env) :: backTo pos (starEach [] X.env) := by rfl) (hpl : (backTo pos (starEach [e] X.env)).any (·.1) = false := by rfl)
    (hall : (backToKw pos (keywordEach [⟨some (Str.ofString "key"), .Lambda params body scope lp, kp⟩, ⟨some (Str.ofString "reverse"), .Constant (.bool true) jc pc, kp2⟩] X.env)).all (·.1.isSome) = true := by rfl) (hnone : (backToKw pos (keywordEach [⟨some (Str.ofString "key"), .Lambda params body scope lp, kp⟩, ⟨some (Str.ofString "reverse"), .Constant (.bool true) jc pc, kp2⟩] X.env)).any (·.1.isNone) = false := by rfl)
    (hks : (backToKw pos (keywordEach [⟨some (Str.ofString "key"), .Lambda params body scope lp, kp⟩, ⟨some (Str.ofString "reverse"), .Constant (.bool true) jc pc, kp2⟩] X.env)).filterMap (·.1) = [Str.ofString "key", Str.ofString "reverse"] := by rfl) :
    DE X (.Call (.Name "sorted" p) [e] [⟨some (Str.ofString "key"), .Lambda params body scope lp, kp⟩, ⟨some (Str.ofString "reverse"), .Constant (.bool true) jc pc, kp2⟩] pos) (wSortL true N.length js wb we) := by
  have hnd : ndefB X.env.scope scope fr = true := by rw [hsc]; exact hn0
  refine ⟨⟨fun pins s σ H Q I ⟨Γ, Fr, H0, M, k, h1, h2, h3, h4⟩ => wpAny_Call_Name_kw (ld_blt I hg hm PyProof.Rows.boot_sorted ?_ (by decide) (by decide))⟩⟩
  have one := (da_cons he da_nil hs).run.run pos pins s σ H (fun vs H' => ∃ H0' v d M', vs = [v] ∧ Same H0 H0' ∧ Wd X.K Fr H0' M' H' ∧ Dat X.K H0' v d ∧ rdSortL true N.length js wb Γ [d] M' k) I ⟨Γ, Fr, H0, M, _, h1, h2, h3, fun vs H0' H' ds M' e1 w1 r1 q1 => by
        have q2 := q1
        obtain ⟨d, _, _, rfl, _⟩ := q2
        obtain ⟨v, rfl, rv⟩ := dats1 r1
        exact ⟨H0', v, d, M', rfl, e1, w1, rv, q1⟩⟩
  refine PyProof.Rows.callWith_kw (thn one fun us t ⟨vs, HA, J, ra, HB, v, d, M', ev, eB, wB, rd, after⟩ => ?_) hst hpl hall hnone
  subst ev
  obtain ⟨u, eu, ru⟩ := vals1 ra
  subst eu
  refine thn ((pk_cons (nm := some (Str.ofString "key")) (pe_lam hl hnd hdef) (pk_cons (nm := some (Str.ofString "reverse")) pe_bl pk_nil)).run pos pins t σ HA (fun zs H' => ∃ f c' HC, zs = [.ref f, .bl true] ∧ Same HB HC ∧ Wd X.K Fr HC M' H' ∧ HC f = some (LamF f (lamNF X params scope c') body) ∧ HC c' = some (CodeO c' (X.env.qual ++ "<lambda>"))) J
    ⟨Fr, HB, M', wB, fun f c' HC HD eC wC hf hc => ⟨f, c', HC, rfl, eC, wC, hf, hc⟩⟩) fun ws t2 ⟨zs, HD, J2, rz, f, c', HC, ez, eC, wC, hf, hc⟩ => ?_
  subst ez
  obtain ⟨g, g2, rfl, rg, rg2⟩ := vals2 rz
  obtain rfl : g = Value.ref f := rg
  obtain rfl : g2 = Value.bool true := rg2
  rw [hks]
  exact sortL_run (kw := fun g => [(Str.ofString "key", g), (Str.ofString "reverse", .bool true)]) hnd S hjs bind (hr.mono hj) hbody (fun _ _ => ksk_s2 _ _ _) (fun _ _ => ksk_l2 _ _ _) (fun _ _ => ksk_t2 _ _ _) J2 (h1.mono (eB.trans eC)) wC (rd.mono eC) ru hf hc after (h4.mono (eB.trans eC))
end
end DL

set_option autoImplicit false
set_option maxRecDepth 100000
set_option maxHeartbeats 4000000
/-! the law's end where defs make lambdas: their tables stand in the memory from the start -/
namespace DL
open PySem PySem.Spec PyProof.Rows L2 LamX
/-! ### a known part with a mark behind it -/
def markO (xs : List Str) : Obj := { cls := .none, data := .fields (xs.map fun x => Value.str x 0).toArray }
abbrev marked (K : PySem.W.Frag) (xs : List Str) : PySem.W.Frag := K ++ [(mainGlobals, markO xs)]
theorem lamNames_marked (K : PySem.W.Frag) (xs : List Str) : lamNames (marked K xs) = xs := by
  unfold lamNames marked
  rw [List.getLast?_concat]
  show List.filterMap _ (xs.map fun x => Value.str x 0).toArray.toList = xs
  rw [List.toList_toArray, List.filterMap_map]
  induction xs with
  | nil => rfl
  | cons x r ih => rw [List.filterMap_cons]; simp only [Function.comp]; rw [ih]
section
variable {K : PySem.W.Frag} {xs : List Str}
theorem app_lk (h : (K.lookup mainGlobals).isSome = true) (a : Addr) : (marked K xs).lookup a = K.lookup a := by
  unfold marked
  rw [List.lookup_append]
  cases e : K.lookup a with
  | some o => rfl
  | none =>
    have ne : (a == mainGlobals) = false := by
      cases q : a == mainGlobals with
      | false => rfl
      | true => rw [eq_of_beq q] at e; rw [e] at h; cases h
    show (List.lookup a [(mainGlobals, markO xs)]) = none
    unfold List.lookup
    rw [ne]
    rfl
theorem has_main {x : Str} {v : Option Value} (h : PySem.W.nsIn K mainGlobals x = some v) : (K.lookup mainGlobals).isSome = true := by
  unfold PySem.W.nsIn at h
  split at h
  · rename_i e; rw [e]; rfl
  · cases h
theorem app_ns (h : (K.lookup mainGlobals).isSome = true) {n : Addr} {x : Str} : PySem.W.nsIn (marked K xs) n x = PySem.W.nsIn K n x := by
  unfold PySem.W.nsIn; rw [app_lk h]
theorem app_cd (h : (K.lookup mainGlobals).isSome = true) {c : Value} {x : Str} : PySem.W.codeIn (marked K xs) c x = PySem.W.codeIn K c x := by
  cases c with
  | ref a => unfold PySem.W.codeIn; simp only [app_lk h]
  | _ => rfl
theorem app_kp (h : (K.lookup mainGlobals).isSome = true) {f : Addr} {oc : Value} {od : Option Addr} {fd : FuncData} {sl : Array (Option Value)} (l : K.lookup f = some ⟨oc, od, .func fd, sl⟩) : PySem.W.keepIn (marked K xs) (.ref f) = true := by
  unfold PySem.W.keepIn; simp only [app_lk h, l]
theorem app_tab (h : (K.lookup mainGlobals).isSome = true) {x : Str} : PySem.W.tabIn (marked K xs) x = PySem.W.tabIn K x := by
  unfold PySem.W.tabIn; simp only [app_ns h, app_lk h]
theorem app_in (h : (K.lookup mainGlobals).isSome = true) {g : Heap} (X : K.In g) : (marked K xs).In g := fun a o e => X a o (by rw [← app_lk (xs := xs) h]; exact e)
theorem tab_mk {x : Str} {c P f : Addr} {oc cv : Value} {od dd : Option Addr} {fd : FuncData} {sl ss : Array (Option Value)} {us : Array Value} (hn : PySem.W.nsIn K mainGlobals x = some (some (.ref f))) (hf : K.lookup f = some ⟨oc, od, .func fd, sl⟩) (hc : fd.code = .ref c)
    (hu : K.lookup c = some ⟨cv, dd, .fields us, ss⟩) (hP : (us[11]? : Option Value) = some (.ref P)) : PySem.W.tabIn K x = some (c, P) := by
  unfold PySem.W.tabIn
  simp only [hn, hf, hc, hu, hP]
/-- the code object of the def that has this table -/
theorem tab_code {x : Str} {c P f : Addr} {oc : Value} {od : Option Addr} {fd : FuncData} {sl : Array (Option Value)} (h : PySem.W.tabIn K x = some (c, P)) (hn : PySem.W.nsIn K mainGlobals x = some (some (.ref f))) (hf : K.lookup f = some ⟨oc, od, .func fd, sl⟩) :
    fd.code = .ref c ∧ ∃ o, K.lookup c = some o := by
  unfold PySem.W.tabIn at h
  rw [hn] at h
  simp only [hf] at h
  split at h
  · rename_i c0 ec
    split at h
    · rename_i eo
      split at h
      · cases h; exact ⟨ec, _, eo⟩
      · cases h
    · cases h
  · cases h
end
/-- the def x, at f, makes lambdas -/
def LamAt (K : PySem.W.Frag) (mg : Str → Option Value) (base : Heap) (x : Str) (f : Addr) : Prop := ∃ c P, x ∈ lamNames K ∧ PySem.W.tabIn K x = some (c, P) ∧ TabB base mg c P ∧
  ∀ (oc : Value) (od : Option Addr) (fd : FuncData) (sl : Array (Option Value)), K.lookup f = some ⟨oc, od, .func fd, sl⟩ → fd.code = .ref c
/-! ### a def that makes lambdas, by its body -/
section
variable {P : Program} {w : World} {K : PySem.W.Frag} {mg : Str → Option Value} {base : Heap}
theorem Fun.okDL {x : Str} {st : Stmt} {f : Addr} {fd : FuncData} {N ps : List Str} {k : Nat} {F : FD} {ws : WS} (L : LamAt K mg base x f) (Fu : Fun K x x st f fd) (S : FnScope N ps (defScope st))
    (hbody : ∀ (cdv : Value) (A : Around) (outer : List PySem.Env) (s : Shared) (H : Hp) (E : XK), DG.RoomG k (A.deeper (PyProof.Rows.envOfC x (defScope st) s.heap.objs.size f cdv)) → LamIn (cxOf CX0 P w K mg base N x (defScope st) f cdv A outer s H E).nox x → DSs (cxOf CX0 P w K mg base N x (defScope st) f cdv A outer s H E).nox (defBody st) ws)
    (hw : ∀ ds M kd, F ds M kd → ds.length = ps.length ∧ ws (fin kd) (startD N ds) M) : DFn P w K mg base (k + 1) f fd ps F := by
  obtain ⟨c, T, hx, ht, TB, hc⟩ := L
  obtain ⟨oc, od, kV, doc, pm, an, cdv0, ct, osl, rfl, lk, hcd⟩ := Fu.ex
  have ec : cdv0 = .ref c := hc _ _ _ _ lk
  subst ec
  have kk := Fu.kp
  refine ⟨fun vs H Q E ⟨Fr, H0, M, ds, kd, w, r, q, c⟩ => by rw [r.length]; exact (hw ds M kd q).1, fun A outer s H args us vs Q E hr e0 hb r hsp => ?_⟩
  obtain ⟨Fr, H0, M, ds, kd, wd, rd, q, cc⟩ := hsp
  have hl : vs.length = ps.length := by rw [rd.length]; exact (hw ds M kd q).1
  have KX : K.In s.heap := e0.mod.kin.keeps fun b o e => (e0.bs b o e).1
  have lim := e0.mod.nolimit.keeps fun b o e => (e0.bs b o e).1
  have kinds : ∀ y ∈ ps.zip us, (defScope st).names.lookup y.1 = some .local ∨ ((defScope st).names.lookup y.1 = some .cell ∧ ((cellsFrom (s.heap.objs.size + 1) (defScope st).names []).lookup y.1).isSome = true) := fun y hy =>
    (S.par y.1 (List.of_mem_zip (a := y.1) (b := y.2) hy).1).imp id fun z => ⟨z, PySem.W.cellsFrom_some _ _ _ (.inl z)⟩
  apply codeAny_call_function hr.r.depth (KX _ _ lk) rfl S.co S.gen rfl (PySem.W.codeRec_of KX hcd)
  refine hb _ _ _ _ (wpAny_newFunctionEnv_cells S.kind kinds fun env he s1 x1 => ?_)
  subst he
  refine ⟨lim.keeps x1.toInCall.keep, ?_⟩
  apply codeAny_func
  have body := hbody (.ref c) A outer s H E ⟨hr.r.deeper _, hr.g⟩ ⟨c, T, hx, ht, TB, rfl, rfl⟩
  have I := inv_start (CX := CX0) (E := E) S hr.r.hd e0 hl r x1
  refine wpAny_mono (body.run.nox.run [] s1 (start N vs) H { nx := fun _ H' => Q .non H', rt := Q } I ⟨startD N ds, Fr, H0, M, fin kd, slots_start rd, wd, (hw ds M kd q).2, ⟨fun σ' H0' H' Γ' M' e s w q => cc .non H0' H' .non M' e w .non q, cc, fun _ _ _ _ _ _ _ _ q => q.elim, fun _ _ _ _ _ _ _ _ q => q.elim⟩⟩) (fun fl s' z => ?_) fun e s' z => z
  match fl, z with
  | .ret u, ⟨v, σ', H', J, rv, z⟩ => exact ⟨v, H', J.os, J.bare, J.base, J.hok, rv, z⟩
  | .next, ⟨σ', H', J, z⟩ => exact ⟨V.non, H', J.os, J.bare, J.base, J.hok, rfl, z⟩
  | .brk, ⟨_, _, _, z⟩ => exact z.elim
  | .cont, ⟨_, _, _, z⟩ => exact z.elim
end
/-! ### the law's end -/
/-- the tables of the lambda-making defs in the heap at the start -/
structure TabsH (K : PySem.W.Frag) (h : Heap) : Prop where
  mt : ∀ P x, TabOf K P x → h.get? P = some { cls := .none, data := .fields #[] } ∧ K.lookup P = none
  one : ∀ P x y, TabOf K P x → TabOf K P y → x = y
  cd : ∀ x c P, x ∈ lamNames K → PySem.W.tabIn K x = some (c, P) → PySem.W.CodeHd h c P ∧ ∃ o, K.lookup c = some o
/-- what the law's def is told -/
def spLaw (K : PySem.W.Frag) : Sp := fun vs H Q _ => ∃ (a : Addr) (ns : List Int), vs = [.ref a] ∧ SqL K H a (ns.map V.int) ∧ ns.length ≤ 63 ∧ (∀ P x, TabOf K P x → H P = some (.tbl #[])) ∧ (∀ P x y, TabOf K P x → TabOf K P y → x = y) ∧ ∀ H', Q (.bl true) H'
theorem dats_ints {K : PySem.W.Frag} {H : Hp} : ∀ ns : List Int, Dats K H (ns.map V.int) (ns.map D.int)
  | [] => .nil
  | n :: ns => .cons (.int n) (dats_ints ns)
open Classical in
/-- the world at the law's start -/
theorem start_wd {K : PySem.W.Frag} {H : Hp} (hT : ∀ P x, TabOf K P x → H P = some (.tbl #[])) (hu : ∀ P x y, TabOf K P x → TabOf K P y → x = y) : ∃ H0 M, Wd K (fun _ => none) H0 M H ∧ ∀ a xs, SqL K H a xs → SqL K H0 a xs := by
  let t : Addr → Option Str := fun P => if h : ∃ x, TabOf K P x then some h.choose else none
  have t1 : ∀ P x, TabOf K P x → t P = some x := fun P x h => by
    have e : ∃ x, TabOf K P x := ⟨x, h⟩
    show (if h : ∃ x, TabOf K P x then some h.choose else none) = _
    rw [dif_pos e, hu P _ _ e.choose_spec h]
  have t2 : ∀ P x, t P = some x → TabOf K P x := fun P x h => by
    have h : (if h : ∃ x, TabOf K P x then some h.choose else none) = some x := h
    split at h
    · rename_i e; cases h; exact e.choose_spec
    · cases h
  refine ⟨fun b => if (t b).isSome then none else H b, fun b => (t b).map Cell.ctab, ⟨fun b u e => ?_, fun b c e => ?_, fun b u e => (nomatch e), fun P x h => by show (t P).map _ = _; rw [t1 P x h]; rfl⟩, fun a xs h => ?_⟩
  · have e : (if (t b).isSome then none else H b) = some u := e
    split at e
    · cases e
    · exact e
  · have e : (t b).map Cell.ctab = some c := e
    cases q : t b with
    | none => rw [q] at e; cases e
    | some x =>
      rw [q] at e
      cases e
      refine ⟨rfl, _, hT b x (t2 b x q), .tab ⟨True.intro, fun po u z => ?_⟩⟩
      have z : codeAmong po [] = some u := z
      simp [codeAmong] at z
  · have na : ∀ o : HO, H a = some o → (∀ ps, o ≠ .tbl ps) → (if (t a).isSome then none else H a) = some o := fun o e n => by
      cases q : t a with
      | none => exact e
      | some x => exact absurd (Option.some.inj (e.symm.trans (hT a x (t2 a x q)))) (n _)
    rcases h with (h | ⟨o, h⟩) | h
    · exact .inl (.inl (na _ h fun ps z => by cases z))
    · exact .inl (.inr ⟨o, na _ h fun ps z => by cases z⟩)
    · exact .inr h
def FLaw (F : FD) : Prop := ∀ (ns : List Int) (M : Mem) (k : KD), ns.length ≤ 63 → (∀ M', k (.bl true) M') → F [.scr (ns.map D.int)] M k
theorem law_sp {P : Program} {w : World} {K : PySem.W.Frag} {mg : Str → Option Value} {base : Heap} {k : Nat} {f : Addr} {fd : FuncData} {F : FD} (G : DFn P w K mg base k f fd ["script"] F) (hF : FLaw F) : DG.FnG P w K mg base CX0 k f fd ["script"] (spLaw K) :=
  DG.FnG.imp G fun vs H Q E ⟨a, ns, e, hs, hl, hT, hu, hq⟩ => by
    obtain ⟨H0, M, w, sq⟩ := start_wd hT hu
    exact ⟨_, H0, M, [.scr (ns.map D.int)], fun d _ => d = .bl true, w, (by rw [e]; exact .cons (.scr (sq a _ hs) (dats_ints ns)) .nil), hF ns M _ hl fun _ => rfl, fun v H0' H' d M' _ _ r z => (by subst z; cases r; exact hq H')⟩
section
variable {P : Program} {w : World} {K : PySem.W.Frag} {mg mb : Str → Option Value} {k : Nat} {fa a : Addr} {fd : FuncData} {s : Shared} {vs : List Value} {ns : List Int}
theorem call_tabs {H : Hp} (hT : ∀ P x, TabOf K P x → H P = some (.tbl #[])) (hH : ∀ b, H b = none ∨ (∃ x, TabOf K b x) ∨ (b = a ∧ K.lookup a = none ∧ ∃ xs, H b = some (.frz { cls := .type "list", data := .seq vs.toArray } (.lst xs)))) (TH : TabsH K s.heap) (hok : HOk P w H s.heap)
    (hl : s.heap.get? a = some { cls := .type "list", data := .seq vs.toArray }) (KX : K.In s.heap) (n1 : s.heap.Ns mainGlobals mg) (n2 : s.heap.Ns builtinsNs mb) (n3 : ∀ x : Str, x ≠ "__name__" → mb x = bootBuiltins x) (lim : s.heap.NoLimit) (gn : s.gens = #[]) (hr : Room k callerA)
    (bmain : ∃ (bm : Addr) (ob : Obj), mg "__builtins__" = some (.ref bm) ∧ bm ≠ builtinsNs ∧ s.heap.get? bm = some ob ∧ ob.cls = .type "module" ∧ ob.dict = some builtinsNs ∧ ob.data = .plain)
    (F : ∀ base : Heap, K.In base → base.Ns mainGlobals mg → (∀ x c P, x ∈ lamNames K → PySem.W.tabIn K x = some (c, P) → TabB base mg c P) → DG.FnG P w K mg base CX0 k fa fd ["script"] (spLaw K)) (bind : ∀ (s : Shared) (u : Value), BindsTo s fd ⟨[u], []⟩ [("script", u)])
    (hsp : spLaw K [.ref a] H (fun v _ => v = .bl true) fun _ _ _ => False) : codeAny (model P w) callerA (.call (.ref fa) ⟨[.ref a], []⟩) (DG.Told s) s := by
  -- what is tracked is the script or a table
  have kind : ∀ {b : Addr} {o : Obj}, s.heap.get? b = some o → (∀ xs n, o.data ≠ .seq xs n) → o.data ≠ .fields #[] → H b = none := fun {b o} e d1 d2 => by
    rcases hH b with z | ⟨x, z⟩ | ⟨z, _⟩
    · exact z
    · have := (TH.mt b x z).1
      rw [e] at this
      cases this
      exact absurd rfl d2
    · subst z
      rw [hl] at e
      cases e
      exact absurd rfl (d1 _ _)
  have bas : ∀ {b : Addr} {o : Obj}, s.heap.get? b = some o → H b = none → (hidT s.heap H).get? b = some o := fun e n => hidT_get e n
  have ns' : ∀ {b : Addr} {m : Str → Option Value}, s.heap.Ns b m → (hidT s.heap H).Ns b m := fun ⟨o, d, n, e, hd, r⟩ => ⟨o, d, n, bas e (kind e (fun xs n z => by rw [hd] at z; cases z) fun z => by rw [hd] at z; cases z), hd, r⟩
  have KB : K.In (hidT s.heap H) := fun b o e => bas (KX b o e) (by
    rcases hH b with z | ⟨x, z⟩ | ⟨z, z2, _⟩
    · exact z
    · rw [(TH.mt b x z).2] at e; cases e
    · subst z; rw [z2] at e; cases e)
  have dictG : ∀ {b : Addr} {o : Obj}, s.heap.get? b = some o → (∀ es n, o.data ≠ .dict es n) → b ≠ mainGlobals := fun {b o} e hn z => by
    obtain ⟨o', d, n, e', hd, _⟩ := n1
    rw [z, e'] at e
    cases e
    exact hn _ _ hd
  have TB : ∀ x c P, x ∈ lamNames K → PySem.W.tabIn K x = some (c, P) → TabB (hidT s.heap H) mg c P := fun x c P hx ht => by
    obtain ⟨hcd, oc, hoc⟩ := TH.cd x c P hx ht
    have hP := (TH.mt P x ⟨hx, c, ht⟩).1
    refine ⟨?_, ?_, fun z => dictG hP (fun es n z => by cases z) z.symm⟩
    · obtain ⟨o, us, fi, tf, fl, tg, inF, tx, tt, e, r⟩ := hcd
      refine ⟨o, us, fi, tf, fl, tg, inF, tx, tt, ?_, r⟩
      rw [KX c oc hoc] at e
      cases e
      exact KB c oc hoc
    · obtain ⟨bm, ob, b1, b2, b3, b4, b5, b6⟩ := bmain
      refine ⟨bm, ob, b1, b2, dictG b3 (fun es n z => by rw [b6] at z; cases z), fun z => ?_, bas b3 (kind b3 (fun xs n z => by rw [b6] at z; cases z) fun z => by rw [b6] at z; cases z), b4, b5, b6⟩
      rw [z, hP] at b3
      cases b3
      cases b6
  have Md : Mod K mg (hidT s.heap H) := by
    obtain ⟨c, l1, l2⟩ := lim
    exact ⟨KB, ns' n1, ⟨mb, ns' n2, n3⟩, c, ns' l1, l2⟩
  have E0 : Env0 P w K mg (hidT s.heap H) callerA [] s H := ⟨rfl, Md, fun b o e => of_hidT e, Nat.le_of_eq (hidT_size _ _), trivial, fun b z => (by cases z), hok, .of_eq gn⟩
  refine codeAny_mono ((F _ KB (ns' n1) TB).run callerA [] s H ⟨[.ref a], []⟩ [.ref a] [.ref a] (fun v _ => v = .bl true) (fun _ _ _ => False) ⟨hr, rfl⟩ E0 (bind s _) (.cons rfl .nil) hsp) fun r s' z => ?_
  match r, z with
  | .error e, z => exact (z : False).elim
  | .ok .next, z => exact z.elim
  | .ok .brk, z => exact z.elim
  | .ok .cont, z => exact z.elim
  | .ok (.ret u), ⟨v, H', os, br, un, ok', rv, q⟩ =>
    have q : v = .bl true := q
    subst q
    obtain rfl : u = Value.bool true := rv
    refine ⟨rfl, ⟨fun b o e => ?_, fun b o e => ?_⟩, os, br⟩
    · rcases hH b with z | ⟨x, z⟩ | ⟨z, _, xs, z3⟩
      · exact .inl (un.keep b o e z (fun z => by cases z) (fun z => by cases z))
      · obtain ⟨more, g⟩ := un.tbls b #[] (hT b x z)
        have g2 : s'.heap.get? b = some { cls := .none, data := .fields (#[] ++ more) } := ok' b _ g
        have hP := (TH.mt b x z).1
        obtain ⟨hx, c, ht⟩ := z
        rw [hP] at e
        cases e
        exact .inr (.inl ⟨((TH.cd x c b hx ht).1.tab hP).isCodeTable, rfl, #[], more, rfl, g2⟩)
      · have f1 := (hok b _ z3).1
        have f2 := (ok' b _ (un.frzs b _ _ z3)).1
        rw [e] at f1
        cases f1
        exact .inl f2
    · rcases hH b with z | ⟨x, z⟩ | ⟨z, _, xs, z3⟩
      · exact ⟨o, un.keep b o e z (fun z => by cases z) (fun z => by cases z)⟩
      · obtain ⟨more, g⟩ := un.tbls b #[] (hT b x z)
        exact ⟨_, ok' b _ g⟩
      · exact ⟨_, (ok' b _ (un.frzs b _ _ z3)).1⟩
end
open Classical in
/-- the head's goal -/
theorem walkT {l : PySem.W.OpenLaw} {q : Program} {loose : List Str} {XP : (Str → Option Value) → Heap → Prop} {YP : World → Heap → Prop} {d : DefRec} {K : Params → PySem.W.Frag} {k : Nat}
    (hn : l.most = some 63) (hdf : d.params.defaults = []) (hr : Room k callerA) (hY : ∀ (w : World) (h : Heap), YP w h → (K w.params).In h)
    (F : ∀ (w : World) (mg mb : Str → Option Value) (mean : ExcName → Option Value) (fa : Addr) (h : Heap), (K w.params).In h → Top q (PySem.W.looseW q loose) mean mg mb h → mg d.name = some (.ref fa) →
      ∃ K' : PySem.W.Frag, K'.In h ∧ TabsH K' h ∧ ∃ fd : FuncData, (∀ (s : Shared) (u : Value), BindsTo s fd ⟨[u], []⟩ [("script", u)]) ∧
        ∀ base : Heap, K'.In base → base.Ns mainGlobals mg → (∀ x c P, x ∈ lamNames K' → PySem.W.tabIn K' x = some (c, P) → TabB base mg c P) → DG.FnG l.prog w K' mg base CX0 k fa fd ["script"] (spLaw K')) :
    PySem.W.WalkO q loose XP YP l.row.toRowW d [] (fun f vs => PySem.call f vs) := by
  apply Att.attach_call hn hdf
  intro w s0 s1 mg mb fa o pm cd doc a vs ns G Y ho hd hcd hmg hobj hints hlen hg
  obtain ⟨K', KX, TH, fd, hb, hF⟩ := F w mg mb _ fa _ (hY w _ Y) G.T hmg
  have vi := vals_ints hints
  have len := hints.length
  have na : ∀ x, ¬ TabOf K' a x := fun x h => by
    have := (TH.mt a x h).1
    rw [hobj] at this
    cases this
  let t : Addr → Prop := fun P => ∃ x, TabOf K' P x
  cases hk : K'.lookup a with
  | some o =>
    have e := KX a o hk
    rw [hobj] at e
    cases e
    have sq : SqL K' (fun b => if t b then some (.tbl #[]) else none) a (ns.map V.int) := .inr ⟨_, vs.toArray, _, hk, rfl, rfl, rfl, (by rw [List.size_toArray]; exact Nat.le_trans (by omega) (show (63 : Nat) ≤ sizeLine by decide)), by simpa using vi⟩
    refine call_tabs (H := fun b => if t b then some (.tbl #[]) else none) (a := a) (vs := vs) (fun P x h => if_pos ⟨x, h⟩) (fun b => ?_) TH (fun b u z => ?_) hobj KX G.T.g G.T.b G.T.builtins G.T.nolimit hg hr G.T.bmain hF hb ⟨a, ns, rfl, sq, hlen, fun P x h => if_pos ⟨x, h⟩, TH.one, fun _ => rfl⟩
    · by_cases h : t b
      · exact .inr (.inl h)
      · exact .inl (if_neg h)
    · by_cases h : t b
      · have z : (if t b then some (HO.tbl #[]) else none) = some u := z
        rw [if_pos h] at z
        cases z
        obtain ⟨x, hx⟩ := h
        exact (TH.mt b x hx).1
      · have z : (if t b then some (HO.tbl #[]) else none) = some u := z
        rw [if_neg h] at z
        cases z
  | none =>
    let O : HO := .frz { cls := .type "list", data := .seq vs.toArray } (.lst (ns.map V.int))
    let H : Hp := fun b => if b = a then some O else if t b then some (.tbl #[]) else none
    have h1 : H a = some O := if_pos rfl
    have h2 : ∀ b, b ≠ a → H b = if t b then some (.tbl #[]) else none := fun b e => if_neg e
    have h3 : ∀ P x, TabOf K' P x → H P = some (.tbl #[]) := fun P x h => by
      rw [h2 P fun z => na x (by rw [← z]; exact h)]
      exact if_pos ⟨x, h⟩
    clear_value H
    refine call_tabs (H := H) (a := a) (vs := vs) h3 (fun b => ?_) TH (fun b u z => ?_) hobj KX G.T.g G.T.b G.T.builtins G.T.nolimit hg hr G.T.bmain hF hb ⟨a, ns, rfl, .inl (.inr ⟨_, h1⟩), hlen, h3, TH.one, fun _ => rfl⟩
    · by_cases e : b = a
      · subst e; exact .inr (.inr ⟨rfl, hk, _, h1⟩)
      · by_cases h : t b
        · exact .inr (.inl h)
        · exact .inl ((h2 b e).trans (if_neg h))
    · by_cases e : b = a
      · subst e
        rw [h1] at z
        cases z
        exact ⟨hobj, (by rw [List.length_map]; exact Nat.le_trans (by omega) (show (63 : Nat) ≤ sizeLine by decide)), vs, _, vi, hobj⟩
      · rw [h2 b e] at z
        by_cases h : t b
        · rw [if_pos h] at z
          cases z
          obtain ⟨x, hx⟩ := h
          exact (TH.mt b x hx).1
        · rw [if_neg h] at z
          cases z
end DL

set_option autoImplicit false
set_option maxRecDepth 100000
set_option maxHeartbeats 4000000
/-! more of dicts: pop(k), sorted(d), a walk of d.values(); any() -/
namespace DL
open PySem PySem.Spec PyProof.Rows L2
section
variable {X : Cx} {K : PySem.W.Frag}
/-! any(list of truths) -/
def rdAny : FD := fun ds M k => match ds with
  | [x] => (match asR M x with | some xs => (match boolsD xs with | some l => k (.bl (l.any id)) M | none => False) | none => False)
  | _ => False
theorem calld_any : CallD K (rAny K) rdAny := fun Fr H0 M H vs ds k Q w r h c => by
  unfold rdAny at h
  split at h
  · obtain ⟨v, rfl, rv⟩ := dats1 r
    split at h
    · rename_i xs e
      split at h
      · rename_i l el
        obtain ⟨a, ws, rfl, hs, hd⟩ := asR_ok w rv e
        have := boolsD_ok hd el
        subst this
        exact ⟨a, l, rfl, hs, c _ H0 H _ M (Same.refl _) w (.bl _) h⟩
      · exact h.elim
    · exact h.elim
  · exact h.elim
theorem boot_any : bootBuiltins "any" = some (.builtin "any") := by decide +kernel
theorem de_any {e : Expr} {we : WE} {p pos : Pos} (hc : X.calm = true) (hm : X.mg "any" = none) (he : DE X e we) (hs : starEach [e] X.env = (false, eval e X.env) :: starEach [] X.env := by rfl) (hg : Gl X "any" := by rfl) (hpl : (backTo pos (starEach [] X.env)).any (·.1) = false := by rfl) :
    DE X (.Call (.Name "any" p) [e] [] pos) (wCall rdAny (wCons we wNil)) :=
  de_callB (cr_any hc) calld_any hm boot_any (da_cons he da_nil hs) hg (by decide) (by decide) hs hpl
/-! d.pop(k), k there -/
def rdPopK (x y : D) (M : Mem) (k : KD) : Prop := match x, keyD y with
  | .cel a, some κ => (match M a with | some (.dct kvs) => (match lookD kvs κ with | some z => k z (setM M a (.dct (dropD kvs κ))) | none => False) | _ => False)
  | _, _ => False
def isDc (M : Mem) : D → Prop
  | .cel a => ∃ kvs, M a = some (.dct kvs)
  | _ => False
def wPopK (wa wi : WE) : WE := fun Γ M k => wa Γ M fun x M1 => isDc M1 x ∧ wi Γ M1 fun y M2 => rdPopK x y M2 k
theorem de_popK {o e : Expr} {wa wi : WE} {apos cpos : Pos} (ho : DE X o wa) (he : DE X e wi) (m : M1 X o "pop" apos e cpos := by exact ⟨by rfl, by rfl, by rfl, by rfl⟩) : DE X (.Call (.Attribute o "pop" apos) [e] [] cpos) (wPopK wa wi) :=
  de_of (pe_dpop1 ho.run he.run m) fun σ H Q Γ Fr H0 M k h1 h2 h3 h4 => ⟨Γ, Fr, H0, M, _, h1, h2, h3, fun xv H2 H'' dx M2 e2 w2 r2 q2 => by
    obtain ⟨hd, q2⟩ := q2
    cases dx with
    | cel a =>
      cases r2
      obtain ⟨kvs0, em0⟩ := hd
      obtain ⟨_, o0, ho0, ck0⟩ := w2.mem a _ em0
      cases ck0 with
      | dct hk0 =>
        refine ⟨a, rfl, (.inl ⟨_, .of ho0⟩), Γ, Fr, H2, M2, _, h1.mono e2, w2, q2, fun yv H3 H''' dy M3 e3 w3 r3 q3 => ?_⟩
        unfold rdPopK at q3
        split at q3
        · rename_i a' κ ea ek
          cases ea
          split at q3
          · rename_i kvs em
            obtain ⟨_, o, ho, ck⟩ := w3.mem a _ em
            cases ck with
            | dct hk =>
              have := keyD_ok r3 ek
              subst this
              split at q3
              · rename_i z el
                obtain ⟨v, hv, rv⟩ := (look_ok hk).1 z el
                exact ⟨_, κ, v, ho, rfl, hv, h4 v H3 _ z _ (e2.trans e3) (w3.set em (.dct (paired_drop κ hk))) rv q3⟩
              · exact q3.elim
          · exact q3.elim
        · exact q3.elim
    | _ => exact hd.elim⟩
/-! a dict that nobody changes while a statement runs; for x in d.values() -/
def lockK (a : Addr) (o : Obj) (kvs : List (Key × V)) (kds : List (Key × D)) (k : KS) : KS where
  nx := fun Γ M => M a = some (.dcf o kvs kds) ∧ k.nx Γ (setM M a (.dct kds))
  rt := fun x M => M a = some (.dcf o kvs kds) ∧ k.rt x (setM M a (.dct kds))
  bk := fun Γ M => M a = some (.dcf o kvs kds) ∧ k.bk Γ (setM M a (.dct kds))
  ct := fun Γ M => M a = some (.dcf o kvs kds) ∧ k.ct Γ (setM M a (.dct kds))
def wLock (ws : WS) : WS := fun k Γ M => ∃ a kds, M a = some (.dct kds) ∧ ∀ o kvs, ws (lockK a o kvs kds k) Γ (setM M a (.dcf o kvs kds))
theorem Wd.unlockD {Fr H0 H : Hp} {M : Mem} {a : Addr} {o : Obj} {kvs : List (Key × V)} {kds : List (Key × D)} (w : Wd K Fr H0 M H) (e : M a = some (.dcf o kvs kds)) : H a = some (.frz o (.dK kvs)) ∧ Wd K Fr H0 (setM M a (.dct kds)) (upd H a (.dK kvs)) := by
  obtain ⟨_, u, hu, ck⟩ := w.mem a _ e
  cases ck with
  | dcf hk => exact ⟨hu, w.set e (.dct hk)⟩
theorem ds_lock {st : Stmt} {ws : WS} (h : DS X st ws) : DS X st (wLock ws) :=
  ds_of (ps_lock h.run) fun D σ H Γ Fr H0 M k h1 h2 h3 h4 => by
    obtain ⟨a, kds, em, h3⟩ := h3
    obtain ⟨_, u, hu, ck⟩ := h2.mem a _ em
    cases ck with
    | dct hk =>
      rename_i kvs
      refine ⟨a, .dK kvs, hu, trivial, fun od => ⟨Γ, Fr, H0, _, _, h1, h2.set em (.dcf hk), h3 od kvs, ?_⟩⟩
      refine ⟨fun σ' H0' H' Γ' M' e s w q => ?_, fun v H0' H' d M' e w r q => ?_, fun σ' H0' H' Γ' M' e s w q => ?_, fun σ' H0' H' Γ' M' e s w q => ?_⟩
      · obtain ⟨g1, g2⟩ := Wd.unlockD w q.1; exact ⟨g1, h4.nx σ' H0' _ Γ' _ e s g2 q.2⟩
      · obtain ⟨g1, g2⟩ := Wd.unlockD w q.1; exact ⟨g1, h4.rt v H0' _ d _ e g2 r q.2⟩
      · obtain ⟨g1, g2⟩ := Wd.unlockD w q.1; exact ⟨g1, h4.bk σ' H0' _ Γ' _ e s g2 q.2⟩
      · obtain ⟨g1, g2⟩ := Wd.unlockD w q.1; exact ⟨g1, h4.ct σ' H0' _ Γ' _ e s g2 q.2⟩
def gDcf (a : Addr) (o : Obj) (kvs : List (Key × V)) (kds : List (Key × D)) : Mem → Prop := fun M => M a = some (.dcf o kvs kds)
def wiVals (we : WE) : WI := fun Γ M k => we Γ M fun d M1 => ∃ a o kvs kds, d = .cel a ∧ M1 a = some (.dcf o kvs kds) ∧ k (kds.map (·.2)) (gDcf a o kvs kds) M1
theorem dks_get {H : Hp} : ∀ {kvs : List (Key × V)} {kds : List (Key × D)} {i : Nat} {κ : Key} {v : V}, DKs K H kvs kds → kvs[i]? = some (κ, v) → ∃ d, kds[i]? = some (κ, d) ∧ Dat K H v d
  | _, _, i, _, _, .nil, e => by simp at e
  | _, _, 0, _, _, .cons (a := p) (b := q) h t, e => by
    simp at e
    subst e
    exact ⟨q.2, by rw [List.getElem?_cons_zero]; exact congrArg some (Prod.ext h.1.symm rfl), h.2⟩
  | _, _, i + 1, _, _, .cons h t, e => by
    obtain ⟨d, h1, h2⟩ := dks_get (i := i) t (by simpa using e)
    exact ⟨d, by simpa using h1, h2⟩
theorem walks_vals {H0 : Hp} {a : Addr} {o : Obj} {kvs : List (Key × V)} {kds : List (Key × D)} : Walks K (Itd a o kvs) H0 (kds.map (·.2)) (gDcf a o kvs kds) := fun Fr H0' M H e w g => by
  obtain ⟨_, u, hu, ck⟩ := w.mem a _ g
  cases ck with
  | dcf hk =>
    have hl := Paired.length hk
    refine ⟨fun i hi => ⟨hu, by rw [List.length_map] at hi; omega⟩, ⟨hu, by rw [List.length_map]; omega⟩, fun i x H' d hd y => ?_⟩
    obtain ⟨rfl, κ, hx⟩ := y
    obtain ⟨d', h1, h2⟩ := dks_get hk hx
    rw [List.getElem?_map, h1] at hd
    cases hd
    exact ⟨H0', Same.refl _, w, h2⟩
theorem di_values {tg e : Expr} {apos cpos : Pos} {we : WE} (he : DE X e we) (hbase : attributeBase e "values" X.env (eval e X.env) = eval e X.env := by rfl) (hline : (apos.endLine == cpos.line) = true := by rfl) : DI X tg (.Call (.Attribute e "values" apos) [] [] cpos) (wiVals we) :=
  ⟨_, pi_values he.run hbase hline, fun σ H Γ Fr H0 M k R h1 h2 h3 h4 => ⟨Γ, Fr, H0, M, _, h1, h2, h3, fun v H1 H' d M' e1 w1 r1 q1 => by
    obtain ⟨a, o, kvs, kds, rfl, em, q⟩ := q1
    cases r1
    obtain ⟨_, u, hu, ck⟩ := w1.mem a _ em
    cases ck with
    | dcf hk => exact ⟨a, o, kvs, rfl, hu, h4 _ _ _ H' H1 M' e1 w1 q walks_vals⟩⟩⟩
/-! sorted(d): keys all whole numbers, or all texts -/
def intKeys : List (Key × D) → Option (List Int)
  | [] => some []
  | (.inl i, _) :: r => (intKeys r).map (i :: ·)
  | _ => none
theorem intKeys_ok {H : Hp} : ∀ {kvs : List (Key × V)} {kds : List (Key × D)} {l : List Int}, DKs K H kvs kds → intKeys kds = some l → kvs.map (·.1) = l.map Sum.inl
  | _, _, _, .nil, e => by cases e; rfl
  | _, (.inl i, d) :: r, l, .cons (a := p) h t, e => by
    rw [intKeys] at e
    cases g : intKeys r with
    | none => rw [g] at e; cases e
    | some l' =>
      rw [g] at e
      cases e
      rw [List.map_cons, List.map_cons, intKeys_ok t g, show p.1 = Sum.inl i from h.1]
  | _, (.inr s, d) :: r, l, .cons h t, e => by unfold intKeys at e; cases e
def rdSortDX : FD := fun ds M k => ∃ a kvs, ds = [.cel a] ∧ M a = some (.dct kvs) ∧ kvs.length < 64 ∧
  ((∃ l, intKeys kvs = some l ∧ ∀ ys : List Int, ys.Perm l → ys.Pairwise (· ≤ ·) → k (.lst (ys.map D.int)) M) ∨ ∃ l, txtKeys kvs = some l ∧ ∀ ys : List Str, ys.Perm l → sortedS ys = true → k (.lst (ys.map D.str)) M)
theorem dats_intsV {H : Hp} : ∀ l : List Int, Dats K H (l.map V.int) (l.map D.int)
  | [] => .nil
  | i :: l => .cons (.int i) (dats_intsV l)
theorem de_sortDX {e : Expr} {we : WE} {p pos : Pos} (hc : X.calm = true) (hm : X.mg "sorted" = none) (he : DE X e we) (hs : starEach [e] X.env = (false, eval e X.env) :: starEach [] X.env := by rfl) (hg : Gl X "sorted" := by rfl) (hpl : (backTo pos (starEach [] X.env)).any (·.1) = false := by rfl) :
    DE X (.Call (.Name "sorted" p) [e] [] pos) (wCall rdSortDX (wCons we wNil)) :=
  de_callB ((call_sortedDI hc).or (call_sortedD hc)) (fun Fr H0 M H vs ds k Q w r h c => by
    obtain ⟨a, kvs, rfl, em, hl, h⟩ := h
    obtain ⟨v, rfl, rv⟩ := dats1 r
    cases rv
    obtain ⟨_, o, ho, ck⟩ := w.mem _ _ em
    cases ck with
    | dct hk =>
      have hl2 := Paired.length hk
      rcases h with ⟨l, el, h⟩ | ⟨l, el, h⟩
      · have ek := intKeys_ok hk el
        have e3 := congrArg List.length ek
        rw [List.length_map, List.length_map] at e3
        exact .inl ⟨_, _, l, rfl, .of ho, ek, by omega, fun ys p hy hp hn => c _ _ _ _ M (same_new (w.fresh hn)) (w.new hn) (.lst upd_same (dats_intsV ys)) (h ys hy hp)⟩
      · have ek := txtKeys_ok hk el
        have e3 := congrArg List.length ek
        rw [List.length_map, List.length_map] at e3
        exact .inr ⟨_, _, l, rfl, .of ho, ek, by omega, fun ys p hy hsrt hp => c _ _ _ _ M (same_new (w.fresh hp)) (w.new hp) (.lst upd_same (dats_strs ys)) (h ys hy hsrt)⟩) hm PyProof.Rows.boot_sorted (da_cons he da_nil hs) hg (by decide) (by decide) hs hpl
end
end DL

set_option autoImplicit false
set_option maxRecDepth 100000
set_option maxHeartbeats 2000000
namespace DL
open PySem PySem.Spec PyProof.Rows L2
open Sem (wp)
/-! zip of a list and a tuple -/
def ZLT (K : PySem.W.Frag) (a b : Addr) : It where
  go := fun i H => ∃ (us vs : List V) (p q : V), SqL K H a us ∧ SqT K H b vs ∧ us[i]? = some p ∧ vs[i]? = some q
  yld := fun i H v H' => ∃ T p q, v = V.ref T ∧ H T = none ∧ H' = upd H T (.tup [p, q]) ∧ (∀ us, SqL K H a us → us[i]? = some p) ∧ (∀ vs, SqT K H b vs → vs[i]? = some q)
  stop := fun i H => ∃ us vs : List V, SqL K H a us ∧ SqT K H b vs ∧ i = min us.length vs.length
structure Apl (z tI tO j1 j2 a b : Addr) : Prop where
  S : ZipSep2 z tI tO j1 j2 [j1, a] [j2, b]
  na : a ≠ j1
  nb : b ≠ j2
theorem turnLT {P : Program} {w : World} {K : PySem.W.Frag} {elts : List Expr} {kk : Nat} {tpos : Pos} {z tI tO j1 j2 a b : Addr} (D : Apl z tI tO j1 j2 a b) :
    Turn P w K (.Tuple elts kk tpos) (ZLT K a b) [z, tI, tO, j1, j2] z (fun i h => IsZip h z tI tO .none ∧ IsTupOf2 h tI (.ref j1) (.ref j2) ∧ (∃ m n, IsTupOf2 h tO m n) ∧ h.IsListIter j1 a i ∧ h.IsTupleIter j2 b i) where
  mem := List.mem_cons_self
  obj := fun i h st c hc => by
    obtain ⟨g1, g2, ⟨m, n, g3⟩, ⟨o1, g4, _, g5⟩, ⟨o2, g6, _, g7⟩⟩ := st
    simp only [List.mem_cons, List.not_mem_nil, or_false] at hc
    rcases hc with rfl | rfl | rfl | rfl | rfl
    · exact ⟨_, g1, fun v q => nomatch q⟩
    · exact ⟨_, g2, fun v q => nomatch q⟩
    · exact ⟨_, g3, fun v q => nomatch q⟩
    · exact ⟨o1, g4, fun v q => (by rw [g5] at q; cases q)⟩
    · exact ⟨o2, g6, fun v q => (by rw [g7] at q; cases q)⟩
  keep := fun i h h' st k => by
    obtain ⟨g1, g2, ⟨m, n, g3⟩, g4, g5⟩ := st
    exact ⟨k z (by simp) _ g1, k tI (by simp) _ g2, ⟨m, n, k tO (by simp) _ g3⟩, g4.at fun o e => k j1 (by simp) o e, g5.at fun o e => k j2 (by simp) o e⟩
  item := by
    intro X hP hw hK hc i pins s σ H E I hf st hg
    subst hP hw hK
    obtain ⟨g1, g2, ⟨m, n, g3⟩, g4, g5⟩ := st
    obtain ⟨us, vs, p, q, sq1, sq2, hp, hq⟩ := hg
    obtain ⟨ia, ra, pa, _⟩ := I.list sq1
    obtain ⟨ib, rb, pb, _⟩ := I.tuple sq2
    have la := ra.length
    have lb := rb.length
    have l1 : i < ia.toArray.size := by
      have := (List.getElem?_eq_some_iff.mp hp).1
      rw [List.size_toArray]; omega
    have l2 : i < ib.toArray.size := by
      have := (List.getElem?_eq_some_iff.mp hq).1
      rw [List.size_toArray]; omega
    have zl : z < s.heap.objs.size := Heap.lt_size g1
    have il : tI < s.heap.objs.size := Heap.lt_size g2
    have ol : tO < s.heap.objs.size := Heap.lt_size g3
    have jl1 : j1 < s.heap.objs.size := (by obtain ⟨_, e, _⟩ := g4; exact Heap.lt_size e)
    have jl2 : j2 < s.heap.objs.size := (by obtain ⟨_, e, _⟩ := g5; exact Heap.lt_size e)
    have D1 := Draws.list (prog := X.prog) (w := X.w) (A := X.A.in1) (I.ok.hd hc) j1 a D.na ia.toArray
    have D2 := Draws.tuple (prog := X.prog) (w := X.w) (A := X.A.in1) (I.ok.hd hc) j2 b D.nb ib.toArray
    refine wpAny_pyNext_zipD2_item D.S D1 D2 g1 g2 g3 ⟨g4, pa.isList⟩ ⟨g5, (show s.heap.IsTuple b ib.toArray from pb)⟩ l1 l2 fun x1 x2 h' tk y1 y2 b1 b2 d1 d2 b5 hsz hk => ?_
    refine ⟨_, rfl, wpAny_letOwnedTupleGo_zip (s := { s with heap := h', toks := tk }) b1 fun h'' z'' sb => ?_⟩
    have r1 : RelV p x1 := by
      obtain ⟨u, q1, q2⟩ := ra.get hp
      have q3 : ia[i]? = some x1 := by simpa using y1
      rw [q1] at q3; cases q3; exact q2
    have r2 : RelV q x2 := by
      obtain ⟨u, q1, q2⟩ := rb.get hq
      have q3 : ib[i]? = some x2 := by simpa using y2
      rw [q1] at q3; cases q3; exact q2
    have hT : h''.get? s.heap.objs.size = some { cls := .type "tuple", data := .seq #[x1, x2] } := (sb.2 _ (Nat.ne_of_gt zl)).trans b5
    have new : ObjOk X.prog X.w (upd H s.heap.objs.size (.tup [p, q])) h'' s.heap.objs.size (.tup [p, q]) :=
      ⟨(by show 2 ≤ sizeLine; decide), [x1, x2], .cons r1 (.cons r2 .nil), ⟨_, hT, rfl, _, rfl⟩⟩
    have I1 : Inv X pins σ (upd H s.heap.objs.size (.tup [p, q])) { s with heap := h'', toks := tk } :=
      I.turnedNew (t' := tk) (ch := [z, tI, tO, j1, j2])
        (fun c o hb e => (sb.2 c (fun y => hb (by simp [y]))).trans
          (hk c o (fun y => hb (by simp [y])) (fun y => hb (by simp [y])) (fun y => hb (by simp [y])) (fun y => hb (by simp [y])) e)) hf (Nat.le_refl _) new
    refine ⟨.ref s.heap.objs.size, _, I1, rfl, ⟨_, p, q, rfl, I.hok.fresh (Nat.le_refl _), rfl, fun l hl => (by rw [I.list_inj hl sq1]; exact hp), fun l hl => (by rw [I.tuple_inj hl sq2]; exact hq)⟩, ⟨z'', ?_, ⟨x1, x2, ?_⟩, ?_, ?_⟩, fun c hcm => ?_⟩
    · exact (sb.2 _ D.S.TIz).trans (hk _ _ D.S.TIz D.S.TITO D.S.TIi1 D.S.TIi2 g2)
    · exact (sb.2 _ D.S.TOz).trans b2
    · exact d1.1.at fun o e => (sb.2 _ (fun y => D.S.zf1 (by simp [y]))).trans e
    · exact d2.1.at fun o e => (sb.2 _ (fun y => D.S.zf2 (by simp [y]))).trans e
    · have lt : c < s.heap.objs.size := by
        simp only [List.mem_cons, List.not_mem_nil, or_false] at hcm
        rcases hcm with rfl | rfl | rfl | rfl | rfl
        · exact zl
        · exact il
        · exact ol
        · exact jl1
        · exact jl2
      rw [upd_ne (Nat.ne_of_lt lt)]
      exact (hf c hcm).1
  done := by
    intro X hP hw hK hc i pins s σ H E I hf st hg
    subst hP hw hK
    obtain ⟨g1, g2, ⟨m, n, g3⟩, g4, g5⟩ := st
    obtain ⟨us, vs, sq1, sq2, he⟩ := hg
    obtain ⟨ia, ra, pa, _⟩ := I.list sq1
    obtain ⟨ib, rb, pb, _⟩ := I.tuple sq2
    have la := ra.length
    have lb := rb.length
    have n1 : ia.toArray.size = us.length := by rw [List.size_toArray]; omega
    have n2 : ib.toArray.size = vs.length := by rw [List.size_toArray]; omega
    have D1 := Draws.list (prog := X.prog) (w := X.w) (A := X.A.in1) (I.ok.hd hc) j1 a D.na ia.toArray
    have D2 := Draws.tuple (prog := X.prog) (w := X.w) (A := X.A.in1) (I.ok.hd hc) j2 b D.nb ib.toArray
    exact wpAny_pyNext_zipD2_end D.S D1 D2 g1 g2 g3 ⟨g4, pa.isList⟩ ⟨g5, (show s.heap.IsTuple b ib.toArray from pb)⟩ (by omega) (by omega) (by omega) fun h' tk hk =>
      ⟨rfl, I.turnedL (t' := tk) (ch := [z, tI, tO, j1, j2]) (fun c o hb e => hk c o (fun y => hb (by simp [y])) (fun y => hb (by simp [y])) (fun y => hb (by simp [y])) (fun y => hb (by simp [y])) e) hf⟩
  self := fun A i s Q E st h => wpAny_pyIter_zip st.1 h
def iZLT (K : PySem.W.Frag) (ta : TA) : TI := fun σ H R => ta σ H fun vs H1 => ∃ a b xs ys, vs = [.ref a, .ref b] ∧ SqL K H1 a xs ∧ SqT K H1 b ys ∧ R (ZLT K a b) H1
theorem pi_zLT {X : Cx} {e e2 : Expr} {ta : TA} {p pos tpos : Pos} {elts : List Expr} {kk : Nat} (hg : Gl X "zip") (hm : X.mg "zip" = none) (ha : PA X [e, e2] ta)
    (hs : starEach [e, e2] X.env = (false, eval e X.env) :: starEach [e2] X.env) (hpl : (backTo pos (starEach [e2] X.env)).any (·.1) = false) :
    PI X (.Tuple elts kk tpos) (.Call (.Name "zip" p) [e, e2] [] pos) (iZLT X.K ta) := by
  refine ⟨fun pins s σ H R I h => Call_ (ld_blt I hg hm PyProof.Rows.boot_zip (PyProof.Rows.callWith_type1 (thn (ha.run pos pins s σ H _ I h) fun us s1 ⟨vs, H1, I1, r1, q1⟩ => ?_) hs hpl))⟩
  obtain ⟨a, b, xs, ys, ex, sq1, sq2, q⟩ := q1
  subst ex
  obtain ⟨u1, u2, rfl, ru1, ru2⟩ := vals2 r1
  cases ru1
  cases ru2
  obtain ⟨ia, ra, pa, _⟩ := I1.list sq1
  obtain ⟨ib, rb, pb, _⟩ := I1.tuple sq2
  have pt : s1.heap.IsTuple b ib.toArray := pb
  have al : a < s1.heap.objs.size := pa.lt
  have bl : b < s1.heap.objs.size := pb.lt
  refine zip_begins2 (begins_list a ia.toArray) (begins_tuple b ib.toArray) pa.isList pt fun h' hz hI hO h1 h2 hsz hk => wpAny_pyIter_zip hz ?_
  have sep := zip_sep2 (N := s1.heap.objs.size) (fp1 := [a]) (fp2 := [b]) (fun c hc => (by rw [List.mem_singleton.mp hc]; exact al)) (fun c hc => (by rw [List.mem_singleton.mp hc]; exact bl))
  refine ⟨s1.heap.objs.size + 4, [s1.heap.objs.size + 4, s1.heap.objs.size + 2, s1.heap.objs.size + 3, s1.heap.objs.size, s1.heap.objs.size + 1], _, _, H1, rfl, I1.kept (t' := s1.toks) hk,
    turnLT ⟨sep, Nat.ne_of_lt al, Nat.ne_of_lt (Nat.lt_succ_of_lt bl)⟩, ⟨hz, hI, ⟨_, _, hO⟩, ⟨_, h1, rfl, rfl⟩, ⟨_, h2, rfl, rfl⟩⟩, fun c hc => ?_, q⟩
  have le : s1.heap.objs.size ≤ c := by
    simp only [List.mem_cons, List.not_mem_nil, or_false] at hc
    rcases hc with rfl | rfl | rfl | rfl | rfl <;> omega
  exact I1.fpOk le (I1.hok.fresh le)
end DL
namespace DL
open PySem PySem.Spec PyProof.Rows L2
section
variable {X : Cx} {e e2 : Expr} {elts : List Expr} {kk : Nat} {tpos p pos : Pos} {wa : WA}
def wiZLT (wa : WA) : WI := fun Γ M k => wa Γ M fun ds M1 => match ds with
  | [x, .tup ys] => (match asR M1 x with | some xs => k (zipD xs ys) (gAt x xs) M1 | none => False)
  | _ => False
theorem walks_zLT {K : PySem.W.Frag} {H0 : Hp} {a b : Addr} {us : List V} {x : D} {ds es : List D} (r1 : Dat K H0 (.ref a) x) (hs : SqT K H0 b us) (hd2 : Dats K H0 us es) : Walks K (ZLT K a b) H0 (zipD ds es) (gAt x ds) := fun Fr H0' M H e w g => by
  have s2 := same_t (e.trans w.ex) hs
  obtain ⟨c, vs, ec, s1, hd⟩ := asR_ok w (r1.mono e) g
  cases ec
  have n1 := hd.length
  have n2 := hd2.length
  have n3 := zipD_len ds es
  refine ⟨fun i hi => ?_, ⟨vs, us, s1, s2, by omega⟩, fun i x H' d hd' z => ?_⟩
  · have m1 : i < vs.length := by omega
    have m2 : i < us.length := by omega
    exact ⟨vs, us, vs[i], us[i], s1, s2, List.getElem?_eq_getElem m1, List.getElem?_eq_getElem m2⟩
  · obtain ⟨T, v, u, rfl, hT, rfl, h1, h2⟩ := z
    obtain ⟨d1, d2, e2, e3, rfl⟩ := zipD_get hd'
    obtain ⟨v', e4, r4⟩ := hd.get e2
    obtain ⟨u', e5, r5⟩ := hd2.get e3
    have e6 := h1 vs s1
    have e7 := h2 us s2
    rw [e4] at e6; cases e6
    rw [e5] at e7; cases e7
    exact new_pair w hT r4 (r5.mono e)
theorem di_zLT (hm : X.mg "zip" = none) (ha : DA X [e, e2] wa) (hg : Gl X "zip" := by rfl) (hs : starEach [e, e2] X.env = (false, eval e X.env) :: starEach [e2] X.env := by rfl)
    (hpl : (backTo pos (starEach [e2] X.env)).any (·.1) = false := by rfl) : DI X (.Tuple elts kk tpos) (.Call (.Name "zip" p) [e, e2] [] pos) (wiZLT wa) :=
  ⟨_, pi_zLT hg hm ha.run hs hpl, fun σ H Γ Fr H0 M k R h1 h2 h3 h4 => ⟨Γ, Fr, H0, M, _, h1, h2, h3, fun vs H1 H' ds M' e1 w1 r1 q1 => by
    split at q1
    · obtain ⟨v, u, rfl, rv, ru⟩ := dats2 r1
      split at q1
      · rename_i xs ey
        cases ru with
        | tup hs hd =>
          obtain ⟨c, us, ec, s2, hd2⟩ := asR_ok w1 rv ey
          subst ec
          exact ⟨c, _, us, _, rfl, s2, same_t w1.ex hs, h4 _ _ _ H' H1 M' e1 w1 q1 (walks_zLT rv hs hd)⟩
      · exact q1.elim
    · exact q1.elim⟩⟩
end
end DL

set_option autoImplicit false
set_option maxRecDepth 100000
set_option maxHeartbeats 4000000
/-! zip of three tuples -/
namespace DL
open PySem PySem.Spec PyProof.Rows L2
open Sem (wp)
def Z3T (K : PySem.W.Frag) (a b c : Addr) : It where
  go := fun i H => ∃ (us vs ws : List V) (p q r : V), SqT K H a us ∧ SqT K H b vs ∧ SqT K H c ws ∧ us[i]? = some p ∧ vs[i]? = some q ∧ ws[i]? = some r
  yld := fun i H v H' => ∃ T p q r, v = V.ref T ∧ H T = none ∧ H' = upd H T (.tup [p, q, r]) ∧ (∀ us, SqT K H a us → us[i]? = some p) ∧ (∀ vs, SqT K H b vs → vs[i]? = some q) ∧ (∀ ws, SqT K H c ws → ws[i]? = some r)
  stop := fun i H => ∃ us vs ws : List V, SqT K H a us ∧ SqT K H b vs ∧ SqT K H c ws ∧ i = min (min us.length vs.length) ws.length
structure Ap3 (z tI tO j1 j2 j3 a b c : Addr) : Prop where
  S : ZipSep3 z tI tO j1 j2 j3 [j1, a] [j2, b] [j3, c]
  na : a ≠ j1
  nb : b ≠ j2
  nc : c ≠ j3
theorem turn3T {P : Program} {w : World} {K : PySem.W.Frag} {elts : List Expr} {kk : Nat} {tpos : Pos} {z tI tO j1 j2 j3 a b c : Addr} (D : Ap3 z tI tO j1 j2 j3 a b c) :
    Turn P w K (.Tuple elts kk tpos) (Z3T K a b c) [z, tI, tO, j1, j2, j3] z (fun i h => IsZip h z tI tO .none ∧ IsTupOf3 h tI (.ref j1) (.ref j2) (.ref j3) ∧ (∃ l m n, IsTupOf3 h tO l m n) ∧ h.IsTupleIter j1 a i ∧ h.IsTupleIter j2 b i ∧ h.IsTupleIter j3 c i) where
  mem := List.mem_cons_self
  obj := fun i h st d hd => by
    obtain ⟨g1, g2, ⟨l, m, n, g3⟩, ⟨o1, g4, _, g5⟩, ⟨o2, g6, _, g7⟩, ⟨o3, g8, _, g9⟩⟩ := st
    simp only [List.mem_cons, List.not_mem_nil, or_false] at hd
    rcases hd with rfl | rfl | rfl | rfl | rfl | rfl
    · exact ⟨_, g1, fun v q => nomatch q⟩
    · exact ⟨_, g2, fun v q => nomatch q⟩
    · exact ⟨_, g3, fun v q => nomatch q⟩
    · exact ⟨o1, g4, fun v q => (by rw [g5] at q; cases q)⟩
    · exact ⟨o2, g6, fun v q => (by rw [g7] at q; cases q)⟩
    · exact ⟨o3, g8, fun v q => (by rw [g9] at q; cases q)⟩
  keep := fun i h h' st k => by
    obtain ⟨g1, g2, ⟨l, m, n, g3⟩, g4, g5, g6⟩ := st
    exact ⟨k z (by simp) _ g1, k tI (by simp) _ g2, ⟨l, m, n, k tO (by simp) _ g3⟩, g4.at fun o e => k j1 (by simp) o e, g5.at fun o e => k j2 (by simp) o e, g6.at fun o e => k j3 (by simp) o e⟩
  item := by
    intro X hP hw hK hc i pins s σ H E I hf st hg
    subst hP hw hK
    obtain ⟨g1, g2, ⟨l, m, n, g3⟩, g4, g5, g6⟩ := st
    obtain ⟨us, vs, ws, p, q, r, sq1, sq2, sq3, hp, hq, hr⟩ := hg
    obtain ⟨ia, ra, pa, _⟩ := I.tuple sq1
    obtain ⟨ib, rb, pb, _⟩ := I.tuple sq2
    obtain ⟨ic, rc, pc, _⟩ := I.tuple sq3
    have la := ra.length
    have lb := rb.length
    have lc := rc.length
    have l1 : i < ia.toArray.size := by
      have := (List.getElem?_eq_some_iff.mp hp).1
      rw [List.size_toArray]; omega
    have l2 : i < ib.toArray.size := by
      have := (List.getElem?_eq_some_iff.mp hq).1
      rw [List.size_toArray]; omega
    have l3 : i < ic.toArray.size := by
      have := (List.getElem?_eq_some_iff.mp hr).1
      rw [List.size_toArray]; omega
    have zl : z < s.heap.objs.size := Heap.lt_size g1
    have il : tI < s.heap.objs.size := Heap.lt_size g2
    have ol : tO < s.heap.objs.size := Heap.lt_size g3
    have jl1 : j1 < s.heap.objs.size := (by obtain ⟨_, e, _⟩ := g4; exact Heap.lt_size e)
    have jl2 : j2 < s.heap.objs.size := (by obtain ⟨_, e, _⟩ := g5; exact Heap.lt_size e)
    have jl3 : j3 < s.heap.objs.size := (by obtain ⟨_, e, _⟩ := g6; exact Heap.lt_size e)
    have D1 := Draws.tuple (prog := X.prog) (w := X.w) (A := X.A.in1) (I.ok.hd hc) j1 a D.na ia.toArray
    have D2 := Draws.tuple (prog := X.prog) (w := X.w) (A := X.A.in1) (I.ok.hd hc) j2 b D.nb ib.toArray
    have D3 := Draws.tuple (prog := X.prog) (w := X.w) (A := X.A.in1) (I.ok.hd hc) j3 c D.nc ic.toArray
    refine wpAny_pyNext_zipD3_item D.S D1 D2 D3 g1 g2 g3 ⟨g4, (show s.heap.IsTuple a ia.toArray from pa)⟩ ⟨g5, (show s.heap.IsTuple b ib.toArray from pb)⟩ ⟨g6, (show s.heap.IsTuple c ic.toArray from pc)⟩ l1 l2 l3 fun x1 x2 x3 h' tk y1 y2 y3 b1 b2 d1 d2 d3 b5 hsz hk => ?_
    refine ⟨_, rfl, wpAny_letOwnedTupleGo_zip (s := { s with heap := h', toks := tk }) b1 fun h'' z'' sb => ?_⟩
    have r1 : RelV p x1 := by
      obtain ⟨u, q1, q2⟩ := ra.get hp
      have q3 : ia[i]? = some x1 := by simpa using y1
      rw [q1] at q3; cases q3; exact q2
    have r2 : RelV q x2 := by
      obtain ⟨u, q1, q2⟩ := rb.get hq
      have q3 : ib[i]? = some x2 := by simpa using y2
      rw [q1] at q3; cases q3; exact q2
    have r3 : RelV r x3 := by
      obtain ⟨u, q1, q2⟩ := rc.get hr
      have q3 : ic[i]? = some x3 := by simpa using y3
      rw [q1] at q3; cases q3; exact q2
    have hT : h''.get? s.heap.objs.size = some { cls := .type "tuple", data := .seq #[x1, x2, x3] } := (sb.2 _ (Nat.ne_of_gt zl)).trans b5
    have new : ObjOk X.prog X.w (upd H s.heap.objs.size (.tup [p, q, r])) h'' s.heap.objs.size (.tup [p, q, r]) :=
      ⟨(by show 3 ≤ sizeLine; decide), [x1, x2, x3], .cons r1 (.cons r2 (.cons r3 .nil)), ⟨_, hT, rfl, _, rfl⟩⟩
    have I1 : Inv X pins σ (upd H s.heap.objs.size (.tup [p, q, r])) { s with heap := h'', toks := tk } :=
      I.turnedNew (t' := tk) (ch := [z, tI, tO, j1, j2, j3])
        (fun c o hb e => (sb.2 c (fun y => hb (by simp [y]))).trans
          (hk c o (fun y => hb (by simp [y])) (fun y => hb (by simp [y])) (fun y => hb (by simp [y])) (fun y => hb (by simp [y])) (fun y => hb (by simp [y])) e)) hf (Nat.le_refl _) new
    refine ⟨.ref s.heap.objs.size, _, I1, rfl, ⟨_, p, q, r, rfl, I.hok.fresh (Nat.le_refl _), rfl, fun l hl => (by rw [I.tuple_inj hl sq1]; exact hp), fun l hl => (by rw [I.tuple_inj hl sq2]; exact hq), fun l hl => (by rw [I.tuple_inj hl sq3]; exact hr)⟩, ⟨z'', ?_, ⟨x1, x2, x3, ?_⟩, ?_, ?_, ?_⟩, fun c hcm => ?_⟩
    · exact (sb.2 _ D.S.TIz).trans (hk _ _ D.S.TIz D.S.TITO D.S.TIi1 D.S.TIi2 D.S.TIi3 g2)
    · exact (sb.2 _ D.S.TOz).trans b2
    · exact d1.1.at fun o e => (sb.2 _ (fun y => D.S.zf1 (by simp [y]))).trans e
    · exact d2.1.at fun o e => (sb.2 _ (fun y => D.S.zf2 (by simp [y]))).trans e
    · exact d3.1.at fun o e => (sb.2 _ (fun y => D.S.zf3 (by simp [y]))).trans e
    · have lt : c < s.heap.objs.size := by
        simp only [List.mem_cons, List.not_mem_nil, or_false] at hcm
        rcases hcm with rfl | rfl | rfl | rfl | rfl | rfl
        · exact zl
        · exact il
        · exact ol
        · exact jl1
        · exact jl2
        · exact jl3
      rw [upd_ne (Nat.ne_of_lt lt)]
      exact (hf c hcm).1
  done := by
    intro X hP hw hK hc i pins s σ H E I hf st hg
    subst hP hw hK
    obtain ⟨g1, g2, ⟨l, m, n, g3⟩, g4, g5, g6⟩ := st
    obtain ⟨us, vs, ws, sq1, sq2, sq3, he⟩ := hg
    obtain ⟨ia, ra, pa, _⟩ := I.tuple sq1
    obtain ⟨ib, rb, pb, _⟩ := I.tuple sq2
    obtain ⟨ic, rc, pc, _⟩ := I.tuple sq3
    have la := ra.length
    have lb := rb.length
    have lc := rc.length
    have n1 : ia.toArray.size = us.length := by rw [List.size_toArray]; omega
    have n2 : ib.toArray.size = vs.length := by rw [List.size_toArray]; omega
    have n3 : ic.toArray.size = ws.length := by rw [List.size_toArray]; omega
    have D1 := Draws.tuple (prog := X.prog) (w := X.w) (A := X.A.in1) (I.ok.hd hc) j1 a D.na ia.toArray
    have D2 := Draws.tuple (prog := X.prog) (w := X.w) (A := X.A.in1) (I.ok.hd hc) j2 b D.nb ib.toArray
    have D3 := Draws.tuple (prog := X.prog) (w := X.w) (A := X.A.in1) (I.ok.hd hc) j3 c D.nc ic.toArray
    exact wpAny_pyNext_zipD3_end D.S D1 D2 D3 g1 g2 g3 ⟨g4, (show s.heap.IsTuple a ia.toArray from pa)⟩ ⟨g5, (show s.heap.IsTuple b ib.toArray from pb)⟩ ⟨g6, (show s.heap.IsTuple c ic.toArray from pc)⟩ (by omega) (by omega) (by omega) (by omega) fun h' tk hk =>
      ⟨rfl, I.turnedL (t' := tk) (ch := [z, tI, tO, j1, j2, j3]) (fun c o hb e => hk c o (fun y => hb (by simp [y])) (fun y => hb (by simp [y])) (fun y => hb (by simp [y])) (fun y => hb (by simp [y])) (fun y => hb (by simp [y])) e) hf⟩
  self := fun A i s Q E st h => wpAny_pyIter_zip st.1 h
def iZ3T (K : PySem.W.Frag) (ta : TA) : TI := fun σ H R => ta σ H fun vs H1 => ∃ a b c xs ys zs, vs = [.ref a, .ref b, .ref c] ∧ SqT K H1 a xs ∧ SqT K H1 b ys ∧ SqT K H1 c zs ∧ R (Z3T K a b c) H1
theorem pi_z3T {X : Cx} {e e2 e3 : Expr} {ta : TA} {p pos tpos : Pos} {elts : List Expr} {kk : Nat} (hg : Gl X "zip") (hm : X.mg "zip" = none) (ha : PA X [e, e2, e3] ta)
    (hs : starEach [e, e2, e3] X.env = (false, eval e X.env) :: starEach [e2, e3] X.env) (hpl : (backTo pos (starEach [e2, e3] X.env)).any (·.1) = false) :
    PI X (.Tuple elts kk tpos) (.Call (.Name "zip" p) [e, e2, e3] [] pos) (iZ3T X.K ta) := by
  refine ⟨fun pins s σ H R I h => Call_ (ld_blt I hg hm PyProof.Rows.boot_zip (PyProof.Rows.callWith_type1 (thn (ha.run pos pins s σ H _ I h) fun us s1 ⟨vs, H1, I1, r1, q1⟩ => ?_) hs hpl))⟩
  obtain ⟨a, b, c, xs, ys, zs, ex, sq1, sq2, sq3, q⟩ := q1
  subst ex
  cases r1 with | cons ru1 r1 =>
  cases r1 with | cons ru2 r1 =>
  cases r1 with | cons ru3 r1 =>
  cases r1
  cases ru1
  cases ru2
  cases ru3
  obtain ⟨ia, ra, pa, _⟩ := I1.tuple sq1
  obtain ⟨ib, rb, pb, _⟩ := I1.tuple sq2
  obtain ⟨ic, rc, pc, _⟩ := I1.tuple sq3
  have p1 : s1.heap.IsTuple a ia.toArray := pa
  have p2 : s1.heap.IsTuple b ib.toArray := pb
  have p3 : s1.heap.IsTuple c ic.toArray := pc
  have al : a < s1.heap.objs.size := pa.lt
  have bl : b < s1.heap.objs.size := pb.lt
  have cl : c < s1.heap.objs.size := pc.lt
  refine zip_begins3 (begins_tuple a ia.toArray) (begins_tuple b ib.toArray) (begins_tuple c ic.toArray) p1 p2 p3 fun h' hz hI hO h1 h2 h3 hsz hk => wpAny_pyIter_zip hz ?_
  have sep := zip_sep3 (N := s1.heap.objs.size) (fp1 := [a]) (fp2 := [b]) (fp3 := [c]) (fun d hd => (by rw [List.mem_singleton.mp hd]; exact al)) (fun d hd => (by rw [List.mem_singleton.mp hd]; exact bl)) (fun d hd => (by rw [List.mem_singleton.mp hd]; exact cl))
  refine ⟨s1.heap.objs.size + 5, [s1.heap.objs.size + 5, s1.heap.objs.size + 3, s1.heap.objs.size + 4, s1.heap.objs.size, s1.heap.objs.size + 1, s1.heap.objs.size + 2], _, _, H1, rfl, I1.kept (t' := s1.toks) hk,
    turn3T ⟨sep, Nat.ne_of_lt al, Nat.ne_of_lt (Nat.lt_succ_of_lt bl), Nat.ne_of_lt (Nat.lt_succ_of_lt (Nat.lt_succ_of_lt cl))⟩, ⟨hz, hI, ⟨_, _, _, hO⟩, ⟨_, h1, rfl, rfl⟩, ⟨_, h2, rfl, rfl⟩, ⟨_, h3, rfl, rfl⟩⟩, fun d hd => ?_, q⟩
  have le : s1.heap.objs.size ≤ d := by
    simp only [List.mem_cons, List.not_mem_nil, or_false] at hd
    rcases hd with rfl | rfl | rfl | rfl | rfl | rfl <;> omega
  exact I1.fpOk le (I1.hok.fresh le)
section
variable {X : Cx} {e e2 e3 : Expr} {elts : List Expr} {kk : Nat} {tpos p pos : Pos} {wa : WA}
def zip3D (xs ys zs : List D) : List D := List.zipWith (fun x d => match d with | .tup [y, z] => .tup [x, y, z] | d => d) xs (zipD ys zs)
theorem zip3D_len (xs ys zs : List D) : (zip3D xs ys zs).length = min xs.length (min ys.length zs.length) := by
  unfold zip3D; rw [List.length_zipWith, zipD_len]
theorem zip3D_get {xs ys zs : List D} {i : Nat} {d : D} (h : (zip3D xs ys zs)[i]? = some d) : ∃ x y z, xs[i]? = some x ∧ ys[i]? = some y ∧ zs[i]? = some z ∧ d = .tup [x, y, z] := by
  unfold zip3D at h
  rw [List.getElem?_zipWith] at h
  cases e1 : xs[i]? with
  | none => rw [e1] at h; cases h
  | some x =>
    cases e2 : (zipD ys zs)[i]? with
    | none => rw [e1, e2] at h; cases h
    | some q =>
      obtain ⟨y, z, h1, h2, rfl⟩ := zipD_get e2
      rw [e1, e2] at h
      cases h
      exact ⟨x, y, z, rfl, h1, h2, rfl⟩
def wiZ3T (wa : WA) : WI := fun Γ M k => wa Γ M fun ds M1 => match ds with
  | [.tup xs, .tup ys, .tup zs] => k (zip3D xs ys zs) gAny M1
  | _ => False
theorem walks_z3T {K : PySem.W.Frag} {H0 : Hp} {a b c : Addr} {us vs ws : List V} {ds es fs : List D} (h1 : SqT K H0 a us) (d1 : Dats K H0 us ds) (h2 : SqT K H0 b vs) (d2 : Dats K H0 vs es) (h3 : SqT K H0 c ws) (d3 : Dats K H0 ws fs) :
    Walks K (Z3T K a b c) H0 (zip3D ds es fs) gAny := fun Fr H0' M H e w g => by
  have s1 := same_t (e.trans w.ex) h1
  have s2 := same_t (e.trans w.ex) h2
  have s3 := same_t (e.trans w.ex) h3
  have n1 := d1.length
  have n2 := d2.length
  have n3 := d3.length
  have n4 := zip3D_len ds es fs
  refine ⟨fun i hi => ?_, ⟨us, vs, ws, s1, s2, s3, by omega⟩, fun i x H' d hd' y => ?_⟩
  · have m1 : i < us.length := by omega
    have m2 : i < vs.length := by omega
    have m3 : i < ws.length := by omega
    exact ⟨us, vs, ws, us[i], vs[i], ws[i], s1, s2, s3, List.getElem?_eq_getElem m1, List.getElem?_eq_getElem m2, List.getElem?_eq_getElem m3⟩
  · obtain ⟨T, u, v, r, rfl, hT, rfl, g1, g2, g3⟩ := y
    obtain ⟨x1, x2, x3, e1, e2, e3, rfl⟩ := zip3D_get hd'
    obtain ⟨u', a1, r1⟩ := d1.get e1
    obtain ⟨v', a2, r2⟩ := d2.get e2
    obtain ⟨r', a3, r3⟩ := d3.get e3
    have b1 := g1 us s1
    have b2 := g2 vs s2
    have b3 := g3 ws s3
    rw [a1] at b1; cases b1
    rw [a2] at b2; cases b2
    rw [a3] at b3; cases b3
    have sn := same_new (o := .tup [u, v, r]) (w.fresh hT)
    exact ⟨_, sn, w.new hT, .tup (.of upd_same) (.cons ((r1.mono e).mono sn) (.cons ((r2.mono e).mono sn) (.cons ((r3.mono e).mono sn) .nil)))⟩
theorem di_z3T (hm : X.mg "zip" = none) (ha : DA X [e, e2, e3] wa) (hg : Gl X "zip" := by rfl) (hs : starEach [e, e2, e3] X.env = (false, eval e X.env) :: starEach [e2, e3] X.env := by rfl)
    (hpl : (backTo pos (starEach [e2, e3] X.env)).any (·.1) = false := by rfl) : DI X (.Tuple elts kk tpos) (.Call (.Name "zip" p) [e, e2, e3] [] pos) (wiZ3T wa) :=
  ⟨_, pi_z3T hg hm ha.run hs hpl, fun σ H Γ Fr H0 M k R h1 h2 h3 h4 => ⟨Γ, Fr, H0, M, _, h1, h2, h3, fun vs H1 H' ds M' e1 w1 r1 q1 => by
    split at q1
    · cases r1 with | cons ra r1 =>
      cases r1 with | cons rb r1 =>
      cases r1 with | cons rc r1 =>
      cases r1
      cases ra with | tup hs1 hd1 =>
      cases rb with | tup hs2 hd2 =>
      cases rc with | tup hs3 hd3 =>
      exact ⟨_, _, _, _, _, _, rfl, same_t w1.ex hs1, same_t w1.ex hs2, same_t w1.ex hs3, h4 _ _ _ H' H1 M' e1 w1 q1 (walks_z3T hs1 hd1 hs2 hd2 hs3 hd3)⟩
    · exact q1.elim⟩⟩
end
end DL

set_option autoImplicit false
set_option maxRecDepth 100000
set_option maxHeartbeats 4000000
namespace K04
open PySem L2 DL
def topS (i : Nat) : Stmt := PySem.Challenge.pw_standviews_k16_what_is_seen.main.body.getD i (.Pass ⟨0, 0, 0, 0⟩)
abbrev s_is_whole : Stmt := topS 2
abbrev N_is_whole : List Str := ["thing"]
abbrev p_is_whole : List Str := ["thing"]
theorem sc_is_whole : FnScope N_is_whole p_is_whole (defScope s_is_whole) := ⟨rfl, rfl, rfl, by decide +kernel, rfl, by decide +kernel, by decide +kernel⟩
abbrev s_is_name : Stmt := topS 3
abbrev N_is_name : List Str := ["thing", "letter"]
abbrev p_is_name : List Str := ["thing"]
theorem sc_is_name : FnScope N_is_name p_is_name (defScope s_is_name) := ⟨rfl, rfl, rfl, by decide +kernel, rfl, by decide +kernel, by decide +kernel⟩
abbrev s_worth_place : Stmt := topS 4
abbrev N_worth_place : List Str := ["worth"]
abbrev p_worth_place : List Str := ["worth"]
theorem sc_worth_place : FnScope N_worth_place p_worth_place (defScope s_worth_place) := ⟨rfl, rfl, rfl, by decide +kernel, rfl, by decide +kernel, by decide +kernel⟩
abbrev s_row_place : Stmt := topS 5
abbrev N_row_place : List Str := ["row", "worth"]
abbrev p_row_place : List Str := ["row"]
theorem sc_row_place : FnScope N_row_place p_row_place (defScope s_row_place) := ⟨rfl, rfl, rfl, by decide +kernel, rfl, by decide +kernel, by decide +kernel⟩
abbrev s_bag_of : Stmt := topS 6
abbrev N_bag_of : List Str := ["rows"]
abbrev p_bag_of : List Str := ["rows"]
theorem sc_bag_of : FnScope N_bag_of p_bag_of (defScope s_bag_of) := ⟨rfl, rfl, rfl, by decide +kernel, rfl, by decide +kernel, by decide +kernel⟩
abbrev s_place_of : Stmt := topS 8
abbrev N_place_of : List Str := ["named", "name", "place", "other", "_"]
abbrev p_place_of : List Str := ["named", "name"]
theorem sc_place_of : FnScope N_place_of p_place_of (defScope s_place_of) := ⟨rfl, rfl, rfl, by decide +kernel, rfl, by decide +kernel, by decide +kernel⟩
abbrev s_holds : Stmt := topS 10
abbrev N_holds : List Str := ["columns", "check", "row", "word", "worth"]
abbrev p_holds : List Str := ["columns", "check", "row"]
theorem sc_holds : FnScope N_holds p_holds (defScope s_holds) := ⟨rfl, rfl, rfl, by decide +kernel, rfl, by decide +kernel, by decide +kernel⟩
abbrev s_veiled : Stmt := topS 12
abbrev N_veiled : List Str := ["row", "told", "worth", "is_told"]
abbrev p_veiled : List Str := ["row", "told"]
theorem sc_veiled : FnScope N_veiled p_veiled (defScope s_veiled) := ⟨rfl, rfl, rfl, by decide +kernel, rfl, by decide +kernel, by decide +kernel⟩
abbrev s_seen_rows : Stmt := topS 13
abbrev N_seen_rows : List Str := ["columns", "rows", "right", "check", "names", "told", "name", "_", "row"]
abbrev p_seen_rows : List Str := ["columns", "rows", "right"]
theorem sc_seen_rows : FnScope N_seen_rows p_seen_rows (defScope s_seen_rows) := ⟨rfl, rfl, rfl, by decide +kernel, rfl, by decide +kernel, by decide +kernel⟩
abbrev s_seen : Stmt := topS 14
abbrev N_seen : List Str := ["plan", "store", "rights", "_", "columns", "bag", "right"]
abbrev p_seen : List Str := ["plan", "store", "rights"]
theorem sc_seen : FnScope N_seen p_seen (defScope s_seen) := ⟨rfl, rfl, rfl, by decide +kernel, rfl, by decide +kernel, by decide +kernel⟩
abbrev s_law_hand : Stmt := topS 16
abbrev N_law_hand : List Str := ["script", "k", "cell", "mixed"]
abbrev p_law_hand : List Str := ["script", "k"]
theorem sc_law_hand : FnScope N_law_hand p_law_hand (defScope s_law_hand) := ⟨rfl, rfl, rfl, by decide +kernel, rfl, by decide +kernel, by decide +kernel⟩
abbrev s_law_take : Stmt := topS 17
abbrev N_law_take : List Str := ["hand", "many", "digit", "mixed"]
abbrev p_law_take : List Str := ["hand", "many"]
theorem sc_law_take : FnScope N_law_take p_law_take (defScope s_law_take) := ⟨rfl, rfl, rfl, by decide +kernel, rfl, by decide +kernel, by decide +kernel⟩
abbrev s_law_pick : Stmt := topS 18
abbrev N_law_pick : List Str := ["hand", "some"]
abbrev p_law_pick : List Str := ["hand", "some"]
theorem sc_law_pick : FnScope N_law_pick p_law_pick (defScope s_law_pick) := ⟨rfl, rfl, rfl, by decide +kernel, rfl, by decide +kernel, by decide +kernel⟩
abbrev s_law_columns : Stmt := topS 19
abbrev N_law_columns : List Str := ["hand", "kinds", "found", "name"]
abbrev p_law_columns : List Str := ["hand"]
theorem sc_law_columns : FnScope N_law_columns p_law_columns (defScope s_law_columns) := ⟨rfl, rfl, rfl, by decide +kernel, rfl, by decide +kernel, by decide +kernel⟩
abbrev s_law_plan : Stmt := topS 20
abbrev N_law_plan : List Str := ["hand", "many", "names", "at", "some", "turn", "name"]
abbrev p_law_plan : List Str := ["hand", "many"]
theorem sc_law_plan : FnScope N_law_plan p_law_plan (defScope s_law_plan) := ⟨rfl, rfl, rfl, by decide +kernel, rfl, by decide +kernel, by decide +kernel⟩
abbrev s_law_worth : Stmt := topS 21
abbrev N_law_worth : List Str := ["hand", "kind", "is_key", "some"]
abbrev p_law_worth : List Str := ["hand", "kind", "is_key"]
theorem sc_law_worth : FnScope N_law_worth p_law_worth (defScope s_law_worth) := ⟨rfl, rfl, rfl, by decide +kernel, rfl, by decide +kernel, by decide +kernel⟩
abbrev s_law_row : Stmt := topS 22
abbrev N_law_row : List Str := ["hand", "columns", "at", "name", "kind"]
abbrev p_law_row : List Str := ["hand", "columns"]
theorem sc_law_row : FnScope N_law_row p_law_row (defScope s_law_row) := ⟨rfl, rfl, rfl, by decide +kernel, rfl, by decide +kernel, by decide +kernel⟩
abbrev s_law_dealing : Stmt := topS 23
abbrev N_law_dealing : List Str := ["hand", "plan", "tables", "most", "found", "turn", "name", "columns", "leads", "lead", "row"]
abbrev p_law_dealing : List Str := ["hand", "plan", "tables", "most"]
theorem sc_law_dealing : FnScope N_law_dealing p_law_dealing (defScope s_law_dealing) := ⟨rfl, rfl, rfl, by decide +kernel, rfl, by decide +kernel, by decide +kernel⟩
abbrev s_law_rank : Stmt := topS 24
abbrev N_law_rank : List Str := ["worth"]
abbrev p_law_rank : List Str := ["worth"]
theorem sc_law_rank : FnScope N_law_rank p_law_rank (defScope s_law_rank) := ⟨rfl, rfl, rfl, by decide +kernel, rfl, by decide +kernel, by decide +kernel⟩
abbrev s_law_bag : Stmt := topS 25
abbrev N_law_bag : List Str := ["rows", "worth"]
abbrev p_law_bag : List Str := ["rows"]
theorem sc_law_bag : FnScope N_law_bag p_law_bag (defScope s_law_bag) := ⟨rfl, rfl, rfl, by decide +kernel, rfl, by decide +kernel, by decide +kernel⟩
abbrev s_law_store : Stmt := topS 26
abbrev N_law_store : List Str := ["plan", "tables", "name", "columns"]
abbrev p_law_store : List Str := ["plan", "tables"]
theorem sc_law_store : FnScope N_law_store p_law_store (defScope s_law_store) := ⟨rfl, rfl, rfl, by decide +kernel, rfl, by decide +kernel, by decide +kernel⟩
abbrev s_law_check : Stmt := topS 27
abbrev N_law_check : List Str := ["hand", "columns", "deep", "way", "name", "kind", "other", "its", "one", "two"]
abbrev p_law_check : List Str := ["hand", "columns", "deep"]
theorem sc_law_check : FnScope N_law_check p_law_check (defScope s_law_check) := ⟨rfl, rfl, rfl, by decide +kernel, rfl, by decide +kernel, by decide +kernel⟩
abbrev s_law_holds : Stmt := topS 28
abbrev N_law_holds : List Str := ["names", "check", "row", "word", "one", "two", "both", "worth"]
abbrev p_law_holds : List Str := ["names", "check", "row"]
theorem sc_law_holds : FnScope N_law_holds p_law_holds (defScope s_law_holds) := ⟨rfl, rfl, rfl, by decide +kernel, rfl, by decide +kernel, by decide +kernel⟩
abbrev s_law_right : Stmt := topS 29
abbrev N_law_right : List Str := ["hand", "columns", "way", "names", "name", "kind", "some", "check"]
abbrev p_law_right : List Str := ["hand", "columns"]
theorem sc_law_right : FnScope N_law_right p_law_right (defScope s_law_right) := ⟨rfl, rfl, rfl, by decide +kernel, rfl, by decide +kernel, by decide +kernel⟩
abbrev s_law_rights : Stmt := topS 30
abbrev N_law_rights : List Str := ["hand", "plan", "name", "columns"]
abbrev p_law_rights : List Str := ["hand", "plan"]
theorem sc_law_rights : FnScope N_law_rights p_law_rights (defScope s_law_rights) := ⟨rfl, rfl, rfl, by decide +kernel, rfl, by decide +kernel, by decide +kernel⟩
abbrev s_law_seen : Stmt := topS 31
abbrev N_law_seen : List Str := ["plan", "tables", "rights", "found", "name", "columns", "right", "names", "rows", "column", "kind", "row", "one", "worth"]
abbrev p_law_seen : List Str := ["plan", "tables", "rights"]
theorem sc_law_seen : FnScope N_law_seen p_law_seen (defScope s_law_seen) := ⟨rfl, rfl, rfl, by decide +kernel, rfl, by decide +kernel, by decide +kernel⟩
abbrev s_law : Stmt := topS 32
abbrev N_law : List Str := ["script", "k", "hand", "plan", "tables", "name", "columns", "turn", "store", "rights", "kept", "mine", "wished"]
abbrev p_law : List Str := ["script"]
theorem sc_law : FnScope N_law p_law (defScope s_law) := ⟨rfl, rfl, rfl, by decide +kernel, rfl, by decide +kernel, by decide +kernel⟩
structure DD (K : PySem.W.Frag) (mg : Str → Option Value) where
  f_is_whole : Addr
  fd_is_whole : FuncData
  d_is_whole : Def K mg "is_whole" s_is_whole p_is_whole f_is_whole fd_is_whole
  f_is_name : Addr
  fd_is_name : FuncData
  d_is_name : Def K mg "is_name" s_is_name p_is_name f_is_name fd_is_name
  f_worth_place : Addr
  fd_worth_place : FuncData
  d_worth_place : Def K mg "worth_place" s_worth_place p_worth_place f_worth_place fd_worth_place
  f_row_place : Addr
  fd_row_place : FuncData
  d_row_place : Def K mg "row_place" s_row_place p_row_place f_row_place fd_row_place
  f_bag_of : Addr
  fd_bag_of : FuncData
  d_bag_of : Def K mg "bag_of" s_bag_of p_bag_of f_bag_of fd_bag_of
  f_place_of : Addr
  fd_place_of : FuncData
  d_place_of : Def K mg "place_of" s_place_of p_place_of f_place_of fd_place_of
  f_holds : Addr
  fd_holds : FuncData
  d_holds : Def K mg "holds" s_holds p_holds f_holds fd_holds
  f_veiled : Addr
  fd_veiled : FuncData
  d_veiled : Def K mg "veiled" s_veiled p_veiled f_veiled fd_veiled
  f_seen_rows : Addr
  fd_seen_rows : FuncData
  d_seen_rows : Def K mg "seen_rows" s_seen_rows p_seen_rows f_seen_rows fd_seen_rows
  f_seen : Addr
  fd_seen : FuncData
  d_seen : Def K mg "seen" s_seen p_seen f_seen fd_seen
  f_law_hand : Addr
  fd_law_hand : FuncData
  d_law_hand : Def K mg "_law_hand" s_law_hand p_law_hand f_law_hand fd_law_hand
  f_law_take : Addr
  fd_law_take : FuncData
  d_law_take : Def K mg "_law_take" s_law_take p_law_take f_law_take fd_law_take
  f_law_pick : Addr
  fd_law_pick : FuncData
  d_law_pick : Def K mg "_law_pick" s_law_pick p_law_pick f_law_pick fd_law_pick
  f_law_columns : Addr
  fd_law_columns : FuncData
  d_law_columns : Def K mg "_law_columns" s_law_columns p_law_columns f_law_columns fd_law_columns
  f_law_plan : Addr
  fd_law_plan : FuncData
  d_law_plan : Def K mg "_law_plan" s_law_plan p_law_plan f_law_plan fd_law_plan
  f_law_worth : Addr
  fd_law_worth : FuncData
  d_law_worth : Def K mg "_law_worth" s_law_worth p_law_worth f_law_worth fd_law_worth
  f_law_row : Addr
  fd_law_row : FuncData
  d_law_row : Def K mg "_law_row" s_law_row p_law_row f_law_row fd_law_row
  f_law_dealing : Addr
  fd_law_dealing : FuncData
  d_law_dealing : Def K mg "_law_dealing" s_law_dealing p_law_dealing f_law_dealing fd_law_dealing
  f_law_rank : Addr
  fd_law_rank : FuncData
  d_law_rank : Def K mg "_law_rank" s_law_rank p_law_rank f_law_rank fd_law_rank
  f_law_bag : Addr
  fd_law_bag : FuncData
  d_law_bag : Def K mg "_law_bag" s_law_bag p_law_bag f_law_bag fd_law_bag
  f_law_store : Addr
  fd_law_store : FuncData
  d_law_store : Def K mg "_law_store" s_law_store p_law_store f_law_store fd_law_store
  f_law_check : Addr
  fd_law_check : FuncData
  d_law_check : Def K mg "_law_check" s_law_check p_law_check f_law_check fd_law_check
  f_law_holds : Addr
  fd_law_holds : FuncData
  d_law_holds : Def K mg "_law_holds" s_law_holds p_law_holds f_law_holds fd_law_holds
  f_law_right : Addr
  fd_law_right : FuncData
  d_law_right : Def K mg "_law_right" s_law_right p_law_right f_law_right fd_law_right
  f_law_rights : Addr
  fd_law_rights : FuncData
  d_law_rights : Def K mg "_law_rights" s_law_rights p_law_rights f_law_rights fd_law_rights
  f_law_seen : Addr
  fd_law_seen : FuncData
  d_law_seen : Def K mg "_law_seen" s_law_seen p_law_seen f_law_seen fd_law_seen
  f_law : Addr
  fd_law : FuncData
  d_law : Def K mg "law" s_law p_law f_law fd_law
structure Lams (K : PySem.W.Frag) (mg : Str → Option Value) (base : Heap) (B : DD K mg) : Prop where
  l_law_bag : LamAt K mg base "_law_bag" B.f_law_bag
structure Txt (K : PySem.W.Frag) (mg : Str → Option Value) : Prop where
  b_abs : mg "abs" = none
  b_all : mg "all" = none
  b_any : mg "any" = none
  b_dict : mg "dict" = none
  b_enumerate : mg "enumerate" = none
  b_int : mg "int" = none
  b_isinstance : mg "isinstance" = none
  b_len : mg "len" = none
  b_list : mg "list" = none
  b_min : mg "min" = none
  b_range : mg "range" = none
  b_repr : mg "repr" = none
  b_sorted : mg "sorted" = none
  b_str : mg "str" = none
  b_tuple : mg "tuple" = none
  b_type : mg "type" = none
  b_zip : mg "zip" = none
  c_LONGEST : ∃ t, mg "LONGEST" = some (.int 8 t)
theorem Txt.e_LONGEST {X : Cx} {pos : Pos} (T : Txt X.K X.mg) (hg : Gl X "LONGEST" := by rfl) : DE X (.Name "LONGEST" pos) (wC (.int 8)) := by
  obtain ⟨t, h⟩ := T.c_LONGEST
  exact de_gint h hg
end K04

set_option autoImplicit false
set_option maxRecDepth 100000
set_option maxHeartbeats 4000000
namespace K04
open PySem L2 DL
section
variable {P : Program} {w : World} {K : PySem.W.Frag} {mg : Str → Option Value} {base : Heap}
def letter (c : Nat) : Bool := decide (97 ≤ c) && decide (c ≤ 122)
def isNm (s : Str) : Bool := decide (1 ≤ s.length) && decide (s.length ≤ 8) && s.cps.toList.all letter
def isNameB : D → Bool
  | .str s => isNm s
  | _ => false
def okD (M : Mem) (d : D) : Prop := (tyD M d).isSome = true ∧ ∀ s, d = .str s → s.length ≤ sizeLine
def F_is_name : FD := fun ds M k => match ds with
  | [d] => okD M d ∧ k (.bl (isNameB d)) M
  | _ => False
def sgn : D → D
  | .str z => .bl ((!decide (z.cps.toList < [97])) && (!decide ([122] < z.cps.toList)))
  | d => d
theorem sgn_one (c : Nat) : sgn (.str ⟨#[c]⟩) = .bl (letter c) := by
  show D.bl ((!decide ([c] < [97])) && (!decide ([122] < [c]))) = _
  congr 1
  unfold letter
  have h1 : decide ([c] < [97]) = decide (c < 97) := by
    rw [decide_eq_decide]
    refine ⟨fun h => ?_, fun h => List.cons_lt_cons_iff.mpr (.inl h)⟩
    rcases List.cons_lt_cons_iff.mp h with h | ⟨_, h⟩
    · exact h
    · simp at h
  have h2 : decide ([122] < [c]) = decide (122 < c) := by
    rw [decide_eq_decide]
    refine ⟨fun h => ?_, fun h => List.cons_lt_cons_iff.mpr (.inl h)⟩
    rcases List.cons_lt_cons_iff.mp h with h | ⟨_, h⟩
    · exact h
    · simp at h
  rw [h1, h2, Bool.eq_iff_iff]
  simp
theorem bools_signs (s : Str) : boolsD ((signs s).map sgn) = some (s.cps.toList.map letter) := by
  unfold signs
  induction s.cps.toList with
  | nil => rfl
  | cons c r ih =>
    rw [List.map_cons, List.map_cons, sgn_one]
    unfold boolsD
    rw [ih]
    rfl
theorem ok_is_name {f : Addr} {fd : FuncData} (T : Txt K mg) (d_is_name : Def K mg "is_name" s_is_name p_is_name f fd) : DFn P w K mg base 1 f fd p_is_name F_is_name := by
  refine Fun.okD d_is_name.F sc_is_name (fun cdv A outer s H E hr => (dss_cons (ds_if (dw_pt (dw_or (dt_cmpA c_isn (de_type T.b_type (dv 0)) (de_ty (n := "str") T.b_str (by decide +kernel))) (dw_or1 (dt_not (dt_chainA c_le c_le de_int (de_len T.b_len (dv 0)) T.e_LONGEST))))) (dss_one (ds_ret de_bl)) dss_nil) (dss_one (ds_ret (de_all rfl T.b_all (de_lc rfl sc_is_name.nd (di_str (dv 0)) (blkOk_by (own := [("letter", 1)]) (N := N_is_name) (sc := defScope s_is_name) (by decide +kernel)) (fun _ _ _ _ _ => (dg_name (i := 1) sc_is_name.nd)) gd_name (fun _ _ _ _ _ => dts_nil) (fun _ _ _ _ _ => (de_chainA c_le c_le de_str (dv 1) de_str)))))))) (fun ds M k h => ?_)
  unfold F_is_name at h
  split at h
  · rename_i d
    obtain ⟨⟨h1, h2⟩, h3⟩ := h
    refine ⟨rfl, ?_⟩
    rw [show startD N_is_name [d] = [some d, none] from rfl]
    cases d with
    | str s =>
      have h2 := h2 s rfl
      have fin2 : isNm s = (decide (1 ≤ s.length) && decide (s.length ≤ 8) && s.cps.toList.all letter) := rfl
      have main : lcD (gN 1) wYes (wChain rdLe rdLe (wC (D.str (Str.ofString "a"))) (wVar 1) (wC (D.str (Str.ofString "z")))) gAny (wipeD [some (D.str s), none] [1]) (signs s) [] M
          (fun xs M1 => match boolsD xs with | some l => k (D.bl (l.all id)) M1 | none => False) ∨ ¬ (1 ≤ s.length ∧ s.length ≤ 8) := by
        by_cases hb : 1 ≤ s.length ∧ s.length ≤ 8
        · left
          refine lc_map sgn (M := M) (by trivial) _ _ _ (fun d hd => ⟨_, rfl, fun k hk => ?_⟩) ?_ ?_
          · unfold signs at hd
            obtain ⟨c, _, rfl⟩ := List.mem_map.mp hd
            simp only [wNext, wSeq, wBreak, wContinue, wExpr, wRet, wRetN, wIfS, wSet, wAsg, wPar, wPar3, wFor, wSub, wTst, wOp, wChain, wNotT, wAndT, wOrT, wAndV, wOrV, wNotV, wIf, wNil, wCons, wTup, wLst, wLstM, wCall, wCall0, wVar, wC, wLc, wLcM, wYes, wiL, wiT, wiS, wiR, wiEnT, wiEnL, wiZip, wSl, woNone, woSome, wMt, wJoin, wGet, wUn, wTru, wDNew, fin, List.getElem?_cons_zero, List.getElem?_cons_succ, List.set_cons_zero, List.set_cons_succ, rdAdd, rdI, rdI0, rdU, rdOrd, rdIs, rdIn, rdIx, rdGet, rdSl, rdLen, rdType, rdIsiA, rdAll, rdInt, rdTuple, rdDict, rdSortD, rdAppend, rdPop, rdPopAt, wipeD]
            have ea : (Str.ofString "a").cps.toList = [97] := by decide
            have ez : (Str.ofString "z").cps.toList = [122] := by decide
            simp only [sgn] at hk
            simp only [ea, ez]
            cases q : decide ([c] < [97])
            · rw [q] at hk; simpa using hk
            · rw [q] at hk; simpa using hk
          · have : (signs s).length = s.length := by unfold signs; simp; rfl
            rw [this]; simpa using h2
          · simp only [List.nil_append, bools_signs]
            rw [show isNameB (.str s) = isNm s from rfl, fin2] at h3
            simp only [hb.1, hb.2, decide_true, Bool.true_and] at h3
            simpa using h3
        · exact .inr hb
      by_cases b1 : 1 ≤ s.length
      · by_cases b2 : s.length ≤ 8
        · have c1 : (1 : Int) ≤ (s.length : Int) := by omega
          have c2 : (s.length : Int) ≤ 8 := by omega
          rcases main with main | main
          · simp only [wNext, wSeq, wBreak, wContinue, wExpr, wRet, wRetN, wIfS, wSet, wAsg, wPar, wPar3, wFor, wSub, wTst, wOp, wChain, wNotT, wAndT, wOrT, wAndV, wOrV, wNotV, wIf, wNil, wCons, wTup, wLst, wLstM, wCall, wCall0, wVar, wC, wLc, wLcM, wYes, wiL, wiT, wiS, wiR, wiEnT, wiEnL, wiZip, wSl, woNone, woSome, wMt, wJoin, wGet, wUn, wTru, wDNew, fin, List.getElem?_cons_zero, List.getElem?_cons_succ, List.set_cons_zero, List.set_cons_succ, rdAdd, rdI, rdI0, rdU, rdOrd, rdIs, rdIn, rdIx, rdGet, rdSl, rdLen, rdType, rdIsiA, rdAll, rdInt, rdTuple, rdDict, rdSortD, rdAppend, rdPop, rdPopAt, tyD, c1, c2, decide_true, Bool.not_true, Bool.false_eq_true, if_false, asR]
            exact ⟨h2, main⟩
          · exact absurd ⟨b1, b2⟩ main
        · have c1 : (1 : Int) ≤ (s.length : Int) := by omega
          have c2 : ¬ (s.length : Int) ≤ 8 := by omega
          simp only [wNext, wSeq, wBreak, wContinue, wExpr, wRet, wRetN, wIfS, wSet, wAsg, wPar, wPar3, wFor, wSub, wTst, wOp, wChain, wNotT, wAndT, wOrT, wAndV, wOrV, wNotV, wIf, wNil, wCons, wTup, wLst, wLstM, wCall, wCall0, wVar, wC, wLc, wLcM, wYes, wiL, wiT, wiS, wiR, wiEnT, wiEnL, wiZip, wSl, woNone, woSome, wMt, wJoin, wGet, wUn, wTru, wDNew, fin, List.getElem?_cons_zero, List.getElem?_cons_succ, List.set_cons_zero, List.set_cons_succ, rdAdd, rdI, rdI0, rdU, rdOrd, rdIs, rdIn, rdIx, rdGet, rdSl, rdLen, rdType, rdIsiA, rdAll, rdInt, rdTuple, rdDict, rdSortD, rdAppend, rdPop, rdPopAt, tyD, c1, c2, decide_true, decide_false, Bool.not_true, Bool.not_false, Bool.false_eq_true, if_false, if_true]
          rw [show isNameB (.str s) = isNm s from rfl, fin2] at h3
          simp only [b2, decide_false, Bool.and_false, Bool.false_and] at h3
          exact ⟨h2, h3⟩
      · have c1 : ¬ (1 : Int) ≤ (s.length : Int) := by omega
        simp only [wNext, wSeq, wBreak, wContinue, wExpr, wRet, wRetN, wIfS, wSet, wAsg, wPar, wPar3, wFor, wSub, wTst, wOp, wChain, wNotT, wAndT, wOrT, wAndV, wOrV, wNotV, wIf, wNil, wCons, wTup, wLst, wLstM, wCall, wCall0, wVar, wC, wLc, wLcM, wYes, wiL, wiT, wiS, wiR, wiEnT, wiEnL, wiZip, wSl, woNone, woSome, wMt, wJoin, wGet, wUn, wTru, wDNew, fin, List.getElem?_cons_zero, List.getElem?_cons_succ, List.set_cons_zero, List.set_cons_succ, rdAdd, rdI, rdI0, rdU, rdOrd, rdIs, rdIn, rdIx, rdGet, rdSl, rdLen, rdType, rdIsiA, rdAll, rdInt, rdTuple, rdDict, rdSortD, rdAppend, rdPop, rdPopAt, tyD, c1, decide_true, decide_false, Bool.not_true, Bool.not_false, Bool.false_eq_true, if_false, if_true]
        rw [show isNameB (.str s) = isNm s from rfl, fin2] at h3
        simp only [b1, decide_false, Bool.and_false, Bool.false_and] at h3
        exact ⟨h2, h3⟩
    | cel a => 
      simp only [wNext, wSeq, wBreak, wContinue, wExpr, wRet, wRetN, wIfS, wSet, wAsg, wPar, wPar3, wFor, wSub, wTst, wOp, wChain, wNotT, wAndT, wOrT, wAndV, wOrV, wNotV, wIf, wNil, wCons, wTup, wLst, wLstM, wCall, wCall0, wVar, wC, wLc, wLcM, wYes, wiL, wiT, wiS, wiR, wiEnT, wiEnL, wiZip, wSl, woNone, woSome, wMt, wJoin, wGet, wUn, wTru, wDNew, fin, List.getElem?_cons_zero, List.getElem?_cons_succ, List.set_cons_zero, List.set_cons_succ, rdAdd, rdI, rdI0, rdU, rdOrd, rdIs, rdIn, rdIx, rdGet, rdSl, rdLen, rdType, rdIsiA, rdAll, rdInt, rdTuple, rdDict, rdSortD, rdAppend, rdPop, rdPopAt]
      cases q : tyD M (.cel a) with
      | none => rw [q] at h1; cases h1
      | some t =>
        have : t = "list" ∨ t = "dict" := by
          unfold tyD at q
          simp only at q
          split at q <;> cases q <;> simp
        rcases this with e | e <;> subst e <;> simpa [isNameB] using h3
    | ty n => cases h1
    | _ => 
      simp only [wNext, wSeq, wBreak, wContinue, wExpr, wRet, wRetN, wIfS, wSet, wAsg, wPar, wPar3, wFor, wSub, wTst, wOp, wChain, wNotT, wAndT, wOrT, wAndV, wOrV, wNotV, wIf, wNil, wCons, wTup, wLst, wLstM, wCall, wCall0, wVar, wC, wLc, wLcM, wYes, wiL, wiT, wiS, wiR, wiEnT, wiEnL, wiZip, wSl, woNone, woSome, wMt, wJoin, wGet, wUn, wTru, wDNew, fin, List.getElem?_cons_zero, List.getElem?_cons_succ, List.set_cons_zero, List.set_cons_succ, rdAdd, rdI, rdI0, rdU, rdOrd, rdIs, rdIn, rdIx, rdGet, rdSl, rdLen, rdType, rdIsiA, rdAll, rdInt, rdTuple, rdDict, rdSortD, rdAppend, rdPop, rdPopAt, tyD]
      simpa [isNameB] using h3
  · exact h.elim
end
end K04

set_option autoImplicit false
set_option maxRecDepth 100000
set_option maxHeartbeats 4000000
namespace K04
open PySem L2 DL
theorem ok_nm {s : Str} (h : isNm s = true) : PyData.strOk s = true := by
  unfold isNm at h
  simp only [Bool.and_eq_true, List.all_eq_true] at h
  unfold PyData.strOk
  rw [← Array.all_toList, List.all_eq_true]
  intro c hc
  have := h.2 c hc
  unfold letter at this
  simp at this ⊢; omega
theorem ok_kd {s : Str} (h : s = Str.ofString "number" ∨ s = Str.ofString "name") : PyData.strOk s = true := by
  rcases h with rfl | rfl <;> decide +kernel
/-! what is asked of a value that anything may be -/
mutual
def okR (M : Mem) : D → Prop
  | .non => True
  | .bl _ => True
  | .int _ => True
  | .str s => s.length ≤ 1000000
  | .tup ds => ds.length ≤ 1000 ∧ okRs M ds
  | .lst _ => True
  | .cel a => (tyD M (.cel a)).isSome = true
  | _ => False
def okRs (M : Mem) : List D → Prop
  | [] => True
  | d :: ds => okR M d ∧ okRs M ds
end
theorem okRs_mem {M : Mem} : ∀ {ds : List D} {d : D}, okRs M ds → d ∈ ds → okR M d
  | x :: ds, d, h, hd => by
    unfold okRs at h
    rcases List.mem_cons.mp hd with e | e
    · rw [e]; exact h.1
    · exact okRs_mem h.2 e
theorem okRs_of {M : Mem} : ∀ {ds : List D}, (∀ d ∈ ds, okR M d) → okRs M ds
  | [], _ => by unfold okRs; trivial
  | d :: ds, h => by unfold okRs; exact ⟨h d List.mem_cons_self, okRs_of fun e he => h e (List.mem_cons_of_mem _ he)⟩
def tyS (M : Mem) (d : D) : String := (tyD M d).getD ""
theorem okR_ty {M : Mem} {d : D} (h : okR M d) : ∃ t, tyD M d = some t ∧ ((t = "int") = ∃ i, d = .int i) ∧ ((t = "str") = ∃ s, d = .str s) ∧ ((t = "tuple") = ∃ ds, d = .tup ds) ∧ ((t = "bool") = ∃ b, d = .bl b) := by
  cases d with
  | cel a =>
    unfold okR at h
    cases q : tyD M (.cel a) with
    | none => rw [q] at h; cases h
    | some t =>
      refine ⟨t, rfl, ?_⟩
      unfold tyD at q
      simp only at q
      split at q <;> cases q <;> simp
  | scr _ => unfold okR at h; exact h.elim
  | ty _ => unfold okR at h; exact h.elim
  | _ => exact ⟨_, rfl, by simp⟩
theorem okR_D {M : Mem} {d : D} (h : okR M d) : okD M d := by
  obtain ⟨t, e, _⟩ := okR_ty h
  refine ⟨by rw [e]; rfl, fun s z => ?_⟩
  subst z
  unfold okR at h
  exact z1 h
def isInt : D → Bool
  | .int _ => true
  | _ => false
def isStr : D → Bool
  | .str _ => true
  | _ => false
def isTup : D → Bool
  | .tup _ => true
  | _ => false
theorem r_type {M : Mem} {d : D} {k : KD} {t : String} (e : tyD M d = some t) (hk : k (.ty t) M) : rdType [d] M k := by
  unfold rdType; simp only [e]; exact hk
theorem ty_int {M : Mem} {d : D} {k : KD} {f : Bool → Bool} (h : okR M d) (hk : k (.bl (f (isInt d))) M) : rdType [d] M fun x M1 => rdIs f x (.ty "int") M1 k := by
  obtain ⟨t, e, e1, _⟩ := okR_ty h
  refine r_type e ?_
  have : decide (t = "int") = isInt d := by
    rw [Bool.eq_iff_iff, decide_eq_true_eq, e1]
    cases d <;> simp [isInt]
  show k (.bl (f (decide (t = "int")))) M
  rw [this]; exact hk
theorem ty_str {M : Mem} {d : D} {k : KD} {f : Bool → Bool} (h : okR M d) (hk : k (.bl (f (isStr d))) M) : rdType [d] M fun x M1 => rdIs f x (.ty "str") M1 k := by
  obtain ⟨t, e, _, e1, _⟩ := okR_ty h
  refine r_type e ?_
  have : decide (t = "str") = isStr d := by
    rw [Bool.eq_iff_iff, decide_eq_true_eq, e1]
    cases d <;> simp [isStr]
  show k (.bl (f (decide (t = "str")))) M
  rw [this]; exact hk
theorem ty_tup {M : Mem} {d : D} {k : KD} {f : Bool → Bool} (h : okR M d) (hk : k (.bl (f (isTup d))) M) : rdType [d] M fun x M1 => rdIs f x (.ty "tuple") M1 k := by
  obtain ⟨t, e, _, _, e1, _⟩ := okR_ty h
  refine r_type e ?_
  have : decide (t = "tuple") = isTup d := by
    rw [Bool.eq_iff_iff, decide_eq_true_eq, e1]
    cases d <;> simp [isTup]
  show k (.bl (f (decide (t = "tuple")))) M
  rw [this]; exact hk
theorem isn_ok {M : Mem} {d : D} {k : KD} {f : Bool → Bool} (h : okR M d) (hk : k (.bl (f (isNon d))) M) : rdIs f d .non M k := by
  cases d with
  | scr _ => unfold okR at h; exact h.elim
  | ty _ => unfold okR at h; exact h.elim
  | _ => exact hk
theorem tyD_cel {M : Mem} {a : Addr} : (tyD M (.cel a)).isSome = (M a).any oldC := by
  unfold tyD
  simp only
  cases M a with
  | none => rfl
  | some c => cases c <;> rfl
end K04

set_option autoImplicit false
set_option maxRecDepth 100000
set_option maxHeartbeats 4000000
namespace K04
open PySem L2 DL
abbrev Cols := List (Str × Str)
def colD (c : Str × Str) : D := .tup [.str c.1, .str c.2]
def colsD (cs : Cols) : D := .tup (cs.map colD)
def tabD (t : Str × Cols) : D := .tup [.str t.1, colsD t.2]
def Kd (s : Str) : Prop := s = Str.ofString "number" ∨ s = Str.ofString "name"
end K04

set_option autoImplicit false
set_option maxRecDepth 100000
set_option maxHeartbeats 4000000
namespace K04
open PySem L2 DL
section
variable {P : Program} {w : World} {K : PySem.W.Frag} {mg : Str → Option Value} {base : Heap}
def pr (p : Str × D) : D := .tup [.str p.1, p.2]
def findP (l : List (Str × D)) (s : Str) : Option Nat := l.findIdx? fun p => decide (p.1 = s)
def placeD (l : List (Str × D)) : D → D
  | .str s => if isNm s = true then (match findP l s with | some i => .int (i : Nat) | none => .non) else .non
  | _ => .non
def F_place_of : FD := fun ds M k => ∃ (l : List (Str × D)) (x : D), ds = [.tup (l.map pr), x] ∧ okR M x ∧ k (placeD l x) M
theorem place_loop {s : Str} {M : Mem} {a : Option D} {kk : KS} : ∀ (l : List (Str × D)) (i : Nat) (x2 x3 x4 : Option D),
    (match findP l s with | some j => kk.rt (.int ((i + j : Nat) : Int)) M | none => ∀ Γ, kk.nx Γ M) →
    loopD (gT (gsCons (gN 2) (gsCons (gT (gsCons (gN 3) (gsCons (gN 4) gsNil))) gsNil))) (wIfS (wTst (wOp (rdEq id) (wVar 3) (wVar 1))) (wRet (wVar 2)) wNext) gAny
      (((l.map pr).zipIdx i).map fun (d, i) => .tup [.int (i : Nat), d]) kk [a, some (.str s), x2, x3, x4] M
  | [], i, x2, x3, x4, h => ⟨trivial, h _⟩
  | p :: l, i, x2, x3, x4, h => by
    refine ⟨trivial, ?_⟩
    simp only [pr, gT, gsCons, gN, gsNil, wNext, wSeq, wBreak, wContinue, wExpr, wRet, wRetN, wIfS, wSet, wAsg, wPar, wPar3, wFor, wSub, wTst, wOp, wChain, wNotT, wAndT, wOrT, wAndV, wOrV, wNotV, wIf, wNil, wCons, wTup, wLst, wLstM, wCall, wCall0, wVar, wC, wLc, wLcM, wYes, wiL, wiT, wiS, wiR, wiEnT, wiEnL, wiZip, wSl, woNone, woSome, wMt, wJoin, wGet, wUn, wTru, wDNew, fin, List.getElem?_cons_zero, List.getElem?_cons_succ, List.set_cons_zero, List.set_cons_succ, rdAdd, rdI, rdI0, rdU, rdOrd, rdIs, rdIn, rdIx, rdGet, rdSl, rdLen, rdType, rdIsiA, rdAll, rdInt, rdTuple, rdDict, rdSortD, rdAppend, rdPop, rdPopAt]
    refine eq_strA ?_
    by_cases e : p.1 = s
    · have : findP (p :: l) s = some 0 := by unfold findP; rw [List.findIdx?_cons]; simp [e]
      rw [this] at h
      simp only [id, e, decide_true, if_true]
      simpa using h
    · have : findP (p :: l) s = (findP l s).map (· + 1) := by unfold findP; rw [List.findIdx?_cons]; simp [e]
      rw [this] at h
      simp only [id, e, decide_false, Bool.false_eq_true, if_false]
      refine place_loop (a := a) l (i + 1) _ _ _ ?_
      cases q : findP l s with
      | none => rw [q] at h; exact h
      | some j => rw [q] at h; simp only [Option.map_some] at h; show kk.rt (.int ((i + 1 + j : Nat) : Int)) M; rw [show i + 1 + j = i + (j + 1) by omega]; exact h
theorem ok_place_of (T : Txt K mg) (B : DD K mg) : DFn P w K mg base 2 B.f_place_of B.fd_place_of p_place_of F_place_of := by
  have G_is_name : DFn P w K mg base 1 B.f_is_name B.fd_is_name p_is_name F_is_name := ok_is_name T B.d_is_name
  refine Fun.okD B.d_place_of.F sc_place_of (fun cdv A outer s H E hr => (dss_cons (ds_if (dt_not (dt_val (de_own B.d_is_name G_is_name hr (by first | decide | omega) (da_cons (dv 1) da_nil)))) (dss_one (ds_ret de_non)) dss_nil) (dss_cons (ds_for rfl (di_enumT T.b_enumerate (da_cons (dv 0) da_nil)) (dg_tup rfl (dgs_cons (dg_name (i := 2) sc_place_of.nd) (dgs_cons (dg_tup rfl (dgs_cons (dg_name (i := 3) sc_place_of.nd) (dgs_cons (dg_name (i := 4) sc_place_of.nd) dgs_nil)) (gsCons_len (gsCons_len gsNil_len))) dgs_nil)) (gsCons_len (gsCons_len gsNil_len))) (dss_one (ds_if (dt_cmpA (c_eq hr) (dv 3) (dv 1)) (dss_one (ds_ret (dv 2))) dss_nil))) (dss_one (ds_ret de_non))))) (fun ds M k h => ?_)
  obtain ⟨l, x, rfl, hx, h⟩ := h
  (refine ⟨rfl, ?_⟩; rw [show startD N_place_of [.tup (l.map pr), x] = [some (.tup (l.map pr)), some (x), none, none, none] from rfl])
  simp only [wNext, wSeq, wBreak, wContinue, wExpr, wRet, wRetN, wIfS, wSet, wAsg, wPar, wPar3, wFor, wSub, wTst, wOp, wChain, wNotT, wAndT, wOrT, wAndV, wOrV, wNotV, wIf, wNil, wCons, wTup, wLst, wLstM, wCall, wCall0, wVar, wC, wLc, wLcM, wYes, wiL, wiT, wiS, wiR, wiEnT, wiEnL, wiZip, wSl, woNone, woSome, wMt, wJoin, wGet, wUn, wTru, wDNew, fin, List.getElem?_cons_zero, List.getElem?_cons_succ, List.set_cons_zero, List.set_cons_succ, rdAdd, rdI, rdI0, rdU, rdOrd, rdIs, rdIn, rdIx, rdGet, rdSl, rdLen, rdType, rdIsiA, rdAll, rdInt, rdTuple, rdDict, rdSortD, rdAppend, rdPop, rdPopAt]
  refine ⟨okR_D hx, ?_⟩
  cases x with
  | str s =>
    simp only [isNameB]
    simp only [placeD] at h
    by_cases q : isNm s = true
    · simp only [q, Bool.not_true, Bool.false_eq_true, if_false, if_true] at h ⊢
      refine place_loop l 0 _ _ _ ?_
      cases q2 : findP l s with
      | none => rw [q2] at h; exact fun _ => h
      | some j => rw [q2] at h; simpa using h
    · have q' : isNm s = false := by simpa using q
      simp only [q'] at h ⊢
      simpa using h
  | _ => simpa [isNameB, placeD] using h
end
end K04

set_option autoImplicit false
set_option maxRecDepth 100000
set_option maxHeartbeats 4000000
namespace K04
open PySem L2 DL
/-! the measure of what is spoilt -/
mutual
def wide : D → Nat
  | .tup ds => max ds.length (wides ds)
  | .lst ds => wides ds
  | _ => 0
def wides : List D → Nat
  | [] => 0
  | d :: ds => max (wide d) (wides ds)
end
theorem heavies_app : ∀ a b : List D, heavies (a ++ b) = heavies a + heavies b
  | [], b => by
    have e : heavies [] = 0 := by rw [heavies]
    rw [e]; simp
  | d :: a, b => by
    have ih := heavies_app a b
    show heavies (d :: (a ++ b)) = heavies (d :: a) + heavies b
    have e1 : heavies (d :: (a ++ b)) = heavy d + 1 + heavies (a ++ b) := by rw [heavies]
    have e2 : heavies (d :: a) = heavy d + 1 + heavies a := by rw [heavies]
    omega
theorem fars_le {n : Nat} : ∀ {a : List D}, fars a ≤ n ↔ ∀ d ∈ a, far d ≤ n
  | [] => by simp [fars]
  | d :: a => by
    have e : fars (d :: a) = max (far d) (fars a) := by rw [fars]
    rw [e, Nat.max_le, fars_le (a := a)]
    simp
theorem wides_le {n : Nat} : ∀ {a : List D}, wides a ≤ n ↔ ∀ d ∈ a, wide d ≤ n
  | [] => by simp [wides]
  | d :: a => by
    have e : wides (d :: a) = max (wide d) (wides a) := by rw [wides]
    rw [e, Nat.max_le, wides_le (a := a)]
    simp
theorem fits_all {N : Nat} {M : Mem} : ∀ {a : List D}, fits N M a = true ↔ ∀ d ∈ a, fit N M d = true
  | [] => by simp [fits]
  | d :: a => by
    have e : fits N M (d :: a) = (fit N M d && fits N M a) := by rw [fits]
    rw [e, Bool.and_eq_true, fits_all (a := a)]
    simp
theorem heavy_mem : ∀ {a : List D} {d : D}, d ∈ a → heavy d + 1 ≤ heavies a
  | x :: a, d, h => by
    have e : heavies (x :: a) = heavy x + 1 + heavies a := by rw [heavies]
    rcases List.mem_cons.mp h with z | z
    · rw [z]; omega
    · have := heavy_mem z; omega
theorem len_heavy : ∀ a : List D, a.length ≤ heavies a
  | [] => Nat.zero_le _
  | d :: a => by
    have e : heavies (d :: a) = heavy d + 1 + heavies a := by rw [heavies]
    have := len_heavy a
    rw [List.length_cons]; omega
structure Good (N : Nat) (M : Mem) (a b c : Nat) (d : D) : Prop where
  ok : fit N M d = true
  hv : heavy d ≤ a
  fr : far d ≤ b
  wd : wide d ≤ c
theorem heavy_tup (ds : List D) : heavy (.tup ds) = heavies ds := by rw [heavy]
theorem far_tup (ds : List D) : far (.tup ds) = fars ds + 1 := by rw [far]
theorem wide_tup (ds : List D) : wide (.tup ds) = max ds.length (wides ds) := by rw [wide]
theorem fit_tup (N : Nat) (M : Mem) (ds : List D) : fit N M (.tup ds) = fits N M ds := by rw [fit]
/-- a part of such a thing -/
theorem Good.at {N : Nat} {M : Mem} {a b c : Nat} {ds : List D} {d : D} (h : Good N M a b c (.tup ds)) (hd : d ∈ ds) : Good N M a (b - 1) c d := by
  obtain ⟨h1, h2, h3, h4⟩ := h
  rw [fit_tup] at h1
  rw [heavy_tup] at h2
  rw [far_tup] at h3
  rw [wide_tup] at h4
  have := heavy_mem hd
  have f := fars_le.mp (show fars ds ≤ b - 1 by omega) d hd
  have g := wides_le.mp (show wides ds ≤ c by omega) d hd
  exact ⟨fits_all.mp h1 d hd, by omega, f, g⟩
/-! what is asked of anything follows -/
mutual
theorem good_okR {N : Nat} {M : Mem} : ∀ (d : D), fit N M d = true → heavy d ≤ 1000000 → wide d ≤ 1000 → okR M d
  | .non, _, _, _ => by unfold okR; trivial
  | .bl _, _, _, _ => by unfold okR; trivial
  | .int _, _, _, _ => by unfold okR; trivial
  | .str s, _, h, _ => by unfold okR; rw [heavy] at h; exact h
  | .tup ds, h1, h2, h3 => by
    rw [fit_tup] at h1
    rw [heavy_tup] at h2
    rw [wide_tup] at h3
    unfold okR
    exact ⟨by omega, goods_okR ds h1 h2 (by omega)⟩
  | .lst _, _, _, _ => by unfold okR; trivial
  | .cel a, h, _, _ => by
    unfold okR
    rw [tyD_cel]
    unfold fit at h
    split at h
    · rename_i q; rw [q]; rfl
    · cases h
  | .scr _, h, _, _ => by unfold fit at h; cases h
  | .ty _, h, _, _ => by unfold fit at h; cases h
theorem goods_okR {N : Nat} {M : Mem} : ∀ (ds : List D), fits N M ds = true → heavies ds ≤ 1000000 → wides ds ≤ 1000 → okRs M ds
  | [], _, _, _ => by unfold okRs; trivial
  | d :: ds, h1, h2, h3 => by
    rw [fits, Bool.and_eq_true] at h1
    rw [heavies] at h2
    rw [wides] at h3
    unfold okRs
    exact ⟨good_okR d h1.1 (by omega) (by omega), goods_okR ds h1.2 (by omega) (by omega)⟩
end
end K04

set_option autoImplicit false
set_option maxRecDepth 100000
set_option maxHeartbeats 4000000
namespace K04
open PySem L2 DL
theorem heavies_nil : heavies [] = 0 := by rw [heavies]
theorem heavies_one (d : D) : heavies [d] = heavy d + 1 := by rw [heavies, heavies_nil]
theorem heavies_take (ds : List D) (i : Nat) : heavies (ds.take i) ≤ heavies ds := by
  have := heavies_app (ds.take i) (ds.drop i)
  rw [List.take_append_drop] at this; omega
theorem heavies_drop (ds : List D) (i : Nat) : heavies (ds.drop i) ≤ heavies ds := by
  have := heavies_app (ds.take i) (ds.drop i)
  rw [List.take_append_drop] at this; omega
theorem heavies_cut (ds : List D) (lo hi : Option Int) : heavies (cutD ds lo hi) ≤ heavies ds := by
  unfold cutD
  exact Nat.le_trans (heavies_take _ _) (heavies_drop _ _)
theorem heavies_rev : ∀ ds : List D, heavies ds.reverse = heavies ds
  | [] => rfl
  | d :: ds => by
    have e : heavies (d :: ds) = heavy d + 1 + heavies ds := by rw [heavies]
    rw [List.reverse_cons, heavies_app, heavies_rev ds, heavies_one, e]; omega
theorem cut_in {ds : List D} {lo hi : Option Int} {x : D} (h : x ∈ cutD ds lo hi) : x ∈ ds := List.mem_of_mem_drop (List.mem_of_mem_take h)
theorem cut_le (ds : List D) (lo hi : Option Int) : (cutD ds lo hi).length ≤ ds.length := by
  unfold cutD; rw [List.length_take, List.length_drop]; omega
mutual
theorem fit_up {N N' : Nat} {M : Mem} (hn : N ≤ N') : ∀ d, fit N M d = true → fit N' M d = true
  | .non, _ => by unfold fit; rfl
  | .bl _, _ => by unfold fit; rfl
  | .int _, q => by unfold fit at *; exact decide_eq_true (Nat.lt_of_lt_of_le (of_decide_eq_true q) hn)
  | .str _, q => by unfold fit at *; exact q
  | .tup ds, q => by unfold fit at *; exact fits_up hn ds q
  | .lst ds, q => by unfold fit at *; exact fits_up hn ds q
  | .cel a, q => by unfold fit at *; exact q
  | .scr _, q => by unfold fit at q; cases q
  | .ty _, q => by unfold fit at q; cases q
theorem fits_up {N N' : Nat} {M : Mem} (hn : N ≤ N') : ∀ ds, fits N M ds = true → fits N' M ds = true
  | [], _ => by unfold fits; rfl
  | d :: ds, q => by
    unfold fits at *
    rw [Bool.and_eq_true] at q
    rw [fit_up hn d q.1, fits_up hn ds q.2]; rfl
end
theorem Good.upN {N N' : Nat} {M : Mem} {a b c : Nat} {d : D} (hn : N ≤ N') (h : Good N M a b c d) : Good N' M a b c d := ⟨fit_up hn d h.ok, h.hv, h.fr, h.wd⟩
theorem Good.up {N : Nat} {M : Mem} {a b c a' b' c' : Nat} {d : D} (h : Good N M a b c d) (h1 : a ≤ a') (h2 : b ≤ b') (h3 : c ≤ c') : Good N M a' b' c' d :=
  ⟨h.ok, Nat.le_trans h.hv h1, Nat.le_trans h.fr h2, Nat.le_trans h.wd h3⟩
theorem good_tup {N : Nat} {M : Mem} {a b c : Nat} {xs : List D} (h : ∀ x ∈ xs, fit N M x = true ∧ far x ≤ b ∧ wide x ≤ c) (h1 : heavies xs ≤ a) (h2 : xs.length ≤ c) : Good N M a (b + 1) c (.tup xs) := by
  refine ⟨by rw [fit_tup, fits_all]; exact fun x hx => (h x hx).1, by rw [heavy_tup]; exact h1, ?_, ?_⟩
  · rw [far_tup]
    have := fars_le.mpr fun x hx => (h x hx).2.1
    omega
  · rw [wide_tup]
    have := wides_le.mpr fun x hx => (h x hx).2.2
    omega
theorem good_lst {N : Nat} {M : Mem} {a b c : Nat} {xs : List D} (h : ∀ x ∈ xs, fit N M x = true ∧ far x ≤ b ∧ wide x ≤ c) (h1 : heavies xs ≤ a) : Good N M a (b + 1) c (.lst xs) := by
  refine ⟨by rw [fit]; exact fits_all.mpr fun x hx => (h x hx).1, by rw [heavy]; exact h1, ?_, ?_⟩
  · rw [far]
    have := fars_le.mpr fun x hx => (h x hx).2.1
    omega
  · rw [wide]; exact wides_le.mpr fun x hx => (h x hx).2.2
theorem good_str {N : Nat} {M : Mem} {a b c : Nat} {s : Str} (h : plain s = true) (h1 : s.length ≤ a) : Good N M a b c (.str s) :=
  ⟨by rw [fit]; exact h, by rw [heavy]; exact h1, by unfold far; exact Nat.zero_le _, by unfold wide; exact Nat.zero_le _⟩
theorem good_nm {N : Nat} {M : Mem} {b c : Nat} {s : Str} (h : isNm s = true) : Good N M 8 b c (.str s) := by
  unfold isNm at h
  simp only [Bool.and_eq_true, decide_eq_true_eq, List.all_eq_true] at h
  refine good_str (plain_iff.mpr fun x hx => ?_) h.1.2
  have := h.2 x hx
  unfold letter at this
  simp at this
  omega
theorem good_int {N : Nat} {M : Mem} {b c : Nat} {i : Int} (h : i.natAbs < N) : Good N M 41 b c (.int i) :=
  ⟨by rw [fit]; exact decide_eq_true h, by rw [heavy]; exact Nat.le_refl _, by unfold far; exact Nat.zero_le _, by unfold wide; exact Nat.zero_le _⟩
theorem good_non {N : Nat} {M : Mem} {a b c : Nat} : Good N M a b c .non := ⟨by unfold fit; rfl, by unfold heavy; exact Nat.zero_le _, by unfold far; exact Nat.zero_le _, by unfold wide; exact Nat.zero_le _⟩
theorem good_bl {N : Nat} {M : Mem} {a b c : Nat} {x : Bool} : Good N M a b c (.bl x) := ⟨by unfold fit; rfl, by unfold heavy; exact Nat.zero_le _, by unfold far; exact Nat.zero_le _, by unfold wide; exact Nat.zero_le _⟩
theorem good_cel {N : Nat} {M : Mem} {a b c : Nat} {p : Addr} (h : M p = some (.dct [])) (hb : 1 ≤ b) : Good N M a b c (.cel p) := ⟨by unfold fit; rw [h], by unfold heavy; exact Nat.zero_le _, by unfold far; exact hb, by unfold wide; exact Nat.zero_le _⟩
mutual
theorem fit_mono {N : Nat} {M M' : Mem} (h : ∀ a, M a = some (.dct []) → M' a = some (.dct [])) : ∀ d, fit N M d = true → fit N M' d = true
  | .non, _ => by unfold fit; rfl
  | .bl _, _ => by unfold fit; rfl
  | .int _, q => by unfold fit at *; exact q
  | .str _, q => by unfold fit at *; exact q
  | .tup ds, q => by unfold fit at *; exact fits_mono h ds q
  | .lst ds, q => by unfold fit at *; exact fits_mono h ds q
  | .cel a, q => by
    unfold fit at *
    split at q
    · rename_i e; rw [h a e]
    · cases q
  | .scr _, q => by unfold fit at q; cases q
  | .ty _, q => by unfold fit at q; cases q
theorem fits_mono {N : Nat} {M M' : Mem} (h : ∀ a, M a = some (.dct []) → M' a = some (.dct [])) : ∀ ds, fits N M ds = true → fits N M' ds = true
  | [], _ => by unfold fits; rfl
  | d :: ds, q => by
    unfold fits at *
    rw [Bool.and_eq_true] at q
    rw [fit_mono h d q.1, fits_mono h ds q.2]; rfl
end
end K04

set_option autoImplicit false
set_option maxRecDepth 100000
set_option maxHeartbeats 4000000
namespace K04
open PySem L2 DL
section
variable {P : Program} {w : World} {K : PySem.W.Frag} {mg : Str → Option Value} {base : Heap}
/-! the hand: its digits, its mixing, how often it was asked (at most n times) -/
def Hn (M : Mem) (h : Addr) (n : Nat) : Prop := ∃ a b c : Int, M h = some (.lst [.int a, .int b, .int c]) ∧ 0 ≤ a ∧ 0 ≤ b ∧ b < 2305843009213693951 ∧ 0 ≤ c ∧ c ≤ n
def Ex (h : Addr) (M M' : Mem) : Prop := ∀ a c, a ≠ h → M a = some c → M' a = some c
theorem Ex.refl (h : Addr) (M : Mem) : Ex h M M := fun _ _ _ e => e
theorem Ex.trans {h : Addr} {M M1 M2 : Mem} (a : Ex h M M1) (b : Ex h M1 M2) : Ex h M M2 := fun x c n e => b x c n (a x c n e)
theorem Hn.up {M : Mem} {h : Addr} {n m : Nat} (q : Hn M h n) (l : n ≤ m) : Hn M h m := by
  obtain ⟨a, b, c, e, h1, h2, h3, h4, h5⟩ := q
  exact ⟨a, b, c, e, h1, h2, h3, h4, by omega⟩
theorem Hn.fresh {M : Mem} {h p : Addr} {n : Nat} (q : Hn M h n) (hp : M p = none) : p ≠ h := by
  obtain ⟨a, b, c, e, _⟩ := q
  exact Ne.symm (neM e hp)
theorem Hn.set {M : Mem} {h p : Addr} {n : Nat} {c : Cell} (q : Hn M h n) (hp : p ≠ h) : Hn (setM M p c) h n := by
  obtain ⟨a, b, d, e, r⟩ := q
  exact ⟨a, b, d, by rw [setM_ne (Ne.symm hp)]; exact e, r⟩
theorem Ex.new {h p : Addr} {M M' : Mem} {c : Cell} (e : Ex h M M') (hp : M p = none) : Ex h M (setM M' p c) := fun a x na q => by
  rw [setM_ne (neM q hp)]; exact e a x na q
theorem Ex.none {h p : Addr} {M M' : Mem} (e : Ex h M M') (n1 : p ≠ h) (hp : M' p = none) : M p = none := by
  cases q : M p with
  | none => rfl
  | some c => rw [e p c n1 q] at hp; cases hp
/-- a list that stands, or has a cell that isn't the hand's -/
def Lt (h : Addr) (M : Mem) (x : D) (ds : List D) : Prop := x = .lst ds ∨ ∃ a, x = .cel a ∧ a ≠ h ∧ M a = some (.lst ds)
theorem Lt.ext {h : Addr} {M M' : Mem} {x : D} {ds : List D} (e : Ex h M M') (q : Lt h M x ds) : Lt h M' x ds := by
  rcases q with q | ⟨a, q, n1, q4⟩
  · exact .inl q
  · exact .inr ⟨a, q, n1, e a _ n1 q4⟩
theorem Lt.asR {h : Addr} {M : Mem} {x : D} {ds : List D} (q : Lt h M x ds) : asR M x = some ds := by
  rcases q with q | ⟨a, q, n1, q4⟩ <;> subst q
  · rfl
  · unfold DL.asR; simp only [q4]
/-- a tuple, or such a list -/
def Sq (h : Addr) (M : Mem) (x : D) (ds : List D) : Prop := x = .tup ds ∨ Lt h M x ds
theorem Sq.len {h : Addr} {M : Mem} {x : D} {ds : List D} (q : Sq h M x ds) {k : KD} (hk : k (.int ds.length) M) : rdLen [x] M k := by
  rcases q with rfl | rfl | ⟨a, rfl, n1, q4⟩
  · exact r_lenT hk
  · exact r_lenL hk
  · exact r_lenC q4 hk
theorem Sq.ix {h : Addr} {M : Mem} {x : D} {ds : List D} (q : Sq h M x ds) {i : Int} {d : D} (hi : atI ds i = some d) {k : KD} (hk : k d M) : rdIx x (.int i) M k := by
  rcases q with rfl | rfl | ⟨a, rfl, n1, q4⟩
  · exact ix_tup hi hk
  · exact ix_lst hi hk
  · exact ix_cel q4 hi hk
theorem Sq.ext {h : Addr} {M M' : Mem} {x : D} {ds : List D} (e : Ex h M M') (q : Sq h M x ds) : Sq h M' x ds := q.imp id fun q => q.ext e
theorem atI_of {α : Type} {xs : List α} {r : Int} (h0 : 0 ≤ r) (h1 : r < xs.length) : ∃ d, atI xs r = some d ∧ d ∈ xs := by
  have h : r.toNat < xs.length := by omega
  refine ⟨xs[r.toNat], ?_, List.getElem_mem h⟩
  have := atI_nat (xs := xs) (j := r.toNat) (v := xs[r.toNat]) (by simp [h])
  rw [Int.toNat_of_nonneg h0] at this; exact this
def F_take : FD := fun ds M k => ∃ h n many, ds = [.cel h, .int many] ∧ Hn M h n ∧ n + 1 ≤ 1000000000 ∧ 0 < many ∧ many < 1073741824 ∧ ∀ r M', 0 ≤ r → r < many → Hn M' h (n + 1) → Ex h M M' → k (.int r) M'
theorem ok_take (T : Txt K mg) (B : DD K mg) : DFn P w K mg base 1 B.f_law_take B.fd_law_take p_law_take F_take := by
  refine Fun.okD B.d_law_take.F sc_law_take (fun cdv A outer s H E hr => (dss_cons (ds_if (dt_cmpA c_gt (de_ix (dv 0) de_int) de_int) (dss_cons (ds_set (i := 2) sc_law_take.nd (de_mod (de_ix (dv 0) de_int) (dv 1))) (dss_cons (ds_sub (dv 0) de_int (de_div (de_ix (dv 0) de_int) (dv 1))) (dss_one (ds_ret (dv 2))))) dss_nil) (dss_cons (ds_sub (dv 0) de_int (de_add (de_ix (dv 0) de_int) de_int)) (dss_cons (ds_set (i := 3) sc_law_take.nd (de_mod (de_mul (de_add (de_add (de_ix (dv 0) de_int) (de_mul (de_mul de_int (de_ix (dv 0) de_int)) (de_ix (dv 0) de_int))) de_int) de_int) de_int)) (dss_cons (ds_set (i := 3) sc_law_take.nd (de_mod (de_mul (dv 3) (de_add (de_mod (dv 3) de_int) (de_mul de_int (de_ix (dv 0) de_int)))) de_int)) (dss_one (ds_ret (de_mod (de_add (de_div (dv 3) de_int) (de_div (dv 3) de_int)) (dv 1))))))))) (fun ds M k h => ?_)
  obtain ⟨h, n, many, rfl, ⟨a, b, c, e, a0, b0, b1, c0, c1⟩, hn, m0, m1, hk⟩ := h
  (refine ⟨rfl, ?_⟩; rw [show startD N_law_take [.cel h, .int many] = [some (.cel h), some (.int many), none, none] from rfl])
  refine seq_step ?_
  unfold wIfS
  simp only [wNext, wBreak, wContinue, wExpr, wRet, wRetN, wSet, wAsg, wPar, wPar3, wSub, wTst, wOp, wChain, wNotT, wAndV, wOrV, wNotV, wIf, wNil, wCons, wTup, wLst, wLstM, wCall, wCall0, wVar, wC, wLc, wLcM, wYes, wiL, wiT, wiS, wiR, wiEnT, wiEnL, wiZip, wSl, woNone, woSome, wMt, wJoin, wGet, wUn, wTru, wDNew, fin, List.getElem?_cons_zero, List.getElem?_cons_succ, List.set_cons_zero, List.set_cons_succ]
  refine ix_cel e (at0 _ _) (r_ordI (bb (fun q => ?_) (fun q => ?_)))
  · have q := of_decide_eq_true q
    simp only [wNext, wSeq, wBreak, wContinue, wExpr, wRet, wRetN, wIfS, wSet, wAsg, wPar, wPar3, wFor, wSub, wTst, wOp, wChain, wNotT, wAndT, wOrT, wAndV, wOrV, wNotV, wIf, wNil, wCons, wTup, wLst, wLstM, wCall, wCall0, wVar, wC, wLc, wLcM, wYes, wiL, wiT, wiS, wiR, wiEnT, wiEnL, wiZip, wSl, woNone, woSome, wMt, wJoin, wGet, wUn, wTru, wDNew, fin, List.getElem?_cons_zero, List.getElem?_cons_succ, List.set_cons_zero, List.set_cons_succ]
    refine ix_cel e (at0 _ _) (r_mod m0 ?_)
    refine ix_cel e (at0 _ _) (r_div m0 m1 (r_st e (ix_nat (n := 3) (i := 0) (by decide)) ?_))
    simp only [wNext, wSeq, wBreak, wContinue, wExpr, wRet, wRetN, wIfS, wSet, wAsg, wPar, wPar3, wFor, wSub, wTst, wOp, wChain, wNotT, wAndT, wOrT, wAndV, wOrV, wNotV, wIf, wNil, wCons, wTup, wLst, wLstM, wCall, wCall0, wVar, wC, wLc, wLcM, wYes, wiL, wiT, wiS, wiR, wiEnT, wiEnL, wiZip, wSl, woNone, woSome, wMt, wJoin, wGet, wUn, wTru, wDNew, fin, List.getElem?_cons_zero, List.getElem?_cons_succ, List.set_cons_zero, List.set_cons_succ]
    refine hk _ _ (Int.emod_nonneg _ (by omega)) (Int.emod_lt_of_pos _ m0) ⟨a / many, b, c, setM_same, Int.ediv_nonneg a0 (by omega), b0, b1, c0, by omega⟩ fun x y nx q => by rw [setM_ne nx]; exact q
  · simp only [wNext, wSeq, wBreak, wContinue, wExpr, wRet, wRetN, wIfS, wSet, wAsg, wPar, wPar3, wFor, wSub, wTst, wOp, wChain, wNotT, wAndT, wOrT, wAndV, wOrV, wNotV, wIf, wNil, wCons, wTup, wLst, wLstM, wCall, wCall0, wVar, wC, wLc, wLcM, wYes, wiL, wiT, wiS, wiR, wiEnT, wiEnL, wiZip, wSl, woNone, woSome, wMt, wJoin, wGet, wUn, wTru, wDNew, fin, List.getElem?_cons_zero, List.getElem?_cons_succ, List.set_cons_zero, List.set_cons_succ]
    refine ix_cel e (at2 _ _ _ _) (r_add (r_st e (ix_nat (n := 3) (i := 2) (by decide)) ?_))
    have e2 : setM M h (.lst ([.int a, .int b, .int c].set 2 (.int (c + 1)))) h = some (.lst [.int a, .int b, .int (c + 1)]) := setM_same
    have x2 : Ex h M (setM M h (.lst ([.int a, .int b, .int c].set 2 (.int (c + 1))))) := fun x y nx q => by rw [setM_ne nx]; exact q
    generalize setM M h (.lst ([.int a, .int b, .int c].set 2 (.int (c + 1)))) = M2 at e2 x2
    simp only [wNext, wSeq, wBreak, wContinue, wExpr, wRet, wRetN, wIfS, wSet, wAsg, wPar, wPar3, wFor, wSub, wTst, wOp, wChain, wNotT, wAndT, wOrT, wAndV, wOrV, wNotV, wIf, wNil, wCons, wTup, wLst, wLstM, wCall, wCall0, wVar, wC, wLc, wLcM, wYes, wiL, wiT, wiS, wiR, wiEnT, wiEnL, wiZip, wSl, woNone, woSome, wMt, wJoin, wGet, wUn, wTru, wDNew, fin, List.getElem?_cons_zero, List.getElem?_cons_succ, List.set_cons_zero, List.set_cons_succ]
    refine ix_cel e2 (at1 _ _ _) (ix_cel e2 (at2 _ _ _ _) (r_mul (.inl ⟨by decide, by decide⟩) (ix_cel e2 (at2 _ _ _ _) (r_mul (.inr ⟨by omega, by omega⟩) (r_add (r_add (r_mul (.inr ⟨by decide, by decide⟩) (r_mod (by decide) ?_))))))))
    generalize hm : (b + 104729 * (c + 1) * (c + 1) + 13) * 69621 % 2305843009213693921 = m
    have p0 : 0 ≤ m := by rw [← hm]; exact Int.emod_nonneg _ (by decide)
    have p1 : m < 2305843009213693921 := by rw [← hm]; exact Int.emod_lt_of_pos _ (by decide)
    refine r_mod (by decide) (ix_cel e2 (at2 _ _ _ _) (r_mul (.inl ⟨by decide, by decide⟩) (r_add (r_mul (.inl ⟨by omega, by omega⟩) (r_mod (by decide) ?_)))))
    generalize hm2 : m * (m % 999983 + 90001 * (c + 1)) % 2305843009213693907 = m2
    refine r_div (by decide) (by decide) (r_div (by decide) (by decide) (r_add (r_mod m0 ?_)))
    exact hk _ _ (Int.emod_nonneg _ (by omega)) (Int.emod_lt_of_pos _ m0) ⟨a, b, c + 1, e2, a0, b0, b1, by omega, by omega⟩ x2
def F_pick : FD := fun ds M k => ∃ h n x xs, ds = [.cel h, x] ∧ Hn M h n ∧ n + 1 ≤ 1000000000 ∧ Sq h M x xs ∧ 0 < xs.length ∧ xs.length < 1000000 ∧ ∀ d M', d ∈ xs → Hn M' h (n + 1) → Ex h M M' → k d M'
theorem ok_pick (T : Txt K mg) (B : DD K mg) : DFn P w K mg base 2 B.f_law_pick B.fd_law_pick p_law_pick F_pick := by
  have G_law_take : DFn P w K mg base 1 B.f_law_take B.fd_law_take p_law_take F_take := ok_take T B
  refine Fun.okD B.d_law_pick.F sc_law_pick (fun cdv A outer s H E hr => (dss_one (ds_ret (de_ix (dv 1) (de_own B.d_law_take G_law_take hr (by first | decide | omega) (da_cons (dv 0) (da_cons (de_len T.b_len (dv 1)) da_nil))))))) (fun ds M k h => ?_)
  obtain ⟨h, n, x, xs, rfl, hh, hn, hx, l0, l1, hk⟩ := h
  (refine ⟨rfl, ?_⟩; rw [show startD N_law_pick [.cel h, x] = [some (.cel h), some (x)] from rfl])
  simp only [wNext, wSeq, wBreak, wContinue, wExpr, wRet, wRetN, wIfS, wSet, wAsg, wPar, wPar3, wFor, wSub, wTst, wOp, wChain, wNotT, wAndT, wOrT, wAndV, wOrV, wNotV, wIf, wNil, wCons, wTup, wLst, wLstM, wCall, wCall0, wVar, wC, wLc, wLcM, wYes, wiL, wiT, wiS, wiR, wiEnT, wiEnL, wiZip, wSl, woNone, woSome, wMt, wJoin, wGet, wUn, wTru, wDNew, fin, List.getElem?_cons_zero, List.getElem?_cons_succ, List.set_cons_zero, List.set_cons_succ]
  refine hx.len ⟨h, n, _, rfl, hh, hn, by omega, by omega, fun r M' r0 r1 h' e' => ?_⟩
  obtain ⟨d, a1, a2⟩ := atI_of (xs := xs) r0 r1
  exact (hx.ext e').ix a1 (hk d M' a2 h' e')
end
end K04

set_option autoImplicit false
set_option maxRecDepth 100000
set_option maxHeartbeats 4000000
namespace K04
open PySem PySem.Spec PyProof.Rows L2 DL
section
variable {P : Program} {w : World} {K : PySem.W.Frag} {mg : Str → Option Value} {base : Heap}
structure ColsN (m : Nat) (cs : Cols) : Prop where
  ne : cs ≠ []
  le : cs.length ≤ m
  nm : ∀ c ∈ cs, isNm c.1 = true
  kd : ∀ c ∈ cs, Kd c.2
theorem ColsN.up {m m' : Nat} {cs : Cols} (h : ColsN m cs) (l : m ≤ m') : ColsN m' cs := ⟨h.ne, Nat.le_trans h.le l, h.nm, h.kd⟩
def F_columns : FD := fun ds M k => ∃ h n, ds = [.cel h] ∧ Hn M h n ∧ n + 10 ≤ 1000000000 ∧ ∀ cs M', ColsN 4 cs → (cs.map (·.1)).Nodup → Hn M' h (n + 5) → Ex h M M' → k (colsD cs) M'
theorem kd_of {d : D} (h : d ∈ [D.str (Str.ofString "number"), D.str (Str.ofString "name")]) : ∃ s, d = .str s ∧ Kd s := by
  simp only [List.mem_cons, List.not_mem_nil, or_false] at h
  rcases h with rfl | rfl
  · exact ⟨_, rfl, .inl rfl⟩
  · exact ⟨_, rfl, .inr rfl⟩
theorem nd_str {l : List Str} (h : l.Nodup) : (l.map D.str).Nodup := List.pairwise_map.mpr (h.imp fun hne e => hne (by cases e; rfl))
theorem str_nd {l : List Str} (h : (l.map D.str).Nodup) : l.Nodup := (List.pairwise_map.mp h).imp fun hne e => hne (by rw [e])
theorem four_nd (j : Nat) : ([D.str (Str.ofString "k")] ++ [D.str (Str.ofString "x"), D.str (Str.ofString "y"), D.str (Str.ofString "z")].take j).Nodup := by
  have h : ([Str.ofString "k", Str.ofString "x", Str.ofString "y", Str.ofString "z"].map D.str).Nodup := nd_str (by decide +kernel)
  exact h.sublist (List.Sublist.append (List.Sublist.refl _) (List.take_sublist j _))
theorem ok_columns (T : Txt K mg) (B : DD K mg) : DFn P w K mg base 3 B.f_law_columns B.fd_law_columns p_law_columns F_columns := by
  have G_law_take : DFn P w K mg base 1 B.f_law_take B.fd_law_take p_law_take F_take := ok_take T B
  have G_law_pick : DFn P w K mg base 2 B.f_law_pick B.fd_law_pick p_law_pick F_pick := ok_pick T B
  refine Fun.okD B.d_law_columns.F sc_law_columns (fun cdv A outer s H E hr => (dss_cons (ds_set (i := 1) sc_law_columns.nd (de_lst (da_cons de_str (da_cons de_str da_nil)))) (dss_cons (ds_set (i := 2) sc_law_columns.nd (de_lstM (da_cons (de_tup (da_cons de_str (da_cons (de_own B.d_law_pick G_law_pick hr (by first | decide | omega) (da_cons (dv 0) (da_cons (dv 1) da_nil))) da_nil))) da_nil))) (dss_cons (ds_for rfl (di_list (de_slice (de_lst (da_cons de_str (da_cons de_str (da_cons de_str da_nil)))) do_none (do_some (de_own B.d_law_take G_law_take hr (by first | decide | omega) (da_cons (dv 0) (da_cons de_int da_nil)))))) (dg_name (i := 3) sc_law_columns.nd) (dss_one (ds_expr (de_append (dv 2) (de_tup (da_cons (dv 3) (da_cons (de_own B.d_law_pick G_law_pick hr (by first | decide | omega) (da_cons (dv 0) (da_cons (dv 1) da_nil))) da_nil))))))) (dss_one (ds_ret (de_tuple T.b_tuple (dv 2)))))))) (fun ds M k h => ?_)
  obtain ⟨h, n, rfl, hh, hn, hk⟩ := h
  (refine ⟨rfl, ?_⟩; rw [show startD N_law_columns [.cel h] = [some (.cel h), none, none, none] from rfl])
  simp only [wNext, wSeq, wBreak, wContinue, wExpr, wRet, wRetN, wIfS, wSet, wAsg, wPar, wPar3, wFor, wSub, wTst, wOp, wChain, wNotT, wAndT, wOrT, wAndV, wOrV, wNotV, wIf, wNil, wCons, wTup, wLst, wLstM, wCall, wCall0, wVar, wC, wLc, wLcM, wYes, wiL, wiT, wiS, wiR, wiEnT, wiEnL, wiZip, wSl, woNone, woSome, wMt, wJoin, wGet, wUn, wTru, wDNew, fin, List.getElem?_cons_zero, List.getElem?_cons_succ, List.set_cons_zero, List.set_cons_succ]
  refine ⟨(show 2 ≤ sizeLine by decide), ⟨h, n, _, _, rfl, hh, by omega, .inr (.inl rfl), by decide, by decide, fun d M1 hd h1 e1 => ?_⟩⟩
  obtain ⟨kd, rfl, hkd⟩ := kd_of hd
  refine ⟨(show 2 ≤ sizeLine by decide), (show 1 ≤ sizeLine by decide), fun p hp => ?_⟩
  have nph := h1.fresh hp
  have hpM : M p = none := e1.none nph hp
  refine ⟨(show 3 ≤ sizeLine by decide), ⟨h, n + 1, 4, rfl, h1.set nph, by omega, by decide, by decide, fun r M2 r0 r1 h2 e2 => ?_⟩⟩
  have p2 : M2 p = some (.lst [colD (Str.ofString "k", kd)]) := e2 p _ nph setM_same
  have e12 : Ex h M M2 := (e1.new hpM).trans e2
  obtain ⟨j, rfl⟩ : ∃ j : Nat, r = (j : Int) := ⟨r.toNat, by omega⟩
  refine r_slL ?_
  rw [cut_take]
  simp only [asR]
  refine loop_inv (fun its Γ M' => ∃ cs : Cols, Hn M' h (n + 2 + (3 - its.length)) ∧ Ex h M M' ∧ M' p = some (.lst (cs.map colD)) ∧ cs ≠ [] ∧ cs.length + its.length ≤ 4 ∧ (∀ c ∈ cs, isNm c.1 = true) ∧ (∀ c ∈ cs, Kd c.2) ∧ (∀ d ∈ its, ∃ s, d = D.str s ∧ isNm s = true) ∧ ((cs.map (·.1)).map D.str ++ its).Nodup ∧
      ∃ x3, Γ = [some (.cel h), some (.lst [D.str (Str.ofString "number"), D.str (Str.ofString "name")]), some (.cel p), x3]) (fun _ _ _ _ => rfl) ?_ ?_ _ _ _
      ⟨[(Str.ofString "k", kd)], ?_, e12, p2, by simp, ?_, ?_, ?_, ?_, four_nd j, _, rfl⟩
  · rintro Γ M3 ⟨cs, h3, e3, p3, c1, c2, c3, c4, _, c6, x3, rfl⟩
    simp only [wNext, wSeq, wBreak, wContinue, wExpr, wRet, wRetN, wIfS, wSet, wAsg, wPar, wPar3, wFor, wSub, wTst, wOp, wChain, wNotT, wAndT, wOrT, wAndV, wOrV, wNotV, wIf, wNil, wCons, wTup, wLst, wLstM, wCall, wCall0, wVar, wC, wLc, wLcM, wYes, wiL, wiT, wiS, wiR, wiEnT, wiEnL, wiZip, wSl, woNone, woSome, wMt, wJoin, wGet, wUn, wTru, wDNew, fin, List.getElem?_cons_zero, List.getElem?_cons_succ, List.set_cons_zero, List.set_cons_succ]
    refine r_tupC p3 ?_
    exact hk cs M3 ⟨c1, by simpa using c2, c3, c4⟩ (str_nd (by rw [List.append_nil] at c6; exact c6)) (h3.up (by simp)) e3
  · rintro d its Γ M3 ⟨cs, h3, e3, p3, c1, c2, c3, c4, c5, c6, x3, rfl⟩
    obtain ⟨s, rfl, hs⟩ := c5 d List.mem_cons_self
    simp only [List.length_cons] at c2 h3
    have lp : cs.length ≠ 0 := fun z => c1 (List.length_eq_zero_iff.mp z)
    refine ⟨_, rfl, fun k' q1 q2 q3 q4 => ?_⟩
    simp only [wNext, wSeq, wBreak, wContinue, wExpr, wRet, wRetN, wIfS, wSet, wAsg, wPar, wPar3, wFor, wSub, wTst, wOp, wChain, wNotT, wAndT, wOrT, wAndV, wOrV, wNotV, wIf, wNil, wCons, wTup, wLst, wLstM, wCall, wCall0, wVar, wC, wLc, wLcM, wYes, wiL, wiT, wiS, wiR, wiEnT, wiEnL, wiZip, wSl, woNone, woSome, wMt, wJoin, wGet, wUn, wTru, wDNew, fin, List.getElem?_cons_zero, List.getElem?_cons_succ, List.set_cons_zero, List.set_cons_succ]
    refine ⟨isC p3, ⟨h, _, _, _, rfl, h3, by omega, .inr (.inl rfl), by decide, by decide, fun d M4 hd h4 e4 => ?_⟩⟩
    obtain ⟨kd', rfl, hkd'⟩ := kd_of hd
    refine ⟨(show 2 ≤ sizeLine by decide), r_app (e4 p _ nph p3) (z2 (by simp; omega)) ?_⟩
    refine q3 _ _ ⟨cs ++ [(s, kd')], ?_, ?_, ?_, by simp, ?_, ?_, ?_, fun d hd => c5 d (List.mem_cons_of_mem _ hd), by rw [List.map_append, List.map_append, List.append_assoc]; exact c6, _, rfl⟩
    · exact (h4.up (by omega)).set nph
    · exact (e3.trans e4).new hpM
    · rw [setM_same, List.map_append]; rfl
    · simp; omega
    · intro c hc
      rcases List.mem_append.mp hc with z | z
      · exact c3 c z
      · simp at z; subst z; exact hs
    · intro c hc
      rcases List.mem_append.mp hc with z | z
      · exact c4 c z
      · simp at z; subst z; exact hkd'
  · have := List.length_take (i := j) (l := [D.str (Str.ofString "x"), D.str (Str.ofString "y"), D.str (Str.ofString "z")])
    exact h2.up (by omega)
  · rw [List.length_take]; simp; omega
  · intro c hc; simp at hc; subst hc; show isNm (Str.ofString "k") = true; decide +kernel
  · intro c hc; simp at hc; subst hc; exact hkd
  · intro d hd
    have := List.mem_of_mem_take hd
    simp only [List.mem_cons, List.not_mem_nil, or_false] at this
    rcases this with rfl | rfl | rfl <;> exact ⟨_, rfl, by decide +kernel⟩
/-! plans -/
structure PlanN (ts : List (Str × Cols)) : Prop where
  ne : ts ≠ []
  le : ts.length ≤ 3
  nm : ∀ t ∈ ts, isNm t.1 = true
  ok : ∀ t ∈ ts, ColsN 4 t.2
  nd : ∀ t ∈ ts, (t.2.map (·.1)).Nodup
  un : (ts.map (·.1)).Nodup
def F_plan : FD := fun ds M k => ∃ h n, ∃ many : Nat, ds = [.cel h, .int (many : Nat)] ∧ Hn M h n ∧ n + 30 ≤ 1000000000 ∧ 1 ≤ many ∧ many ≤ 3 ∧ ∀ ts M', PlanN ts → Hn M' h (n + 16) → Ex h M M' → k (.tup (ts.map tabD)) M'
def eight : List Str := [Str.ofString "a", Str.ofString "all", Str.ofString "k", Str.ofString "none", Str.ofString "rows", Str.ofString "see", Str.ofString "t", Str.ofString "zzzzzzzz"]
def nm8 (at_ t : Nat) : Str := eight[(at_ + 3 * t) % 8]'(Nat.mod_lt _ (by decide))
theorem nm8_inj {at_ t t' : Nat} (h : t < 3) (h' : t' < 3) (e : nm8 at_ t = nm8 at_ t') : t = t' := by
  have nd : eight.Nodup := by decide +kernel
  have pw := List.pairwise_iff_getElem.mp nd
  unfold nm8 at e
  have h1 : (at_ + 3 * t) % 8 < eight.length := Nat.mod_lt _ (by decide)
  have h2 : (at_ + 3 * t') % 8 < eight.length := Nat.mod_lt _ (by decide)
  rcases Nat.lt_trichotomy ((at_ + 3 * t) % 8) ((at_ + 3 * t') % 8) with z | z | z
  · exact absurd e (pw _ _ h1 h2 z)
  · omega
  · exact absurd e.symm (pw _ _ h2 h1 z)
theorem nm8_nd {at_ : Nat} : ∀ {l : List Nat}, l.Nodup → (∀ t ∈ l, t < 3) → (l.map (nm8 at_)).Nodup
  | [], _, _ => List.nodup_nil
  | t :: l, h, hl => by
    obtain ⟨h1, h2⟩ := List.nodup_cons.mp h
    rw [List.map_cons, List.nodup_cons]
    refine ⟨fun z => ?_, nm8_nd h2 fun x hx => hl x (List.mem_cons_of_mem _ hx)⟩
    obtain ⟨x, hx, e⟩ := List.mem_map.mp z
    have := nm8_inj (hl x (List.mem_cons_of_mem _ hx)) (hl t List.mem_cons_self) e
    exact h1 (this ▸ hx)
theorem eight_nm : ∀ s ∈ eight, isNm s = true := by decide +kernel
theorem strs_map (l : List Str) : strsD (l.map D.str) = some l := by
  induction l with
  | nil => rfl
  | cons c r ih => rw [List.map_cons]; unfold strsD; rw [ih]
theorem ok_plan (T : Txt K mg) (B : DD K mg) : DFn P w K mg base 4 B.f_law_plan B.fd_law_plan p_law_plan F_plan := by
  have G_law_take : DFn P w K mg base 1 B.f_law_take B.fd_law_take p_law_take F_take := ok_take T B
  have G_law_columns : DFn P w K mg base 3 B.f_law_columns B.fd_law_columns p_law_columns F_columns := ok_columns T B
  refine Fun.okD B.d_law_plan.F sc_law_plan (fun cdv A outer s H E hr => (dss_cons (ds_asg (dg_tup rfl (dgs_cons (dg_name (i := 2) sc_law_plan.nd) (dgs_cons (dg_name (i := 3) sc_law_plan.nd) dgs_nil)) (gsCons_len (gsCons_len gsNil_len))) (de_tup (da_cons (de_lst (da_cons de_str (da_cons de_str (da_cons de_str (da_cons de_str (da_cons de_str (da_cons de_str (da_cons de_str (da_cons de_str da_nil))))))))) (da_cons (de_own B.d_law_take G_law_take hr (by first | decide | omega) (da_cons (dv 0) (da_cons de_int da_nil))) da_nil)))) (dss_cons (ds_set (i := 4) sc_law_plan.nd (de_sortS T.b_sorted (de_lc rfl sc_law_plan.nd (di_range T.b_range (da_cons (dv 1) da_nil)) (blkOk_by (own := [("turn", 5)]) (N := N_law_plan) (sc := defScope s_law_plan) (by decide +kernel)) (fun _ _ _ _ _ => (dg_name (i := 5) sc_law_plan.nd)) gd_name (fun _ _ _ _ _ => dts_nil) (fun _ _ _ _ _ => (de_ix (dv 2) (de_mod (de_add (dv 3) (de_mul de_int (dv 5))) de_int)))))) (dss_one (ds_ret (de_tuple T.b_tuple (de_lc rfl sc_law_plan.nd (di_list (dv 4)) (blkOk_by (own := [("name", 6)]) (N := N_law_plan) (sc := defScope s_law_plan) (by decide +kernel)) (fun _ _ _ _ _ => (dg_name (i := 6) sc_law_plan.nd)) gd_name (fun _ _ _ _ _ => dts_nil) (fun _ _ _ _ _ => (de_tup (da_cons (dv 6) (da_cons (de_own B.d_law_columns G_law_columns hr (by first | decide | omega) (da_cons (dv 0) da_nil)) da_nil))))))))))) (fun ds M k h => ?_)
  obtain ⟨h, n, many, rfl, hh, hn, m1, m3, hk⟩ := h
  (refine ⟨rfl, ?_⟩; rw [show startD N_law_plan [.cel h, .int (many : Nat)] = [some (.cel h), some (.int (many : Nat)), none, none, none, none, none] from rfl])
  simp only [wNext, wSeq, wBreak, wContinue, wExpr, wRet, wRetN, wIfS, wSet, wAsg, wPar, wPar3, wFor, wSub, wTst, wOp, wChain, wNotT, wAndT, wOrT, wAndV, wOrV, wNotV, wIf, wNil, wCons, wTup, wLst, wLstM, wCall, wCall0, wVar, wC, wLc, wLcM, wYes, wiL, wiT, wiS, wiR, wiEnT, wiEnL, wiZip, wSl, woNone, woSome, wMt, wJoin, wGet, wUn, wTru, wDNew, fin, List.getElem?_cons_zero, List.getElem?_cons_succ, List.set_cons_zero, List.set_cons_succ]
  refine ⟨(show 8 ≤ sizeLine by decide), ⟨h, n, 8, rfl, hh, by omega, by decide, by decide, fun r M1 r0 r1 h1 e1 => ?_⟩⟩
  obtain ⟨at_, rfl⟩ : ∃ j : Nat, r = (j : Int) := ⟨r.toNat, by omega⟩
  refine ⟨(show 2 ≤ sizeLine by decide), ?_⟩
  simp only [gT, gsCons, gN, gsNil, wNext, wSeq, wBreak, wContinue, wExpr, wRet, wRetN, wIfS, wSet, wAsg, wPar, wPar3, wFor, wSub, wTst, wOp, wChain, wNotT, wAndT, wOrT, wAndV, wOrV, wNotV, wIf, wNil, wCons, wTup, wLst, wLstM, wCall, wCall0, wVar, wC, wLc, wLcM, wYes, wiL, wiT, wiS, wiR, wiEnT, wiEnL, wiZip, wSl, woNone, woSome, wMt, wJoin, wGet, wUn, wTru, wDNew, fin, List.getElem?_cons_zero, List.getElem?_cons_succ, List.set_cons_zero, List.set_cons_succ]
  refine ⟨⟨by omega, by omega⟩, ?_⟩
  refine lc_inv (fun ds acc M' => M' = M1 ∧ (∃ l r : List Nat, acc = (l.map (nm8 at_)).map D.str ∧ ds = r.map (fun t => D.int (t : Nat)) ∧ (l ++ r).Nodup ∧ ∀ t ∈ l ++ r, t < 3) ∧ acc.length + ds.length = many) (fun _ _ _ _ => trivial) ?_ ?_ (fun _ _ _ h => z1 (by omega)) _ _ _
    ⟨rfl, ⟨[], List.range many, rfl, by unfold rng; simp, by rw [List.nil_append]; exact List.nodup_range, fun t ht => by have := List.mem_range.mp (by simpa using ht); omega⟩, by simp [rng]⟩
  · rintro acc M2 ⟨rfl, ⟨li, ri, rfl, e0, nd0, hl0⟩, hlen⟩
    have hr0 : ri = [] := List.map_eq_nil_iff.mp e0.symm
    subst hr0
    rw [List.append_nil] at nd0 hl0
    have nl : (li.map (nm8 at_)).Nodup := nm8_nd nd0 hl0
    have hl : ∀ s ∈ li.map (nm8 at_), isNm s = true := fun s hs => by
      obtain ⟨t, _, rfl⟩ := List.mem_map.mp hs
      exact eight_nm _ (List.getElem_mem _)
    generalize li.map (nm8 at_) = l at nl hl hlen
    simp only [List.length_map, List.length_nil, Nat.add_zero] at hlen
    unfold rdSortS
    simp only [asR, strs_map]
    refine ⟨by omega, fun ys hy _ => ?_⟩
    have yl : ys.length = many := by rw [hy.length_eq, hlen]
    have yd : ys.Nodup := hy.nodup_iff.mpr nl
    have yn : ∀ s ∈ ys, isNm s = true := fun s hs => hl s (hy.mem_iff.mp hs)
    refine lc_inv (fun ds acc M' => ∃ ts : List (Str × Cols), acc = ts.map tabD ∧ (∀ t ∈ ts, isNm t.1 = true) ∧ (∀ t ∈ ts, ColsN 4 t.2 ∧ (t.2.map (·.1)).Nodup) ∧ ((ts.map (·.1)).map D.str ++ ds).Nodup ∧ acc.length + ds.length = many ∧ Hn M' h (n + 1 + 5 * acc.length) ∧ Ex h M M' ∧ ∀ d ∈ ds, ∃ s, d = D.str s ∧ isNm s = true) (fun _ _ _ _ => rfl) ?_ ?_ (fun _ _ _ ⟨_, h⟩ => z1 (by omega)) _ _ _
      ⟨[], rfl, fun s hs => (by cases hs), fun s hs => (by cases hs), (by rw [List.map_nil, List.map_nil, List.nil_append]; exact nd_str yd), by simp [yl], h1.up (by omega), e1, fun d hd => ?_⟩
    · rintro acc M3 ⟨ts, rfl, t1, t2, t5, t3, h3, e3, _⟩
      simp only [List.length_map, List.length_nil, Nat.add_zero] at t3 h3
      refine r_tupL ?_
      exact hk ts M3 ⟨fun z => by rw [z] at t3; simp at t3; omega, by omega, t1, fun t ht => (t2 t ht).1, fun t ht => (t2 t ht).2, str_nd (by rw [List.append_nil] at t5; exact t5)⟩ (h3.up (by omega)) e3
    · rintro d ds acc M3 ⟨ts, rfl, t1, t2, t5, t3, h3, e3, t4⟩
      obtain ⟨s, rfl, hs⟩ := t4 d List.mem_cons_self
      simp only [List.length_map, List.length_cons] at t3 h3
      refine ⟨_, rfl, fun ky kn hy hn' => ?_⟩
      simp only [wNext, wSeq, wBreak, wContinue, wExpr, wRet, wRetN, wIfS, wSet, wAsg, wPar, wPar3, wFor, wSub, wTst, wOp, wChain, wNotT, wAndT, wOrT, wAndV, wOrV, wNotV, wIf, wNil, wCons, wTup, wLst, wLstM, wCall, wCall0, wVar, wC, wLc, wLcM, wYes, wiL, wiT, wiS, wiR, wiEnT, wiEnL, wiZip, wSl, woNone, woSome, wMt, wJoin, wGet, wUn, wTru, wDNew, fin, List.getElem?_cons_zero, List.getElem?_cons_succ, List.set_cons_zero, List.set_cons_succ, wipeD, List.map]
      refine ⟨h, _, rfl, h3, by omega, fun cs M4 hc hcn h4 e4 => ⟨(show 2 ≤ sizeLine by decide), hy _ _ (z2 (by simp; omega)) ⟨ts ++ [(s, cs)], by rw [List.map_append]; rfl, ?_, ?_, (by rw [List.map_append, List.map_append, List.append_assoc]; exact t5), by simp; omega, h4.up (by simp; omega), e3.trans e4, fun d hd => t4 d (List.mem_cons_of_mem _ hd)⟩⟩⟩
      · intro t ht
        rcases List.mem_append.mp ht with z | z
        · exact t1 t z
        · simp at z; subst z; exact hs
      · intro t ht
        rcases List.mem_append.mp ht with z | z
        · exact t2 t z
        · simp at z; subst z; exact ⟨hc, hcn⟩
    · obtain ⟨s, hs, rfl⟩ := List.mem_map.mp hd
      exact ⟨s, rfl, yn s hs⟩
  · rintro d ds acc M2 ⟨rfl, ⟨l, r, rfl, er, nd0, hl0⟩, hlen⟩
    cases r with
    | nil => cases er
    | cons t r =>
    rw [List.map_cons] at er
    cases er
    simp only [List.length_map, List.length_cons] at hlen
    refine ⟨_, rfl, fun ky kn hy hn' => ?_⟩
    simp only [wNext, wSeq, wBreak, wContinue, wExpr, wRet, wRetN, wIfS, wSet, wAsg, wPar, wPar3, wFor, wSub, wTst, wOp, wChain, wNotT, wAndT, wOrT, wAndV, wOrV, wNotV, wIf, wNil, wCons, wTup, wLst, wLstM, wCall, wCall0, wVar, wC, wLc, wLcM, wYes, wiL, wiT, wiS, wiR, wiEnT, wiEnL, wiZip, wSl, woNone, woSome, wMt, wJoin, wGet, wUn, wTru, wDNew, fin, List.getElem?_cons_zero, List.getElem?_cons_succ, List.set_cons_zero, List.set_cons_succ, wipeD, List.map]
    rw [if_pos trivial]
    refine r_mul (.inl ⟨by decide, by decide⟩) (r_add (r_mod (by decide) ?_))
    have e8 : ((at_ : Int) + 3 * (t : Int)) % 8 = (((at_ + 3 * t) % 8 : Nat) : Int) := by omega
    rw [e8]
    have h8 : (at_ + 3 * t) % 8 < eight.length := Nat.mod_lt _ (by decide)
    have en : eight[(at_ + 3 * t) % 8] = nm8 at_ t := rfl
    generalize (at_ + 3 * t) % 8 = j at h8 en
    refine ix_lst (d := .str (eight[j])) (atI_nat ?_) ?_
    · show (eight.map D.str)[j]? = _
      rw [List.getElem?_map, List.getElem?_eq_getElem h8]; rfl
    · rw [en]
      refine hy _ _ (z2 (by simp; omega)) ⟨rfl, ⟨l ++ [t], r, by rw [List.map_append, List.map_append]; rfl, rfl, by rw [List.append_assoc]; exact nd0, by rw [List.append_assoc]; exact hl0⟩, by simp; omega⟩
/-! worths -/
inductive WFit : Str → D → Prop
  | non (kd : Str) : WFit kd .non
  | num (i : Int) : i.natAbs ≤ 1000000000 → WFit (Str.ofString "number") (.int i)
  | nam (s : Str) : isNm s = true → WFit (Str.ofString "name") (.str s)
def F_worth : FD := fun ds M k => ∃ h n kd key, ds = [.cel h, .str kd, .bl key] ∧ Hn M h n ∧ n + 3 ≤ 1000000000 ∧ Kd kd ∧ ∀ d M', WFit kd d → (key = true → d ≠ .non) → Hn M' h (n + 1) → Ex h M M' → k d M'
theorem ok_worth (T : Txt K mg) (B : DD K mg) : DFn P w K mg base 3 B.f_law_worth B.fd_law_worth p_law_worth F_worth := by
  have G_law_pick : DFn P w K mg base 2 B.f_law_pick B.fd_law_pick p_law_pick F_pick := ok_pick T B
  refine Fun.okD B.d_law_worth.F sc_law_worth (fun cdv A outer s H E hr => (dss_cons (ds_set (i := 3) sc_law_worth.nd (de_if (dt_cmpA (c_eq hr) (dv 1) de_str) (de_lst (da_cons de_int (da_cons de_int (da_cons de_int (da_cons (de_neg de_int) (da_cons de_int da_nil)))))) (de_lst (da_cons de_str (da_cons de_str (da_cons de_str (da_cons de_str (da_cons de_str da_nil)))))))) (dss_one (ds_ret (de_own B.d_law_pick G_law_pick hr (by first | decide | omega) (da_cons (dv 0) (da_cons (de_if (dt_val (dv 2)) (de_slice (dv 3) do_none (do_some de_int)) (de_add (dv 3) (de_lst (da_cons de_non da_nil)))) da_nil))))))) (fun ds M k h => ?_)
  obtain ⟨h, n, kd, key, rfl, hh, hn, hkd, hk⟩ := h
  (refine ⟨rfl, ?_⟩; rw [show startD N_law_worth [.cel h, .str kd, .bl key] = [some (.cel h), some (.str kd), some (.bl key), none] from rfl])
  refine seq_step ?_
  simp only [wNext, wBreak, wContinue, wExpr, wRet, wRetN, wSet, wAsg, wPar, wPar3, wSub, wTst, wOp, wChain, wNotT, wAndV, wOrV, wNotV, wIf, wNil, wCons, wTup, wLst, wLstM, wCall, wCall0, wVar, wC, wLc, wLcM, wYes, wiL, wiT, wiS, wiR, wiEnT, wiEnL, wiZip, wSl, woNone, woSome, wMt, wJoin, wGet, wUn, wTru, wDNew, fin, List.getElem?_cons_zero, List.getElem?_cons_succ, List.set_cons_zero, List.set_cons_succ]
  refine eq_str (ok_kd hkd) (by decide +kernel) ?_
  have fin' : ∀ xs : List D, (∀ d ∈ xs, WFit kd d ∧ d ≠ .non) → 0 < xs.length → xs.length < 100 → (wRet (wCall F_pick (wCons (wVar 0) (wCons (wIf (wTst (wVar 2)) (wSl (wVar 3) woNone (woSome (wC (.int 4)))) (wOp rdAdd (wVar 3) (wLst (wCons (wC .non) wNil)))) wNil)))) (fin k) [some (.cel h), some (.str kd), some (.bl key), some (.lst xs)] M := by
    intro xs hx l0 l1
    simp only [wNext, wSeq, wBreak, wContinue, wExpr, wRet, wRetN, wIfS, wSet, wAsg, wPar, wPar3, wFor, wSub, wTst, wOp, wChain, wNotT, wAndT, wOrT, wAndV, wOrV, wNotV, wIf, wNil, wCons, wTup, wLst, wLstM, wCall, wCall0, wVar, wC, wLc, wLcM, wYes, wiL, wiT, wiS, wiR, wiEnT, wiEnL, wiZip, wSl, woNone, woSome, wMt, wJoin, wGet, wUn, wTru, wDNew, fin, List.getElem?_cons_zero, List.getElem?_cons_succ, List.set_cons_zero, List.set_cons_succ]
    cases key with
    | true =>
      refine tt (r_slL ?_)
      rw [show (4 : Int) = ((4 : Nat) : Int) from rfl, cut_take]
      refine ⟨h, n, _, _, rfl, hh, by omega, .inr (.inl rfl), by rw [List.length_take]; omega, by rw [List.length_take]; omega, fun d M1 hd h1 e1 => ?_⟩
      have := hx d (List.mem_of_mem_take hd)
      exact hk d M1 this.1 (fun _ => this.2) h1 e1
    | false =>
      refine ff ⟨(show 1 ≤ sizeLine by decide), r_addL (z1 (by simp; omega)) ?_⟩
      refine ⟨h, n, _, _, rfl, hh, by omega, .inr (.inl rfl), by simp, by simp; omega, fun d M1 hd h1 e1 => ?_⟩
      rcases List.mem_append.mp hd with z | z
      · exact hk d M1 (hx d z).1 (fun q => by cases q) h1 e1
      · simp at z; subst z
        exact hk _ M1 (.non kd) (fun q => by cases q) h1 e1
  rcases hkd with rfl | rfl
  · rw [decide_eq_true rfl]
    refine tt (r_U ⟨(show 5 ≤ sizeLine by decide), ?_⟩)
    refine fin' _ ?_ (by simp) (by simp)
    intro d hd
    simp only [List.mem_cons, List.not_mem_nil, or_false] at hd
    rcases hd with rfl | rfl | rfl | rfl | rfl <;> exact ⟨.num _ (by decide), fun z => by cases z⟩
  · rw [decide_eq_false (by decide)]
    refine ff ⟨(show 5 ≤ sizeLine by decide), ?_⟩
    refine fin' _ ?_ (by simp) (by simp)
    intro d hd
    simp only [List.mem_cons, List.not_mem_nil, or_false] at hd
    rcases hd with rfl | rfl | rfl | rfl | rfl <;> exact ⟨.nam _ (by decide +kernel), fun z => by cases z⟩
end
end K04

set_option autoImplicit false
set_option maxRecDepth 100000
set_option maxHeartbeats 4000000
namespace K04
open PySem PySem.Spec PyProof.Rows L2 DL
section
variable {P : Program} {w : World} {K : PySem.W.Frag} {mg : Str → Option Value} {base : Heap}
inductive Chk (cs : Cols) : Nat → D → Prop
  | is {n : Nat} {a kd : Str} {w : D} : (a, kd) ∈ cs → WFit kd w → Chk cs n (.tup [.str (Str.ofString "is"), .str a, w])
  | lt {n : Nat} {a : Str} {i : Int} : (a, Str.ofString "number") ∈ cs → i.natAbs ≤ 1000000000 → Chk cs n (.tup [.str (Str.ofString "below"), .str a, .int i])
  | like {n : Nat} {a b kd : Str} : (a, kd) ∈ cs → (b, kd) ∈ cs → Chk cs n (.tup [.str (Str.ofString "like"), .str a, .str b])
  | not {n : Nat} {x : D} : Chk cs n x → Chk cs (n + 1) (.tup [.str (Str.ofString "not"), x])
  | and {n : Nat} {x y : D} : Chk cs n x → Chk cs n y → Chk cs (n + 1) (.tup [.str (Str.ofString "and"), x, y])
  | or {n : Nat} {x y : D} : Chk cs n x → Chk cs n y → Chk cs (n + 1) (.tup [.str (Str.ofString "or"), x, y])
theorem Chk.up {cs : Cols} {n : Nat} {d : D} (h : Chk cs n d) : ∀ {m : Nat}, n ≤ m → Chk cs m d := by
  induction h with
  | is a b => intro m _; exact .is a b
  | lt a b => intro m _; exact .lt a b
  | like a b => intro m _; exact .like a b
  | not a ih => intro m l; obtain ⟨m, rfl⟩ : ∃ j, m = j + 1 := ⟨m - 1, by omega⟩; exact .not (ih (by omega))
  | and a b ih1 ih2 => intro m l; obtain ⟨m, rfl⟩ : ∃ j, m = j + 1 := ⟨m - 1, by omega⟩; exact .and (ih1 (by omega)) (ih2 (by omega))
  | or a b ih1 ih2 => intro m l; obtain ⟨m, rfl⟩ : ∃ j, m = j + 1 := ⟨m - 1, by omega⟩; exact .or (ih1 (by omega)) (ih2 (by omega))
def F_check (n : Nat) : FD := fun ds M k => ∃ h c cs, ∃ deep : Nat, ds = [.cel h, colsD cs, .int (deep : Nat)] ∧ Hn M h c ∧ c + 20 + 20 * deep ≤ 1000000000 ∧ ColsN 1000 cs ∧ deep < n ∧ deep ≤ 1 ∧
  ∀ d M', Chk cs deep d → Hn M' h (c + (4 + 7 * deep)) → Ex h M M' → k d M'
theorem ok_check (T : Txt K mg) (B : DD K mg) : ∀ n, DFn P w K mg base (4 + n) B.f_law_check B.fd_law_check p_law_check (F_check n)
  | 0 => DFn.weak DFn.none fun ds M k ⟨h, c, cs, deep, _, _, _, _, h1, _⟩ => by omega
  | n + 1 => by
    have G_law_take : DFn P w K mg base 1 B.f_law_take B.fd_law_take p_law_take F_take := ok_take T B
    have G_law_pick : DFn P w K mg base 2 B.f_law_pick B.fd_law_pick p_law_pick F_pick := ok_pick T B
    have G_law_worth : DFn P w K mg base 3 B.f_law_worth B.fd_law_worth p_law_worth F_worth := ok_worth T B
    have G_law_check : DFn P w K mg base (4 + n) B.f_law_check B.fd_law_check p_law_check (F_check n) := ok_check T B n
    refine Fun.okD (k := 4 + n) B.d_law_check.F sc_law_check (fun cdv A outer s H E hr => (dss_cons (ds_asg (dg_tup rfl (dgs_cons (dg_name (i := 3) sc_law_check.nd) (dgs_cons (dg_tup rfl (dgs_cons (dg_name (i := 4) sc_law_check.nd) (dgs_cons (dg_name (i := 5) sc_law_check.nd) dgs_nil)) (gsCons_len (gsCons_len gsNil_len))) (dgs_cons (dg_tup rfl (dgs_cons (dg_name (i := 6) sc_law_check.nd) (dgs_cons (dg_name (i := 7) sc_law_check.nd) dgs_nil)) (gsCons_len (gsCons_len gsNil_len))) dgs_nil))) (gsCons_len (gsCons_len (gsCons_len gsNil_len)))) (de_tup (da_cons (de_own B.d_law_take G_law_take hr (by first | decide | omega) (da_cons (dv 0) (da_cons de_int da_nil))) (da_cons (de_own B.d_law_pick G_law_pick hr (by first | decide | omega) (da_cons (dv 0) (da_cons (dv 1) da_nil))) (da_cons (de_own B.d_law_pick G_law_pick hr (by first | decide | omega) (da_cons (dv 0) (da_cons (dv 1) da_nil))) da_nil))))) (dss_cons (ds_if (dw_pt (dw_and (dt_cmpA c_gt (dv 2) de_int) (dw_and1 (dt_cmpA c_lt (dv 3) de_int)))) (dss_cons (ds_par (i := 8) (j := 9) rfl sc_law_check.nd (da_cons (de_own B.d_law_check G_law_check hr (by first | decide | omega) (da_cons (dv 0) (da_cons (dv 1) (da_cons (de_sub (dv 2) de_int) da_nil)))) (da_cons (de_own B.d_law_check G_law_check hr (by first | decide | omega) (da_cons (dv 0) (da_cons (dv 1) (da_cons de_int da_nil)))) da_nil)) rfl rfl (by decide) rfl rfl (by rfl)) (dss_one (ds_ret (de_ix (de_lst (da_cons (de_tup (da_cons de_str (da_cons (dv 8) da_nil))) (da_cons (de_tup (da_cons de_str (da_cons (dv 8) (da_cons (dv 9) da_nil)))) (da_cons (de_tup (da_cons de_str (da_cons (dv 9) (da_cons (dv 8) da_nil)))) da_nil)))) (dv 3))))) dss_nil) (dss_cons (ds_if (dw_pt (dw_and (dt_cmpA (c_eq hr) (dv 3) de_int) (dw_and1 (dt_cmpA (c_eq hr) (dv 5) de_str)))) (dss_one (ds_ret (de_tup (da_cons de_str (da_cons (dv 4) (da_cons (de_own B.d_law_pick G_law_pick hr (by first | decide | omega) (da_cons (dv 0) (da_cons (de_lst (da_cons de_int (da_cons de_int (da_cons de_int (da_cons (de_neg de_int) da_nil))))) da_nil))) da_nil)))))) dss_nil) (dss_one (ds_ret (de_if (dw_pt (dw_and (dt_cmpA (c_eq hr) (dv 3) de_int) (dw_and1 (dt_cmpA (c_eq hr) (dv 5) (dv 7))))) (de_tup (da_cons de_str (da_cons (dv 4) (da_cons (dv 6) da_nil)))) (de_tup (da_cons de_str (da_cons (dv 4) (da_cons (de_own B.d_law_worth G_law_worth hr (by first | decide | omega) (da_cons (dv 0) (da_cons (dv 5) (da_cons de_bl da_nil)))) da_nil))))))))))) (fun ds M k h => ?_)
    obtain ⟨h, c, cs, deep, rfl, hh, hc, okc, ln, l1, hk⟩ := h
    (refine ⟨rfl, ?_⟩; rw [show startD N_law_check [.cel h, colsD cs, .int (deep : Nat)] = [some (.cel h), some (colsD cs), some (.int (deep : Nat)), none, none, none, none, none, none, none] from rfl])
    have cl := okc.le
    have cp : 0 < cs.length := List.length_pos_iff.mpr okc.ne
    refine seq_step ?_
    simp only [wNext, wBreak, wContinue, wExpr, wRet, wRetN, wSet, wAsg, wPar, wPar3, wSub, wTst, wOp, wChain, wNotT, wAndV, wOrV, wNotV, wIf, wNil, wCons, wTup, wLst, wLstM, wCall, wCall0, wVar, wC, wLc, wLcM, wYes, wiL, wiT, wiS, wiR, wiEnT, wiEnL, wiZip, wSl, woNone, woSome, wMt, wJoin, wGet, wUn, wTru, wDNew, fin, List.getElem?_cons_zero, List.getElem?_cons_succ, List.set_cons_zero, List.set_cons_succ]
    refine ⟨h, c, 6, rfl, hh, by omega, by decide, by decide, fun way M1 w0 w1 h1 e1 => ?_⟩
    refine ⟨h, _, _, cs.map colD, rfl, h1, by omega, .inl rfl, by rw [List.length_map]; exact cp, by rw [List.length_map]; omega, fun d1 M2 hd1 h2 e2 => ?_⟩
    refine ⟨h, _, _, cs.map colD, rfl, h2, by omega, .inl rfl, by rw [List.length_map]; exact cp, by rw [List.length_map]; omega, fun d2 M3 hd2 h3 e3 => ?_⟩
    obtain ⟨⟨a, ka⟩, ha, rfl⟩ := List.mem_map.mp hd1
    obtain ⟨⟨b, kb⟩, hb, rfl⟩ := List.mem_map.mp hd2
    have e13 := (e1.trans e2).trans e3
    refine ⟨(show 3 ≤ sizeLine by decide), ?_⟩
    simp only [colD, gT, gsCons, gN, gsNil, wNext, wBreak, wContinue, wExpr, wRet, wRetN, wSet, wAsg, wPar, wPar3, wSub, wTst, wOp, wChain, wNotT, wAndV, wOrV, wNotV, wIf, wNil, wCons, wTup, wLst, wLstM, wCall, wCall0, wVar, wC, wLc, wLcM, wYes, wiL, wiT, wiS, wiR, wiEnT, wiEnL, wiZip, wSl, woNone, woSome, wMt, wJoin, wGet, wUn, wTru, wDNew, fin, List.getElem?_cons_zero, List.getElem?_cons_succ, List.set_cons_zero, List.set_cons_succ]
    refine seq_step ?_
    unfold wIfS
    simp only [wNext]
    refine and_pure (b1 := decide ((0 : Int) < deep)) (b2 := decide (way < 3)) (fun k hk => by simp only [wNext, wSeq, wBreak, wContinue, wExpr, wRet, wRetN, wIfS, wSet, wAsg, wPar, wPar3, wFor, wSub, wTst, wOp, wChain, wNotT, wAndT, wOrT, wAndV, wOrV, wNotV, wIf, wNil, wCons, wTup, wLst, wLstM, wCall, wCall0, wVar, wC, wLc, wLcM, wYes, wiL, wiT, wiS, wiR, wiEnT, wiEnL, wiZip, wSl, woNone, woSome, wMt, wJoin, wGet, wUn, wTru, wDNew, fin, List.getElem?_cons_zero, List.getElem?_cons_succ, List.set_cons_zero, List.set_cons_succ]; exact r_ordI hk) (fun _ k hk => by simp only [wNext, wSeq, wBreak, wContinue, wExpr, wRet, wRetN, wIfS, wSet, wAsg, wPar, wPar3, wFor, wSub, wTst, wOp, wChain, wNotT, wAndT, wOrT, wAndV, wOrV, wNotV, wIf, wNil, wCons, wTup, wLst, wLstM, wCall, wCall0, wVar, wC, wLc, wLcM, wYes, wiL, wiT, wiS, wiR, wiEnT, wiEnL, wiZip, wSl, woNone, woSome, wMt, wJoin, wGet, wUn, wTru, wDNew, fin, List.getElem?_cons_zero, List.getElem?_cons_succ, List.set_cons_zero, List.set_cons_succ]; exact r_ordI hk) (bb (fun c1 => ?_) (fun c1 => ?_))
    · simp only [Bool.and_eq_true, decide_eq_true_eq] at c1
      obtain ⟨m, rfl⟩ : ∃ m : Nat, deep = m + 1 := ⟨deep - 1, by omega⟩
      obtain rfl : m = 0 := by omega
      refine seq_step ?_
      simp only [wNext, wBreak, wContinue, wExpr, wRet, wRetN, wSet, wAsg, wPar, wPar3, wSub, wTst, wOp, wChain, wNotT, wAndV, wOrV, wNotV, wIf, wNil, wCons, wTup, wLst, wLstM, wCall, wCall0, wVar, wC, wLc, wLcM, wYes, wiL, wiT, wiS, wiR, wiEnT, wiEnL, wiZip, wSl, woNone, woSome, wMt, wJoin, wGet, wUn, wTru, wDNew, fin, List.getElem?_cons_zero, List.getElem?_cons_succ, List.set_cons_zero, List.set_cons_succ]
      refine r_I0 ⟨h, _, cs, 0, rfl, h3, by omega, okc, by omega, by decide, fun x M4 hx h4 e4 => ?_⟩
      refine ⟨h, _, cs, 0, rfl, h4, by omega, okc, by omega, by decide, fun y M5 hy h5 e5 => ?_⟩
      simp only [wNext, wSeq, wBreak, wContinue, wExpr, wRet, wRetN, wIfS, wSet, wAsg, wPar, wPar3, wFor, wSub, wTst, wOp, wChain, wNotT, wAndT, wOrT, wAndV, wOrV, wNotV, wIf, wNil, wCons, wTup, wLst, wLstM, wCall, wCall0, wVar, wC, wLc, wLcM, wYes, wiL, wiT, wiS, wiR, wiEnT, wiEnL, wiZip, wSl, woNone, woSome, wMt, wJoin, wGet, wUn, wTru, wDNew, fin, List.getElem?_cons_zero, List.getElem?_cons_succ, List.set_cons_zero, List.set_cons_succ]
      refine ⟨(show 2 ≤ sizeLine by decide), (show 3 ≤ sizeLine by decide), (show 3 ≤ sizeLine by decide), (show 3 ≤ sizeLine by decide), ?_⟩
      have e15 := (e13.trans e4).trans e5
      obtain ⟨j, rfl⟩ : ∃ j : Nat, way = (j : Int) := ⟨way.toNat, by omega⟩
      match j, c1 with
      | 0, _ => exact ix_lst (at0 _ _) (hk _ M5 (.not hx) (h5.up (by omega)) e15)
      | 1, _ => exact ix_lst (at1 _ _ _) (hk _ M5 (.and hx hy) (h5.up (by omega)) e15)
      | 2, _ => exact ix_lst (at2 _ _ _ _) (hk _ M5 (.or hy hx) (h5.up (by omega)) e15)
      | j + 3, c1 => omega
    refine seq_step ?_
    refine and_pure (b1 := decide (way = 3)) (b2 := decide (ka = Str.ofString "number")) (fun k hk => by simp only [wNext, wSeq, wBreak, wContinue, wExpr, wRet, wRetN, wIfS, wSet, wAsg, wPar, wPar3, wFor, wSub, wTst, wOp, wChain, wNotT, wAndT, wOrT, wAndV, wOrV, wNotV, wIf, wNil, wCons, wTup, wLst, wLstM, wCall, wCall0, wVar, wC, wLc, wLcM, wYes, wiL, wiT, wiS, wiR, wiEnT, wiEnL, wiZip, wSl, woNone, woSome, wMt, wJoin, wGet, wUn, wTru, wDNew, fin, List.getElem?_cons_zero, List.getElem?_cons_succ, List.set_cons_zero, List.set_cons_succ]; exact eq_int hk) (fun _ k hk => by simp only [wNext, wSeq, wBreak, wContinue, wExpr, wRet, wRetN, wIfS, wSet, wAsg, wPar, wPar3, wFor, wSub, wTst, wOp, wChain, wNotT, wAndT, wOrT, wAndV, wOrV, wNotV, wIf, wNil, wCons, wTup, wLst, wLstM, wCall, wCall0, wVar, wC, wLc, wLcM, wYes, wiL, wiT, wiS, wiR, wiEnT, wiEnL, wiZip, wSl, woNone, woSome, wMt, wJoin, wGet, wUn, wTru, wDNew, fin, List.getElem?_cons_zero, List.getElem?_cons_succ, List.set_cons_zero, List.set_cons_succ]; exact eq_str (ok_kd (okc.kd _ ha)) (by decide +kernel) hk) (bb (fun c2 => ?_) (fun c2 => ?_))
    · simp only [Bool.and_eq_true, decide_eq_true_eq] at c2
      obtain ⟨rfl, rfl⟩ := c2
      simp only [wNext, wSeq, wBreak, wContinue, wExpr, wRet, wRetN, wIfS, wSet, wAsg, wPar, wPar3, wFor, wSub, wTst, wOp, wChain, wNotT, wAndT, wOrT, wAndV, wOrV, wNotV, wIf, wNil, wCons, wTup, wLst, wLstM, wCall, wCall0, wVar, wC, wLc, wLcM, wYes, wiL, wiT, wiS, wiR, wiEnT, wiEnL, wiZip, wSl, woNone, woSome, wMt, wJoin, wGet, wUn, wTru, wDNew, fin, List.getElem?_cons_zero, List.getElem?_cons_succ, List.set_cons_zero, List.set_cons_succ]
      refine r_U ⟨(show 4 ≤ sizeLine by decide), ⟨h, _, _, _, rfl, h3, by omega, .inr (.inl rfl), by decide, by decide, fun d M4 hd h4 e4 => ⟨(show 3 ≤ sizeLine by decide), ?_⟩⟩⟩
      obtain ⟨i, rfl, hi⟩ : ∃ i, d = .int i ∧ i.natAbs ≤ 1000000000 := by
        simp only [List.mem_cons, List.not_mem_nil, or_false] at hd
        rcases hd with rfl | rfl | rfl | rfl <;> exact ⟨_, rfl, by decide⟩
      exact hk _ M4 (.lt ha hi) (h4.up (by omega)) (e13.trans e4)
    simp only [wRet, wIf]
    refine and_pure (b1 := decide (way = 4)) (b2 := decide (ka = kb)) (fun k hk => by simp only [wNext, wSeq, wBreak, wContinue, wExpr, wRet, wRetN, wIfS, wSet, wAsg, wPar, wPar3, wFor, wSub, wTst, wOp, wChain, wNotT, wAndT, wOrT, wAndV, wOrV, wNotV, wIf, wNil, wCons, wTup, wLst, wLstM, wCall, wCall0, wVar, wC, wLc, wLcM, wYes, wiL, wiT, wiS, wiR, wiEnT, wiEnL, wiZip, wSl, woNone, woSome, wMt, wJoin, wGet, wUn, wTru, wDNew, fin, List.getElem?_cons_zero, List.getElem?_cons_succ, List.set_cons_zero, List.set_cons_succ]; exact eq_int hk) (fun _ k hk => by simp only [wNext, wSeq, wBreak, wContinue, wExpr, wRet, wRetN, wIfS, wSet, wAsg, wPar, wPar3, wFor, wSub, wTst, wOp, wChain, wNotT, wAndT, wOrT, wAndV, wOrV, wNotV, wIf, wNil, wCons, wTup, wLst, wLstM, wCall, wCall0, wVar, wC, wLc, wLcM, wYes, wiL, wiT, wiS, wiR, wiEnT, wiEnL, wiZip, wSl, woNone, woSome, wMt, wJoin, wGet, wUn, wTru, wDNew, fin, List.getElem?_cons_zero, List.getElem?_cons_succ, List.set_cons_zero, List.set_cons_succ]; exact eq_str (ok_kd (okc.kd _ ha)) (ok_kd (okc.kd _ hb)) hk) (bb (fun c3 => ?_) (fun c3 => ?_))
    · simp only [Bool.and_eq_true, decide_eq_true_eq] at c3
      obtain ⟨rfl, rfl⟩ := c3
      simp only [wNext, wSeq, wBreak, wContinue, wExpr, wRet, wRetN, wIfS, wSet, wAsg, wPar, wPar3, wFor, wSub, wTst, wOp, wChain, wNotT, wAndT, wOrT, wAndV, wOrV, wNotV, wIf, wNil, wCons, wTup, wLst, wLstM, wCall, wCall0, wVar, wC, wLc, wLcM, wYes, wiL, wiT, wiS, wiR, wiEnT, wiEnL, wiZip, wSl, woNone, woSome, wMt, wJoin, wGet, wUn, wTru, wDNew, fin, List.getElem?_cons_zero, List.getElem?_cons_succ, List.set_cons_zero, List.set_cons_succ]
      exact ⟨(show 3 ≤ sizeLine by decide), hk _ M3 (.like ha hb) (h3.up (by omega)) e13⟩
    · simp only [wNext, wSeq, wBreak, wContinue, wExpr, wRet, wRetN, wIfS, wSet, wAsg, wPar, wPar3, wFor, wSub, wTst, wOp, wChain, wNotT, wAndT, wOrT, wAndV, wOrV, wNotV, wIf, wNil, wCons, wTup, wLst, wLstM, wCall, wCall0, wVar, wC, wLc, wLcM, wYes, wiL, wiT, wiS, wiR, wiEnT, wiEnL, wiZip, wSl, woNone, woSome, wMt, wJoin, wGet, wUn, wTru, wDNew, fin, List.getElem?_cons_zero, List.getElem?_cons_succ, List.set_cons_zero, List.set_cons_succ]
      refine ⟨h, _, ka, false, rfl, h3, by omega, okc.kd _ ha, fun d M4 hd _ h4 e4 => ⟨(show 3 ≤ sizeLine by decide), ?_⟩⟩
      exact hk _ M4 (.is ha hd) (h4.up (by omega)) (e13.trans e4)
/-! rights -/
inductive RightN (cs : Cols) : D → Prop
  | non : RightN cs .non
  | mk (c : D) (ns : List Str) : (c = .non ∨ Chk cs 1 c) → ns.Sublist (cs.map (·.1)) → RightN cs (.tup [c, .tup (ns.map D.str)])
def fstD : D → D
  | .tup [n, _] => n
  | d => d
theorem fst_cols (cs : Cols) : (cs.map colD).map fstD = (cs.map (·.1)).map D.str := by
  rw [List.map_map, List.map_map]; rfl
def F_right : FD := fun ds M k => ∃ h c cs, ds = [.cel h, colsD cs] ∧ Hn M h c ∧ c + 80 ≤ 1000000000 ∧ ColsN 4 cs ∧ ∀ d M', RightN cs d → Hn M' h (c + 16) → Ex h M M' → k d M'
theorem ok_right (T : Txt K mg) (B : DD K mg) : DFn P w K mg base 7 B.f_law_right B.fd_law_right p_law_right F_right := by
  have G_law_take : DFn P w K mg base 1 B.f_law_take B.fd_law_take p_law_take F_take := ok_take T B
  have G_law_check : DFn P w K mg base 6 B.f_law_check B.fd_law_check p_law_check (F_check 2) := ok_check T B 2
  refine Fun.okD (k := 6) B.d_law_right.F sc_law_right (fun cdv A outer s H E hr => (dss_cons (ds_par (i := 2) (j := 3) rfl sc_law_right.nd (da_cons (de_own B.d_law_take G_law_take hr (by first | decide | omega) (da_cons (dv 0) (da_cons de_int da_nil))) (da_cons (de_lc rfl sc_law_right.nd (di_tup (dv 1)) (blkOk_by (own := [("name", 4), ("kind", 5)]) (N := N_law_right) (sc := defScope s_law_right) (by decide +kernel)) (fun _ _ _ _ _ => (dg_tup rfl (dgs_cons (dg_name (i := 4) sc_law_right.nd) (dgs_cons (dg_name (i := 5) sc_law_right.nd) dgs_nil)) (gsCons_len (gsCons_len gsNil_len)))) (gd_tup (gds_cons gd_name (gds_cons gd_name gds_nil)) (gsCons_len (gsCons_len gsNil_len))) (fun _ _ _ _ _ => dts_nil) (fun _ _ _ _ _ => (dv 4))) da_nil)) rfl rfl (by decide) rfl rfl (by rfl)) (dss_cons (ds_if (dt_cmpA (c_eq hr) (dv 2) de_int) (dss_one (ds_ret de_non)) dss_nil) (dss_cons (ds_set (i := 6) sc_law_right.nd (de_tuple T.b_tuple (de_lc rfl sc_law_right.nd (di_list (dv 3)) (blkOk_by (own := [("name", 4)]) (N := N_law_right) (sc := defScope s_law_right) (by decide +kernel)) (fun _ _ _ _ _ => (dg_name (i := 4) sc_law_right.nd)) gd_name (fun _ _ _ _ _ => (dts_one (dt_cmpA c_gt (de_own B.d_law_take G_law_take hr (by first | decide | omega) (da_cons (dv 0) (da_cons de_int da_nil))) de_int))) (fun _ _ _ _ _ => (dv 4))))) (dss_cons (ds_set (i := 7) sc_law_right.nd (de_if (dt_cmpA c_lt (dv 2) de_int) de_non (de_own B.d_law_check G_law_check hr (by first | decide | omega) (da_cons (dv 0) (da_cons (dv 1) (da_cons de_int da_nil)))))) (dss_one (ds_ret (de_tup (da_cons (dv 7) (da_cons (de_if (dw_pt (dw_or (dt_cmpA c_lt (dv 2) de_int) (dw_or1 (dt_cmpA (c_eq hr) (dv 2) de_int)))) (de_tuple T.b_tuple (dv 3)) (dv 6)) da_nil)))))))))) (fun ds M k h => ?_)
  obtain ⟨h, c, cs, rfl, hh, hc, okc, hk⟩ := h
  (refine ⟨rfl, ?_⟩; rw [show startD N_law_right [.cel h, colsD cs] = [some (.cel h), some (colsD cs), none, none, none, none, none, none] from rfl])
  have cl := okc.le
  refine seq_step ?_
  simp only [wNext, wBreak, wContinue, wExpr, wRet, wRetN, wSet, wAsg, wPar, wPar3, wSub, wTst, wOp, wChain, wNotT, wAndV, wOrV, wNotV, wIf, wNil, wCons, wTup, wLst, wLstM, wCall, wCall0, wVar, wC, wLc, wLcM, wYes, wiL, wiT, wiS, wiR, wiEnT, wiEnL, wiZip, wSl, woNone, woSome, wMt, wJoin, wGet, wUn, wTru, wDNew, fin, List.getElem?_cons_zero, List.getElem?_cons_succ, List.set_cons_zero, List.set_cons_succ]
  refine ⟨h, c, 6, rfl, hh, by omega, by decide, by decide, fun way M1 w0 w1 h1 e1 => ?_⟩
  simp only [colsD]
  refine lc_map fstD (G := gAny) (M := M1) trivial _ _ _ (fun d hd => ?_) (z1 (by simp; omega)) ?_
  · obtain ⟨x, hx, rfl⟩ := List.mem_map.mp hd
    exact ⟨_, rfl, fun k' hk' => hk'⟩
  rw [List.nil_append, fst_cols]
  refine seq_step ?_
  simp only [wNext, wBreak, wContinue, wExpr, wRet, wRetN, wSet, wAsg, wPar, wPar3, wSub, wTst, wOp, wChain, wNotT, wAndV, wOrV, wNotV, wIf, wNil, wCons, wTup, wLst, wLstM, wCall, wCall0, wVar, wC, wLc, wLcM, wYes, wiL, wiT, wiS, wiR, wiEnT, wiEnL, wiZip, wSl, woNone, woSome, wMt, wJoin, wGet, wUn, wTru, wDNew, fin, List.getElem?_cons_zero, List.getElem?_cons_succ, List.set_cons_zero, List.set_cons_succ, wIfS]
  refine eq_int (bb (fun c1 => ?_) (fun c1 => ?_))
  · exact hk _ M1 .non (h1.up (by omega)) e1
  have cln : ((cs.map (·.1)).map D.str).length ≤ 4 := by simp; exact cl
  refine seq_step ?_
  simp only [wNext, wBreak, wContinue, wExpr, wRet, wRetN, wSet, wAsg, wPar, wPar3, wSub, wTst, wOp, wChain, wNotT, wAndV, wOrV, wNotV, wIf, wNil, wCons, wTup, wLst, wLstM, wCall, wCall0, wVar, wC, wLc, wLcM, wYes, wiL, wiT, wiS, wiR, wiEnT, wiEnL, wiZip, wSl, woNone, woSome, wMt, wJoin, wGet, wUn, wTru, wDNew, fin, List.getElem?_cons_zero, List.getElem?_cons_succ, List.set_cons_zero, List.set_cons_succ]
  simp only [asR]
  refine lc_inv (fun ds acc M' => ∃ ns : List Str, acc = ns.map D.str ∧ (∃ rest : List Str, ds = rest.map D.str ∧ (ns ++ rest).Sublist (cs.map (·.1)) ∧ ns.length + rest.length ≤ 4 ∧ Hn M' h (c + 1 + (4 - rest.length))) ∧ Ex h M M') (fun _ _ _ _ => rfl) ?_ ?_ (fun _ _ _ ⟨_, e, ⟨_, e2, _, z, _⟩, _⟩ => z1 (by rw [e, e2]; simp; omega)) _ _ _
    ⟨[], rfl, ⟨cs.map (·.1), rfl, List.Sublist.refl _, by simp; exact cl, h1.up (by omega)⟩, e1⟩
  · rintro acc M2 ⟨ns, rfl, ⟨rest, er, hs, hl, h2⟩, e2⟩
    obtain rfl : rest = [] := by cases rest with | nil => rfl | cons _ _ => cases er
    rw [List.append_nil] at hs
    simp only [List.length_nil] at h2
    refine r_tupL ?_
    refine seq_join (fun Γ' M' => ∃ x4 x5 x6, (x4 = D.non ∨ Chk cs 1 x4) ∧ Hn M' h (c + 16) ∧ Ex h M M' ∧ Γ' = [some (.cel h), some (.tup (cs.map colD)), some (.int way), some (.lst ((cs.map (·.1)).map D.str)), x5, x6, some (.tup (ns.map D.str)), some x4]) ?_ ?_
    · rintro Γ' M3 ⟨x4, x5, x6, hx, h3, e3, rfl⟩
      simp only [wNext, wBreak, wContinue, wExpr, wRet, wRetN, wSet, wAsg, wPar, wPar3, wSub, wTst, wOp, wChain, wNotT, wAndV, wOrV, wNotV, wIf, wNil, wCons, wTup, wLst, wLstM, wCall, wCall0, wVar, wC, wLc, wLcM, wYes, wiL, wiT, wiS, wiR, wiEnT, wiEnL, wiZip, wSl, woNone, woSome, wMt, wJoin, wGet, wUn, wTru, wDNew, fin, List.getElem?_cons_zero, List.getElem?_cons_succ, List.set_cons_zero, List.set_cons_succ]
      refine or_pure (b1 := decide (way < 3)) (b2 := decide (way = 5)) (fun k hk => by simp only [wNext, wSeq, wBreak, wContinue, wExpr, wRet, wRetN, wIfS, wSet, wAsg, wPar, wPar3, wFor, wSub, wTst, wOp, wChain, wNotT, wAndT, wOrT, wAndV, wOrV, wNotV, wIf, wNil, wCons, wTup, wLst, wLstM, wCall, wCall0, wVar, wC, wLc, wLcM, wYes, wiL, wiT, wiS, wiR, wiEnT, wiEnL, wiZip, wSl, woNone, woSome, wMt, wJoin, wGet, wUn, wTru, wDNew, fin, List.getElem?_cons_zero, List.getElem?_cons_succ, List.set_cons_zero, List.set_cons_succ]; exact r_ordI hk) (fun _ k hk => by simp only [wNext, wSeq, wBreak, wContinue, wExpr, wRet, wRetN, wIfS, wSet, wAsg, wPar, wPar3, wFor, wSub, wTst, wOp, wChain, wNotT, wAndT, wOrT, wAndV, wOrV, wNotV, wIf, wNil, wCons, wTup, wLst, wLstM, wCall, wCall0, wVar, wC, wLc, wLcM, wYes, wiL, wiT, wiS, wiR, wiEnT, wiEnL, wiZip, wSl, woNone, woSome, wMt, wJoin, wGet, wUn, wTru, wDNew, fin, List.getElem?_cons_zero, List.getElem?_cons_succ, List.set_cons_zero, List.set_cons_succ]; exact eq_int hk) (bb (fun c2 => ?_) (fun c2 => ?_))
      · refine r_tupL ⟨(show 2 ≤ sizeLine by decide), ?_⟩
        exact hk _ M3 (.mk x4 _ hx (List.Sublist.refl _)) h3 e3
      · refine ⟨(show 2 ≤ sizeLine by decide), ?_⟩
        exact hk _ M3 (.mk x4 _ hx hs) h3 e3
    · intro nx hnx
      simp only [wNext, wBreak, wContinue, wExpr, wRet, wRetN, wSet, wAsg, wPar, wPar3, wSub, wTst, wOp, wChain, wNotT, wAndV, wOrV, wNotV, wIf, wNil, wCons, wTup, wLst, wLstM, wCall, wCall0, wVar, wC, wLc, wLcM, wYes, wiL, wiT, wiS, wiR, wiEnT, wiEnL, wiZip, wSl, woNone, woSome, wMt, wJoin, wGet, wUn, wTru, wDNew, fin, List.getElem?_cons_zero, List.getElem?_cons_succ, List.set_cons_zero, List.set_cons_succ]
      refine r_ordI (bb (fun c2 => ?_) (fun c2 => ?_))
      · exact hnx _ _ ⟨.non, _, _, .inl rfl, h2.up (by omega), e2, rfl⟩
      · refine ⟨h, _, cs, 1, rfl, h2, by omega, okc.up (by decide), by decide, by decide, fun d M3 hd h3 e3 => ?_⟩
        exact hnx _ _ ⟨d, _, _, .inr hd, h3.up (by omega), e2.trans e3, rfl⟩
  · rintro d ds acc M2 ⟨ns, rfl, ⟨rest, er, hs, hl, h2⟩, e2⟩
    cases rest with
    | nil => cases er
    | cons s rest =>
      rw [List.map_cons] at er
      injection er with er1 er2
      subst er1 er2
      simp only [List.length_cons] at hl h2
      refine ⟨_, rfl, fun ky kn hy hn => ?_⟩
      simp only [wNext, wSeq, wBreak, wContinue, wExpr, wRet, wRetN, wIfS, wSet, wAsg, wPar, wPar3, wFor, wSub, wTst, wOp, wChain, wNotT, wAndT, wOrT, wAndV, wOrV, wNotV, wIf, wNil, wCons, wTup, wLst, wLstM, wCall, wCall0, wVar, wC, wLc, wLcM, wYes, wiL, wiT, wiS, wiR, wiEnT, wiEnL, wiZip, wSl, woNone, woSome, wMt, wJoin, wGet, wUn, wTru, wDNew, fin, List.getElem?_cons_zero, List.getElem?_cons_succ, List.set_cons_zero, List.set_cons_succ, wipeD, List.map]
      refine ⟨h, _, 3, rfl, h2, by omega, by decide, by decide, fun r M3 r0 r1 h3 e3 => r_ordI (bb (fun c2 => ?_) (fun c2 => ?_))⟩
      · refine hy _ _ (z2 (by simp; omega)) ⟨ns ++ [s], by rw [List.map_append]; rfl, ⟨rest, rfl, by simpa using hs, by simp; omega, h3.up (by omega)⟩, e2.trans e3⟩
      · exact hn _ ⟨ns, rfl, ⟨rest, rfl, (List.Sublist.append (List.Sublist.refl ns) (List.sublist_cons_self s rest)).trans hs, by omega, h3.up (by omega)⟩, e2.trans e3⟩
/-- rights, one for each table -/
inductive Rts : List (Str × Cols) → List D → Prop
  | nil : Rts [] []
  | cons {t : Str × Cols} {ts : List (Str × Cols)} {d : D} {ds : List D} : RightN t.2 d → Rts ts ds → Rts (t :: ts) (d :: ds)
theorem Rts.length {ts : List (Str × Cols)} {ds : List D} (h : Rts ts ds) : ds.length = ts.length := by
  induction h with
  | nil => rfl
  | cons _ _ ih => simp [ih]
theorem Rts.snoc {ts : List (Str × Cols)} {ds : List D} {t : Str × Cols} {d : D} (h : Rts ts ds) (q : RightN t.2 d) : Rts (ts ++ [t]) (ds ++ [d]) := by
  induction h with
  | nil => exact .cons q .nil
  | cons a _ ih => exact .cons a ih
def F_rights : FD := fun ds M k => ∃ h c ts, ds = [.cel h, .tup (ts.map tabD)] ∧ Hn M h c ∧ c + 200 ≤ 1000000000 ∧ PlanN ts ∧ ∀ rs M', Rts ts rs → Hn M' h (c + 48) → Ex h M M' → k (.tup rs) M'
theorem ok_rights (T : Txt K mg) (B : DD K mg) : DFn P w K mg base 8 B.f_law_rights B.fd_law_rights p_law_rights F_rights := by
  have G_law_right : DFn P w K mg base 7 B.f_law_right B.fd_law_right p_law_right F_right := ok_right T B
  refine Fun.okD B.d_law_rights.F sc_law_rights (fun cdv A outer s H E hr => (dss_one (ds_ret (de_tuple T.b_tuple (de_lc rfl sc_law_rights.nd (di_tup (dv 1)) (blkOk_by (own := [("name", 2), ("columns", 3)]) (N := N_law_rights) (sc := defScope s_law_rights) (by decide +kernel)) (fun _ _ _ _ _ => (dg_tup rfl (dgs_cons (dg_name (i := 2) sc_law_rights.nd) (dgs_cons (dg_name (i := 3) sc_law_rights.nd) dgs_nil)) (gsCons_len (gsCons_len gsNil_len)))) (gd_tup (gds_cons gd_name (gds_cons gd_name gds_nil)) (gsCons_len (gsCons_len gsNil_len))) (fun _ _ _ _ _ => dts_nil) (fun _ _ _ _ _ => (de_own B.d_law_right G_law_right hr (by first | decide | omega) (da_cons (dv 0) (da_cons (dv 3) da_nil))))))))) (fun ds M k h => ?_)
  obtain ⟨h, c, ts, rfl, hh, hc, okp, hk⟩ := h
  (refine ⟨rfl, ?_⟩; rw [show startD N_law_rights [.cel h, .tup (ts.map tabD)] = [some (.cel h), some (.tup (ts.map tabD)), none, none] from rfl])
  have tl := okp.le
  simp only [wNext, wSeq, wBreak, wContinue, wExpr, wRet, wRetN, wIfS, wSet, wAsg, wPar, wPar3, wFor, wSub, wTst, wOp, wChain, wNotT, wAndT, wOrT, wAndV, wOrV, wNotV, wIf, wNil, wCons, wTup, wLst, wLstM, wCall, wCall0, wVar, wC, wLc, wLcM, wYes, wiL, wiT, wiS, wiR, wiEnT, wiEnL, wiZip, wSl, woNone, woSome, wMt, wJoin, wGet, wUn, wTru, wDNew, fin, List.getElem?_cons_zero, List.getElem?_cons_succ, List.set_cons_zero, List.set_cons_succ]
  refine lc_inv (fun ds acc M' => ∃ t1 t2, t1 ++ t2 = ts ∧ Rts t1 acc ∧ ds = t2.map tabD ∧ Hn M' h (c + 16 * t1.length) ∧ Ex h M M') (fun _ _ _ _ => trivial) ?_ ?_ (fun _ _ _ ⟨t1, t2, e, r, e2, _⟩ => z1 (by rw [r.length, e2, List.length_map]; rw [← e, List.length_append] at tl; omega)) _ _ _
    ⟨[], ts, rfl, .nil, rfl, hh, Ex.refl _ _⟩
  · rintro acc M2 ⟨t1, t2, e, r, e2, h2, x2⟩
    obtain rfl : t2 = [] := by cases t2 with | nil => rfl | cons _ _ => cases e2
    rw [List.append_nil] at e
    subst e
    exact r_tupL (hk acc M2 r (h2.up (by omega)) x2)
  · rintro d ds acc M2 ⟨t1, t2, e, r, e2, h2, x2⟩
    cases t2 with
    | nil => cases e2
    | cons t t2 =>
      rw [List.map_cons] at e2
      injection e2 with e3 e4
      subst e3 e4
      have hm : t ∈ ts := by rw [← e]; simp
      have ll : t1.length + 1 + t2.length = ts.length := by rw [← e]; simp; omega
      refine ⟨_, rfl, fun ky kn hy hn => ?_⟩
      simp only [wNext, wSeq, wBreak, wContinue, wExpr, wRet, wRetN, wIfS, wSet, wAsg, wPar, wPar3, wFor, wSub, wTst, wOp, wChain, wNotT, wAndT, wOrT, wAndV, wOrV, wNotV, wIf, wNil, wCons, wTup, wLst, wLstM, wCall, wCall0, wVar, wC, wLc, wLcM, wYes, wiL, wiT, wiS, wiR, wiEnT, wiEnL, wiZip, wSl, woNone, woSome, wMt, wJoin, wGet, wUn, wTru, wDNew, fin, List.getElem?_cons_zero, List.getElem?_cons_succ, List.set_cons_zero, List.set_cons_succ, wipeD, List.map]
      rw [if_pos trivial]
      refine ⟨h, _, t.2, rfl, h2, by omega, okp.ok t hm, fun d M3 hd h3 e3 => ?_⟩
      exact hy _ _ (z2 (by rw [r.length]; omega)) ⟨t1 ++ [t], t2, by rw [List.append_assoc]; exact e, r.snoc hd, rfl, h3.up (by simp; omega), x2.trans e3⟩
end
end K04

set_option autoImplicit false
set_option maxRecDepth 100000
set_option maxHeartbeats 4000000
namespace K04
open PySem PySem.Spec PyProof.Rows L2 DL
section
variable {P : Program} {w : World} {K : PySem.W.Frag} {mg : Str → Option Value} {base : Heap}
/-! how great what is drawn is -/
theorem nm_plain {s : Str} (h : isNm s = true) : plain s = true ∧ s.length ≤ 8 := by
  unfold isNm at h
  simp only [Bool.and_eq_true, decide_eq_true_eq, List.all_eq_true] at h
  refine ⟨plain_iff.mpr fun x hx => ?_, h.1.2⟩
  have := h.2 x hx
  unfold letter at this
  simp at this
  omega
theorem pu_nm {b : Nat} {s : Str} (h : isNm s = true) : Pu 8 b (.str s) := pu_str (nm_plain h).1 (nm_plain h).2
theorem pu_kd {b : Nat} {s : Str} (h : Kd s) : Pu 8 b (.str s) := by rcases h with rfl | rfl <;> exact pu_str (by decide +kernel) (by decide +kernel)
theorem pu_wd {b : Nat} {s : Str} (h : plain s = true ∧ s.length ≤ 8) : Pu 8 b (.str s) := pu_str h.1 h.2
theorem pu_names {m : Nat} {l : List Str} (h : ∀ s ∈ l, isNm s = true) (hl : l.length ≤ m) : Pu (m * 9) 1 (.tup (l.map D.str)) :=
  pu_many (a := 8) (b := 0) (fun x hx => by obtain ⟨s, hs, rfl⟩ := List.mem_map.mp hx; exact pu_nm (h s hs)) (by simpa using hl)
theorem WFit.pu {kd : Str} {d : D} {b : Nat} (h : WFit kd d) : Pu 41 b d := by
  cases h with
  | non _ => exact pu_non
  | num i hi => exact pu_int (by omega)
  | nam s hs => exact (pu_nm hs).up (by decide) (Nat.le_refl _)
theorem Chk.pu {cs : Cols} (hn : ∀ c ∈ cs, isNm c.1 = true) {n : Nat} {d : D} (h : Chk cs n d) : Pu (70 * 3 ^ n) (n + 1) d := by
  induction h with
  | is ha hw => exact (pu3 (b := 0) (pu_wd ⟨by decide +kernel, by decide +kernel⟩) (pu_nm (hn _ ha)) hw.pu).up (Nat.le_trans (by decide) (Nat.le_mul_of_pos_right 70 (Nat.pow_pos (by decide)))) (by omega)
  | lt ha hi => exact (pu3 (b := 0) (pu_wd ⟨by decide +kernel, by decide +kernel⟩) (pu_nm (hn _ ha)) (pu_int (by omega))).up (Nat.le_trans (by decide) (Nat.le_mul_of_pos_right 70 (Nat.pow_pos (by decide)))) (by omega)
  | like ha hb => exact (pu3 (b := 0) (pu_wd ⟨by decide +kernel, by decide +kernel⟩) (pu_nm (hn _ ha)) (pu_nm (hn _ hb))).up (Nat.le_trans (by decide) (Nat.le_mul_of_pos_right 70 (Nat.pow_pos (by decide)))) (by omega)
  | @not n x _ ih => exact (pu2 (pu_wd ⟨by decide +kernel, by decide +kernel⟩) ih).up (by have : 0 < 3 ^ n := Nat.pow_pos (by decide); rw [Nat.pow_succ]; omega) (Nat.le_refl _)
  | @and n x y _ _ ih1 ih2 => exact (pu3 (pu_wd ⟨by decide +kernel, by decide +kernel⟩) ih1 ih2).up (by have : 0 < 3 ^ n := Nat.pow_pos (by decide); rw [Nat.pow_succ]; omega) (Nat.le_refl _)
  | @or n x y _ _ ih1 ih2 => exact (pu3 (pu_wd ⟨by decide +kernel, by decide +kernel⟩) ih1 ih2).up (by have : 0 < 3 ^ n := Nat.pow_pos (by decide); rw [Nat.pow_succ]; omega) (Nat.le_refl _)
theorem RightN.pu {cs : Cols} (hc : ColsN 4 cs) {d : D} (h : RightN cs d) : Pu 300 3 d := by
  cases h with
  | non => exact pu_non
  | mk c ns h1 h2 =>
    have g1 : Pu 210 2 c := by
      rcases h1 with rfl | h1
      · exact pu_non
      · exact h1.pu hc.nm
    have hl := h2.length_le
    rw [List.length_map] at hl
    have := hc.le
    have g2 : Pu 36 2 (.tup (ns.map D.str)) := (pu_names (m := 4) (fun s hs => by
      obtain ⟨c, hc', rfl⟩ := List.mem_map.mp (h2.subset hs)
      exact hc.nm c hc') (by omega)).up (Nat.le_refl _) (by decide)
    exact (pu2 g1 g2).up (by decide) (Nat.le_refl _)
end
end K04

set_option autoImplicit false
set_option maxRecDepth 100000
set_option maxHeartbeats 4000000
namespace K04
open PySem PySem.Spec PyProof.Rows L2 DL
section
variable {P : Program} {w : World} {K : PySem.W.Frag} {mg : Str → Option Value} {base : Heap}
/-! the hand of a script -/
def F_lhand : FD := fun ds M k => ∃ (ns : List Int) (i : Nat), ds = [.scr (ns.map D.int), .int (i : Nat)] ∧ ns.length ≤ 63 ∧ i ≤ 1000 ∧ ∀ h M', M h = none → Hn M' h 0 → ExtA M M' → k (.cel h) M'
theorem ok_lhand (T : Txt K mg) (B : DD K mg) : DFn P w K mg base 1 B.f_law_hand B.fd_law_hand p_law_hand F_lhand := by
  refine Fun.okD B.d_law_hand.F sc_law_hand (fun cdv A outer s H E hr => (dss_cons (ds_set (i := 2) sc_law_hand.nd de_int) (dss_cons (ds_if (dt_cmpA c_lt (dv 1) (de_len T.b_len (dv 0))) (dss_one (ds_set (i := 2) sc_law_hand.nd (de_ix (dv 0) (dv 1)))) dss_nil) (dss_cons (ds_set (i := 3) sc_law_hand.nd (de_mod (de_mul (de_add (de_add (de_mod (dv 2) de_int) (de_mul (de_mul de_int (dv 1)) (dv 1))) de_int) de_int) de_int)) (dss_one (ds_ret (de_lstM (da_cons (de_mul (de_abs T.b_abs (dv 2)) (de_intof T.b_int (de_cmpA c_ge (de_abs T.b_abs (dv 2)) (de_pow de_int de_int)))) (da_cons (dv 3) (da_cons de_int da_nil)))))))))) (fun ds M k h => ?_)
  obtain ⟨ns, i, rfl, hn, hi, hk⟩ := h
  (refine ⟨rfl, ?_⟩; rw [show startD N_law_hand [.scr (ns.map D.int), .int (i : Nat)] = [some (.scr (ns.map D.int)), some (.int (i : Nat)), none, none] from rfl])
  refine seq_step ?_
  simp only [wNext, wBreak, wContinue, wExpr, wRet, wRetN, wSet, wAsg, wPar, wPar3, wSub, wTst, wOp, wChain, wNotT, wAndV, wOrV, wNotV, wIf, wNil, wCons, wTup, wLst, wLstM, wCall, wCall0, wVar, wC, wLc, wLcM, wYes, wiL, wiT, wiS, wiR, wiEnT, wiEnL, wiZip, wSl, woNone, woSome, wMt, wJoin, wGet, wUn, wTru, wDNew, fin, List.getElem?_cons_zero, List.getElem?_cons_succ, List.set_cons_zero, List.set_cons_succ]
  refine seq_join (fun Γ' M' => M' = M ∧ ∃ cell : Int, Γ' = [some (.scr (ns.map D.int)), some (.int (i : Nat)), some (.int cell), none]) ?_ ?_
  · rintro Γ' M' ⟨rfl, cell, rfl⟩
    refine seq_step ?_
    simp only [wNext, wBreak, wContinue, wExpr, wRet, wRetN, wSet, wAsg, wPar, wPar3, wSub, wTst, wOp, wChain, wNotT, wAndV, wOrV, wNotV, wIf, wNil, wCons, wTup, wLst, wLstM, wCall, wCall0, wVar, wC, wLc, wLcM, wYes, wiL, wiT, wiS, wiR, wiEnT, wiEnL, wiZip, wSl, woNone, woSome, wMt, wJoin, wGet, wUn, wTru, wDNew, fin, List.getElem?_cons_zero, List.getElem?_cons_succ, List.set_cons_zero, List.set_cons_succ]
    refine r_mod (by decide) (r_mul (.inl ⟨by decide, by decide⟩) (r_mul (.inr ⟨by omega, by omega⟩) (r_add (r_add (r_mul (.inr ⟨by decide, by decide⟩) (r_mod (by decide) ?_))))))
    generalize hm : (cell % 2305843009213693951 + 6143 * (i : Int) * (i : Int) + 19) * 48271 % 2305843009213693921 = m
    have p0 : 0 ≤ m := by rw [← hm]; exact Int.emod_nonneg _ (by decide)
    have p1 : m < 2305843009213693921 := by rw [← hm]; exact Int.emod_lt_of_pos _ (by decide)
    have ab : (0 : Int) ≤ if cell < 0 then -cell else cell := by split <;> omega
    refine (show rdAbs [.int cell] _ _ from ?_)
    simp only [rdAbs]
    generalize (if cell < 0 then -cell else cell) = a at ab
    refine r_pow (by decide) (by decide) (by decide) (r_ordI (r_intB ?_))
    have fin' : ∀ z : Int, 0 ≤ z → ∀ p, M' p = none → k (.cel p) (setM M' p (.lst [.int z, .int m, .int 0])) := fun z hz p hp => by
      refine hk p _ hp ⟨z, m, 0, setM_same, hz, p0, by omega, by decide, by decide⟩ (ExtA.new (ExtA.refl _) hp)
    split
    · refine r_mul (.inr ⟨by decide, by decide⟩) ⟨(show 3 ≤ sizeLine by decide), fun p hp => ?_⟩
      exact fin' _ (by omega) p hp
    · refine r_mul (.inr ⟨by decide, by decide⟩) ⟨(show 3 ≤ sizeLine by decide), fun p hp => ?_⟩
      exact fin' _ (by omega) p hp
  · intro nx hnx
    simp only [wNext, wBreak, wContinue, wExpr, wRet, wRetN, wSet, wAsg, wPar, wPar3, wSub, wTst, wOp, wChain, wNotT, wAndV, wOrV, wNotV, wIf, wNil, wCons, wTup, wLst, wLstM, wCall, wCall0, wVar, wC, wLc, wLcM, wYes, wiL, wiT, wiS, wiR, wiEnT, wiEnL, wiZip, wSl, woNone, woSome, wMt, wJoin, wGet, wUn, wTru, wDNew, fin, List.getElem?_cons_zero, List.getElem?_cons_succ, List.set_cons_zero, List.set_cons_succ, wIfS]
    refine r_lenR (r_ordI (bb (fun c => ?_) (fun c => ?_)))
    · have c : (i : Int) < ((ns.map D.int).length : Int) := of_decide_eq_true c
      rw [List.length_map] at c
      refine ix_scr (d := .int ns[i]) (atI_nat ?_) ?_
      · rw [List.getElem?_map, List.getElem?_eq_getElem (by omega)]; rfl
      · exact hnx _ _ ⟨rfl, _, rfl⟩
    · exact hnx _ _ ⟨rfl, _, rfl⟩
end
end K04

set_option autoImplicit false
set_option maxRecDepth 100000
set_option maxHeartbeats 4000000
namespace K04
open PySem L2 DL
/-! worths, rows, bags -/
inductive Wo where
  | non | num (i : Int) | txt (s : Str)
  deriving DecidableEq
abbrev Row := List Wo
def woD : Wo → D
  | .non => .non
  | .num i => .int i
  | .txt s => .str s
def rowD (r : Row) : D := .tup (r.map woD)
def bagD (b : List Row) : D := .tup (b.map rowD)
def woK : Wo → NestedKey
  | .non => .none
  | .num i => .num i
  | .txt s => .text s
def rowK (r : Row) : NestedKey := .tup (r.map woK)
def woOf : D → Wo
  | .int i => .num i
  | .str s => .txt s
  | _ => .non
def rowOf : D → Row
  | .tup ds => ds.map woOf
  | _ => []
theorem woOf_woD (w : Wo) : woOf (woD w) = w := by cases w <;> rfl
theorem rowOf_rowD (r : Row) : rowOf (rowD r) = r := by
  show (r.map woD).map woOf = r
  rw [List.map_map]
  exact (List.map_congr_left fun w _ => woOf_woD w).trans (List.map_id' r)
theorem rowD_inj {a b : Row} (h : rowD a = rowD b) : a = b := by rw [← rowOf_rowD a, h, rowOf_rowD]
theorem kD_wo (w : Wo) : kD (woK w) = woD w := by cases w <;> simp only [woK, kD, woD]
theorem kDs_row : ∀ r : Row, kDs (r.map woK) = r.map woD
  | [] => by simp only [List.map_nil, kDs]
  | w :: r => by simp only [List.map_cons, kDs, kD_wo, kDs_row r]
theorem kD_row (r : Row) : kD (rowK r) = rowD r := by
  unfold rowK rowD
  rw [kD, kDs_row]
theorem dep_row : ∀ r : Row, NestedKey.depthAll (r.map woK) = 0
  | [] => by simp only [List.map_nil, NestedKey.depthAll]
  | w :: r => by
    simp only [List.map_cons, NestedKey.depthAll, dep_row r]
    cases w <;> simp [woK, NestedKey.depth]
theorem isNK_row (r : Row) : IsNK (rowD r) (rowK r) := ⟨(kD_row r).symm, by show NestedKey.depth (.tup _) ≤ 8; rw [NestedKey.depth, dep_row]; omega⟩
theorem rowK_inj {a b : Row} (h : rowK a = rowK b) : a = b := rowD_inj (by rw [← kD_row, ← kD_row, h])
/-- the tokens of a row's place -/
def plP : Wo → PyData
  | .non => .tuple [.int 0, .int 0]
  | .num i => .tuple [.int 1, .int i]
  | .txt s => .tuple [.int 2, .str s]
abbrev Tk := List (Int ⊕ List Nat)
def rowT (r : Row) : Tk := PySem.W.keyToksAll (r.map plP)
def ltT (a b : Tk) : Bool := PyProof.Rows.lexLt PyProof.Rows.itemOrd a b
def leR (a b : Row) : Bool := !ltT (rowT b) (rowT a)
theorem woT_eq {a b : Wo} {l m : Tk} (h : PySem.W.keyToks (plP a) ++ l = PySem.W.keyToks (plP b) ++ m) : a = b ∧ l = m := by
  cases a <;> cases b <;> simp [plP, PySem.W.keyToks, PySem.W.keyToksAll] at h ⊢
  · exact h
  · exact h
  · obtain ⟨h1, h2⟩ := h
    exact ⟨PySem.W.str_of_cps (by rw [h1]), h2⟩
theorem rowT_inj : ∀ {a b : Row}, rowT a = rowT b → a = b
  | [], [], _ => rfl
  | [], _ :: _, h => by simp [rowT, PySem.W.keyToksAll] at h
  | _ :: _, [], h => by simp [rowT, PySem.W.keyToksAll] at h
  | x :: a, y :: b, h => by
    unfold rowT at h
    rw [List.map_cons, List.map_cons, PySem.W.keyToksAll, PySem.W.keyToksAll] at h
    obtain ⟨h1, h2⟩ := woT_eq (List.cons.inj h).2
    rw [h1, rowT_inj (a := a) (b := b) h2]
theorem leR_total (a b : Row) : (leR a b || leR b a) = true := by
  unfold leR ltT
  cases h : PyProof.Rows.lexLt PyProof.Rows.itemOrd (rowT b) (rowT a) with
  | false => rfl
  | true =>
    cases h2 : PyProof.Rows.lexLt PyProof.Rows.itemOrd (rowT a) (rowT b) with
    | false => rfl
    | true =>
      have := (PyProof.Rows.listOrd PyProof.Rows.itemOrd).trans _ _ _ h h2
      rw [(PyProof.Rows.listOrd PyProof.Rows.itemOrd).irrefl] at this
      cases this
theorem leR_trans (a b c : Row) (h1 : leR a b = true) (h2 : leR b c = true) : leR a c = true := by
  unfold leR ltT at *
  rw [Bool.not_eq_true'] at *
  cases h : PyProof.Rows.lexLt PyProof.Rows.itemOrd (rowT c) (rowT a) with
  | false => rfl
  | true =>
    rcases (PyProof.Rows.listOrd PyProof.Rows.itemOrd).negTrans _ (rowT b) _ h with z | z
    · rw [show PyProof.Rows.lexLt PyProof.Rows.itemOrd (rowT c) (rowT b) = true from z] at h2; cases h2
    · rw [show PyProof.Rows.lexLt PyProof.Rows.itemOrd (rowT b) (rowT a) = true from z] at h1; cases h1
theorem leR_anti (a b : Row) (h1 : leR a b = true) (h2 : leR b a = true) : a = b := by
  unfold leR ltT at *
  rw [Bool.not_eq_true'] at *
  exact rowT_inj ((PyProof.Rows.listOrd PyProof.Rows.itemOrd).total _ _ h2 h1)
/-- rising -/
def Srt (b : List Row) : Prop := b.Pairwise fun x y => leR x y = true
theorem srt_sort (b : List Row) : Srt (b.mergeSort leR) := List.pairwise_mergeSort leR_trans leR_total b
theorem srt_eq {a b : List Row} (ha : Srt a) (hb : Srt b) (h : ∀ r, a.count r = b.count r) : a = b :=
  List.Perm.eq_of_pairwise (le := fun x y => leR x y = true) (fun x y _ _ => leR_anti x y) ha hb (List.perm_iff_count.mpr h)
theorem count_sort (b : List Row) (r : Row) : (b.mergeSort leR).count r = b.count r := (List.perm_iff_count.mp (List.mergeSort_perm b leR)) r
end K04

set_option autoImplicit false
set_option maxRecDepth 100000
set_option maxHeartbeats 4000000
namespace K04
open PySem L2 DL
/-! by what rows are sorted -/
def lpP : Wo → PyData
  | .non => .tuple [.int 0, .int 0, .str Str.empty]
  | .num i => .tuple [.int 1, .int i, .str Str.empty]
  | .txt s => .tuple [.int 2, .int 0, .str s]
def key1 (d : D) : PyData := .tuple ((rowOf d).map plP)
def key2 (d : D) : PyData := .list ((rowOf d).map lpP)
theorem cmp1 (x y : Wo) : SX.cmpb (plP x) (plP y) = true := by
  cases x <;> cases y <;> simp [plP, SX.cmpb, SX.cmpbs, PyData.eqv]
theorem alk2 (x y : Wo) : PySem.W.alike (lpP x) (lpP y) = true := by
  cases x <;> cases y <;> simp [lpP, PySem.W.alike, PySem.W.alikeAll]
theorem cmp2 (x y : Wo) : SX.cmpb (lpP x) (lpP y) = true := by
  cases x <;> cases y <;> simp [lpP, SX.cmpb, SX.cmpbs, PyData.eqv]
theorem eqv1 (x y : Wo) : PyData.eqv (plP x) (plP y) = decide (x = y) := by
  cases x <;> cases y <;> simp [plP, PyData.eqv, PyData.eqvAll] <;> exact Bool.eq_iff_iff.mpr (by simp)
theorem eqv2 (x y : Wo) : PyData.eqv (lpP x) (lpP y) = decide (x = y) := by
  cases x <;> cases y <;> simp [lpP, PyData.eqv, PyData.eqvAll] <;> exact Bool.eq_iff_iff.mpr (by simp)
theorem lt12 (x y : Wo) : PySem.W.dataLt (plP x) (plP y) = PySem.W.dataLt (lpP x) (lpP y) := by
  cases x <;> cases y <;> simp [PySem.W.dataLt, plP, lpP, PySem.W.keyToks, PySem.W.keyToksAll, PyProof.Rows.lexLt, PyProof.Rows.itemOrd, PyProof.Rows.itemLt]
  exact fun _ h => absurd h (Array.lt_irrefl _)
theorem rows12 : ∀ a b : Row, PyProof.Rows.lexLt PyProof.Rows.itemOrd (PySem.W.keyToksAll (a.map plP)) (PySem.W.keyToksAll (b.map plP)) = PyProof.Rows.lexLt PyProof.Rows.itemOrd (PySem.W.keyToksAll (a.map lpP)) (PySem.W.keyToksAll (b.map lpP))
  | [], [] => rfl
  | [], y :: b => by simp [PySem.W.keyToksAll, PyProof.Rows.lexLt, PyProof.Rows.itemOrd, PyProof.Rows.itemLt]
  | x :: a, [] => by simp [PySem.W.keyToksAll, PyProof.Rows.lexLt, PyProof.Rows.itemOrd, PyProof.Rows.itemLt]
  | x :: a, y :: b => by
    rw [List.map_cons, List.map_cons, List.map_cons, List.map_cons]
    by_cases h : x = y
    · rw [SX.ltC_yes (cmp1 x y) (by rw [eqv1]; exact decide_eq_true h), SX.ltC_yes (cmp2 x y) (by rw [eqv2]; exact decide_eq_true h), rows12 a b]
    · rw [SX.ltC_no (cmp1 x y) (by rw [eqv1]; exact decide_eq_false h), SX.ltC_no (cmp2 x y) (by rw [eqv2]; exact decide_eq_false h), lt12]
theorem le1 (a b : Row) : leK false key1 (rowD a) (rowD b) = leR a b := by
  show (!PyProof.Rows.lexLt PyProof.Rows.itemOrd (PySem.W.keyToks (key1 (rowD b))) (PySem.W.keyToks (key1 (rowD a)))) = _
  unfold key1
  rw [rowOf_rowD, rowOf_rowD, PySem.W.keyToks, PySem.W.keyToks]
  rfl
theorem le2 (a b : Row) : leK false key2 (rowD a) (rowD b) = leR a b := by
  show (!PyProof.Rows.lexLt PyProof.Rows.itemOrd (PySem.W.keyToks (key2 (rowD b))) (PySem.W.keyToks (key2 (rowD a)))) = _
  unfold key2
  rw [rowOf_rowD, rowOf_rowD, PySem.W.keyToks, PySem.W.keyToks, ← rows12]
  rfl
theorem sort1 (rs : List Row) : (rs.map rowD).mergeSort (leK false key1) = (rs.mergeSort leR).map rowD := (PySem.W.sort_maps rowD fun a _ b _ => (le1 a b).symm).symm
theorem sort2 (rs : List Row) : (rs.map rowD).mergeSort (leK false key2) = (rs.mergeSort leR).map rowD := (PySem.W.sort_maps rowD fun a _ b _ => (le2 a b).symm).symm
theorem cmps1 : ∀ a b : Row, SX.cmpbs (a.map plP) (b.map plP) = true
  | [], _ => by simp [SX.cmpbs]
  | _ :: _, [] => by simp [SX.cmpbs]
  | x :: a, y :: b => by simp [SX.cmpbs, cmp1, cmps1 a b]
theorem alks2 : ∀ a b : Row, PySem.W.alikeAll (a.map lpP) (b.map lpP) = true
  | [], _ => by simp [PySem.W.alikeAll]
  | _ :: _, [] => by simp [PySem.W.alikeAll]
  | x :: a, y :: b => by simp [PySem.W.alikeAll, alk2, alks2 a b]
def WoOk : Wo → Prop
  | .txt s => PyData.strOk s = true
  | _ => True
/-- a row: some worths, texts that can be laid out -/
def RowOk (r : Row) : Prop := r ≠ [] ∧ ∀ w ∈ r, WoOk w
theorem str_mt : PyData.strOk Str.empty = true := by decide +kernel
theorem lay1 : ∀ a : Row, (∀ w ∈ a, WoOk w) → PyData.canLayAll0 (a.map plP) = true
  | [], _ => by simp [PyData.canLayAll0]
  | x :: a, h => by
    have ih := lay1 a fun w hw => h w (List.mem_cons_of_mem _ hw)
    have hx := h x List.mem_cons_self
    cases x with
    | txt s => simp [PyData.canLayAll0, PyData.canLay0, plP, ih, show PyData.strOk s = true from hx]
    | _ => simp [PyData.canLayAll0, PyData.canLay0, plP, ih]
theorem lay2 : ∀ a : Row, (∀ w ∈ a, WoOk w) → PyData.canLayAll0 (a.map lpP) = true
  | [], _ => by simp [PyData.canLayAll0]
  | x :: a, h => by
    have ih := lay2 a fun w hw => h w (List.mem_cons_of_mem _ hw)
    have hx := h x List.mem_cons_self
    cases x with
    | txt s => simp [PyData.canLayAll0, PyData.canLay0, lpP, ih, show PyData.strOk s = true from hx]
    | _ => simp [PyData.canLayAll0, PyData.canLay0, lpP, ih, str_mt]
theorem dpt1 : ∀ a : Row, PyData.depthAll (a.map plP) ≤ 1
  | [] => by simp [PyData.depthAll]
  | x :: a => by have := dpt1 a; cases x <;> simp [PyData.depthAll, PyData.depth, plP] <;> omega
theorem dpt2 : ∀ a : Row, PyData.depthAll (a.map lpP) ≤ 1
  | [] => by simp [PyData.depthAll]
  | x :: a => by have := dpt2 a; cases x <;> simp [PyData.depthAll, PyData.depth, lpP] <;> omega
theorem keys1 {rs : List Row} (h : ∀ r ∈ rs, RowOk r) : KeysOk (rs.map rowD) key1 := by
  have hk : ∀ d ∈ (rs.map rowD).map key1, ∃ r, r ∈ rs ∧ d = .tuple (r.map plP) := fun d hd => by
    rw [List.map_map] at hd
    obtain ⟨r, hr, rfl⟩ := List.mem_map.mp hd
    exact ⟨r, hr, by show key1 (rowD r) = _; unfold key1; rw [rowOf_rowD]⟩
  refine ⟨⟨fun d hd d' hd' => ?_, fun d hd => ?_⟩, .inl fun d hd => ?_, fun d hd => ?_⟩
  · obtain ⟨r, _, rfl⟩ := hk d hd
    obtain ⟨r', _, rfl⟩ := hk d' hd'
    rw [SX.cmpb]; exact cmps1 r r'
  · obtain ⟨r, hr, rfl⟩ := hk d hd
    simp only [PyData.canLay0]; exact lay1 r (h r hr).2
  · obtain ⟨r, hr, rfl⟩ := hk d hd
    cases r with
    | nil => exact absurd rfl (h _ hr).1
    | cons x r => exact ⟨_, _, rfl⟩
  · obtain ⟨r, hr, rfl⟩ := List.mem_map.mp hd
    unfold key1; rw [rowOf_rowD, PyData.depth]
    have := dpt1 r; omega
theorem keys2 {rs : List Row} (h : ∀ r ∈ rs, RowOk r) : KeysOk (rs.map rowD) key2 := by
  have hk : ∀ d ∈ (rs.map rowD).map key2, ∃ r, r ∈ rs ∧ d = .list (r.map lpP) := fun d hd => by
    rw [List.map_map] at hd
    obtain ⟨r, hr, rfl⟩ := List.mem_map.mp hd
    exact ⟨r, hr, by show key2 (rowD r) = _; unfold key2; rw [rowOf_rowD]⟩
  refine ⟨⟨fun d hd d' hd' => ?_, fun d hd => ?_⟩, .inr fun d hd => ?_, fun d hd => ?_⟩
  · obtain ⟨r, _, rfl⟩ := hk d hd
    obtain ⟨r', _, rfl⟩ := hk d' hd'
    rw [SX.cmpb]; exact alks2 r r'
  · obtain ⟨r, hr, rfl⟩ := hk d hd
    simp only [PyData.canLay0]; exact lay2 r (h r hr).2
  · obtain ⟨r, hr, rfl⟩ := hk d hd
    exact ⟨fun z => (by cases z), fun xs z => (by cases z)⟩
  · obtain ⟨r, hr, rfl⟩ := List.mem_map.mp hd
    unfold key2; rw [rowOf_rowD, PyData.depth]
    have := dpt2 r; omega
/-- the rows, as they are -/
structure RowsN (n : Nat) (rs : List Row) : Prop where
  ok : ∀ r ∈ rs, RowOk r
  le : ∀ r ∈ rs, r.length ≤ 1000
  ln : rs.length ≤ n
end K04

set_option autoImplicit false
set_option maxRecDepth 100000
set_option maxHeartbeats 4000000
namespace K04
open PySem L2 DL
section
variable {P : Program} {w : World} {K : PySem.W.Frag} {mg : Str → Option Value} {base : Heap}
/-! a worth's place, a row's, the bag of rows -/
def isNum : Wo → Bool
  | .num _ => true
  | _ => false
def F_wholeW : FD := fun ds M k => ∃ x : Wo, ds = [woD x] ∧ k (.bl (isNum x)) M
theorem ok_wholeW (T : Txt K mg) (B : DD K mg) : DFn P w K mg base 1 B.f_is_whole B.fd_is_whole p_is_whole F_wholeW := by
  refine Fun.okD B.d_is_whole.F sc_is_whole (fun cdv A outer s H E hr => (dss_one (ds_ret (de_cmpA c_is (de_type T.b_type (dv 0)) (de_ty (n := "int") T.b_int (by decide +kernel)))))) (fun ds M k h => ?_)
  obtain ⟨x, rfl, hk⟩ := h
  (refine ⟨rfl, ?_⟩; rw [show startD N_is_whole [woD x] = [some (woD x)] from rfl])
  simp only [wNext, wSeq, wBreak, wContinue, wExpr, wRet, wRetN, wIfS, wSet, wAsg, wPar, wPar3, wFor, wSub, wTst, wOp, wChain, wNotT, wAndT, wOrT, wAndV, wOrV, wNotV, wIf, wNil, wCons, wTup, wLst, wLstM, wCall, wCall0, wVar, wC, wLc, wLcM, wYes, wiL, wiT, wiS, wiR, wiEnT, wiEnL, wiZip, wSl, woNone, woSome, wMt, wJoin, wGet, wUn, wTru, wDNew, fin, List.getElem?_cons_zero, List.getElem?_cons_succ, List.set_cons_zero, List.set_cons_succ]
  cases x with
  | non => exact hk
  | num i => exact hk
  | txt s => exact hk
def plD : Wo → D
  | .non => .tup [.int 0, .int 0]
  | .num i => .tup [.int 1, .int i]
  | .txt s => .tup [.int 2, .str s]
def F_wplace : FD := fun ds M k => ∃ x : Wo, ds = [woD x] ∧ k (plD x) M
theorem ok_wplace (T : Txt K mg) (B : DD K mg) : DFn P w K mg base 2 B.f_worth_place B.fd_worth_place p_worth_place F_wplace := by
  have G_is_whole : DFn P w K mg base 1 B.f_is_whole B.fd_is_whole p_is_whole F_wholeW := ok_wholeW T B
  refine Fun.okD B.d_worth_place.F sc_worth_place (fun cdv A outer s H E hr => (dss_cons (ds_if (dt_cmpA c_is (dv 0) de_non) (dss_one (ds_ret (de_tup (da_cons de_int (da_cons de_int da_nil))))) dss_nil) (dss_cons (ds_if (dt_val (de_own B.d_is_whole G_is_whole hr (by first | decide | omega) (da_cons (dv 0) da_nil))) (dss_one (ds_ret (de_tup (da_cons de_int (da_cons (dv 0) da_nil))))) dss_nil) (dss_one (ds_ret (de_tup (da_cons de_int (da_cons (dv 0) da_nil)))))))) (fun ds M k h => ?_)
  obtain ⟨x, rfl, hk⟩ := h
  (refine ⟨rfl, ?_⟩; rw [show startD N_worth_place [woD x] = [some (woD x)] from rfl])
  refine seq_step ?_
  unfold wIfS
  simp only [wNext, wBreak, wContinue, wExpr, wRet, wRetN, wSet, wAsg, wPar, wPar3, wSub, wTst, wOp, wChain, wNotT, wAndV, wOrV, wNotV, wIf, wNil, wCons, wTup, wLst, wLstM, wCall, wCall0, wVar, wC, wLc, wLcM, wYes, wiL, wiT, wiS, wiR, wiEnT, wiEnL, wiZip, wSl, woNone, woSome, wMt, wJoin, wGet, wUn, wTru, wDNew, fin, List.getElem?_cons_zero, List.getElem?_cons_succ, List.set_cons_zero, List.set_cons_succ]
  cases x with
  | non => exact ⟨(show 2 ≤ sizeLine by decide), hk⟩
  | num i =>
    refine r_isI ?_
    simp only [id, Bool.false_eq_true, if_false]
    refine seq_step ?_
    simp only [wNext, wBreak, wContinue, wExpr, wRet, wRetN, wSet, wAsg, wPar, wPar3, wSub, wTst, wOp, wChain, wNotT, wAndV, wOrV, wNotV, wIf, wNil, wCons, wTup, wLst, wLstM, wCall, wCall0, wVar, wC, wLc, wLcM, wYes, wiL, wiT, wiS, wiR, wiEnT, wiEnL, wiZip, wSl, woNone, woSome, wMt, wJoin, wGet, wUn, wTru, wDNew, fin, List.getElem?_cons_zero, List.getElem?_cons_succ, List.set_cons_zero, List.set_cons_succ]
    refine ⟨.num i, rfl, ?_⟩
    simp only [isNum, if_true]
    exact ⟨(show 2 ≤ sizeLine by decide), hk⟩
  | txt s =>
    refine r_isS ?_
    simp only [id, Bool.false_eq_true, if_false]
    refine seq_step ?_
    simp only [wNext, wBreak, wContinue, wExpr, wRet, wRetN, wSet, wAsg, wPar, wPar3, wSub, wTst, wOp, wChain, wNotT, wAndV, wOrV, wNotV, wIf, wNil, wCons, wTup, wLst, wLstM, wCall, wCall0, wVar, wC, wLc, wLcM, wYes, wiL, wiT, wiS, wiR, wiEnT, wiEnL, wiZip, wSl, woNone, woSome, wMt, wJoin, wGet, wUn, wTru, wDNew, fin, List.getElem?_cons_zero, List.getElem?_cons_succ, List.set_cons_zero, List.set_cons_succ]
    refine ⟨.txt s, rfl, ?_⟩
    simp only [isNum, Bool.false_eq_true, if_false]
    exact ⟨(show 2 ≤ sizeLine by decide), hk⟩
def F_rplace : FD := fun ds M k => ∃ r : Row, ds = [rowD r] ∧ r.length ≤ 1000 ∧ k (.tup (r.map plD)) M
theorem ok_rplace (T : Txt K mg) (B : DD K mg) : DFn P w K mg base 3 B.f_row_place B.fd_row_place p_row_place F_rplace := by
  have G_worth_place : DFn P w K mg base 2 B.f_worth_place B.fd_worth_place p_worth_place F_wplace := ok_wplace T B
  refine Fun.okD B.d_row_place.F sc_row_place (fun cdv A outer s H E hr => (dss_one (ds_ret (de_tuple T.b_tuple (de_lc rfl sc_row_place.nd (di_tup (dv 0)) (blkOk_by (own := [("worth", 1)]) (N := N_row_place) (sc := defScope s_row_place) (by decide +kernel)) (fun _ _ _ _ _ => (dg_name (i := 1) sc_row_place.nd)) gd_name (fun _ _ _ _ _ => dts_nil) (fun _ _ _ _ _ => (de_own B.d_worth_place G_worth_place hr (by first | decide | omega) (da_cons (dv 1) da_nil)))))))) (fun ds M k h => ?_)
  obtain ⟨r, rfl, hr, hk⟩ := h
  (refine ⟨rfl, ?_⟩; rw [show startD N_row_place [rowD r] = [some (rowD r), none] from rfl])
  simp only [wNext, wSeq, wBreak, wContinue, wExpr, wRet, wRetN, wIfS, wSet, wAsg, wPar, wPar3, wFor, wSub, wTst, wOp, wChain, wNotT, wAndT, wOrT, wAndV, wOrV, wNotV, wIf, wNil, wCons, wTup, wLst, wLstM, wCall, wCall0, wVar, wC, wLc, wLcM, wYes, wiL, wiT, wiS, wiR, wiEnT, wiEnL, wiZip, wSl, woNone, woSome, wMt, wJoin, wGet, wUn, wTru, wDNew, fin, List.getElem?_cons_zero, List.getElem?_cons_succ, List.set_cons_zero, List.set_cons_succ]
  unfold rowD
  refine lc_map (fun d => plD (woOf d)) trivial _ _ _ (fun d hd => ?_) (by simp only [List.length_nil, List.length_map]; have := sizeLine_eq; omega) ?_
  · obtain ⟨x, hx, rfl⟩ := List.mem_map.mp hd
    refine ⟨_, rfl, fun k' hk' => ?_⟩
    rw [woOf_woD] at hk'
    exact ⟨x, rfl, hk'⟩
  · rw [List.nil_append, List.map_map, show (fun d => plD (woOf d)) ∘ woD = plD from funext fun x => congrArg plD (woOf_woD x)]
    exact hk
theorem toP_pl (M : Mem) (x : Wo) : toP M (plD x) = some (plP x) := by cases x <;> simp [plD, plP, toP, toPs]
theorem toPs_pl (M : Mem) : ∀ r : Row, toPs M (r.map plD) = some (r.map plP)
  | [] => by simp [toPs]
  | x :: r => by simp [toPs, toP_pl, toPs_pl M r]
theorem keyed1 {rs : List Row} {n : Nat} (h : RowsN n rs) (M : Mem) : Keyed F_rplace (rs.map rowD) key1 M := fun M' e d hd kd hk => by
  obtain ⟨r, hr, rfl⟩ := List.mem_map.mp hd
  refine ⟨r, rfl, h.le r hr, hk _ _ (ExtA.refl _) ?_⟩
  show toP M' (.tup _) = _
  unfold key1
  rw [rowOf_rowD]
  simp only [toP, toPs_pl, Option.map_some]
def F_bag_of : FD := fun ds M k => ∃ (rs : List Row) (x : D) (n : Nat), ds = [x] ∧ asR M x = some (rs.map rowD) ∧ RowsN n rs ∧ n ≤ 1000000 ∧ k (bagD (rs.mergeSort leR)) M
theorem ok_bag_of (T : Txt K mg) (B : DD K mg) : DFn P w K mg base 6 B.f_bag_of B.fd_bag_of p_bag_of F_bag_of := by
  have G_row_place : DFn P w K mg base 3 B.f_row_place B.fd_row_place p_row_place F_rplace := ok_rplace T B
  refine Fun.okD B.d_bag_of.F sc_bag_of (fun cdv A outer s H E hr => (dss_one (ds_ret (de_tuple T.b_tuple (de_sortK B.d_row_place G_row_place hr (by first | decide | omega) T.b_sorted (dv 0)))))) (fun ds M k h => ?_)
  obtain ⟨rs, x, n, rfl, hx, hn, _, hk⟩ := h
  (refine ⟨rfl, ?_⟩; rw [show startD N_bag_of [x] = [some (x)] from rfl])
  simp only [wNext, wSeq, wBreak, wContinue, wExpr, wRet, wRetN, wIfS, wSet, wAsg, wPar, wPar3, wFor, wSub, wTst, wOp, wChain, wNotT, wAndT, wOrT, wAndV, wOrV, wNotV, wIf, wNil, wCons, wTup, wLst, wLstM, wCall, wCall0, wVar, wC, wLc, wLcM, wYes, wiL, wiT, wiS, wiR, wiEnT, wiEnL, wiZip, wSl, woNone, woSome, wMt, wJoin, wGet, wUn, wTru, wDNew, fin, List.getElem?_cons_zero, List.getElem?_cons_succ, List.set_cons_zero, List.set_cons_succ]
  unfold rdSortK
  simp only [hx]
  refine ⟨key1, keys1 hn.ok, keyed1 hn M, ?_⟩
  rw [sort1]
  exact hk
end
end K04

set_option autoImplicit false
set_option maxRecDepth 100000
set_option maxHeartbeats 4000000
namespace K04
open PySem L2 DL
section
variable {P : Program} {w : World} {K : PySem.W.Frag} {mg : Str → Option Value} {base : Heap}
/-! the law's own rank of a worth, its own bag: sorted with a lambda -/
def lpD : Wo → D
  | .non => .tup [.int 0, .int 0, .str Str.empty]
  | .num i => .tup [.int 1, .int i, .str Str.empty]
  | .txt s => .tup [.int 2, .int 0, .str s]
def F_lrankW : FD := fun ds M k => ∃ x : Wo, ds = [woD x] ∧ k (lpD x) M
theorem ok_lrankW (T : Txt K mg) (B : DD K mg) : DFn P w K mg base 1 B.f_law_rank B.fd_law_rank p_law_rank F_lrankW := by
  refine Fun.okD B.d_law_rank.F sc_law_rank (fun cdv A outer s H E hr => (dss_cons (ds_if (dt_cmpA c_is (dv 0) de_non) (dss_one (ds_ret (de_tup (da_cons de_int (da_cons de_int (da_cons de_str da_nil)))))) dss_nil) (dss_one (ds_ret (de_if (dt_val (de_isi T.b_isinstance (dv 0) (de_ty (n := "int") T.b_int (by decide +kernel)))) (de_tup (da_cons de_int (da_cons (dv 0) (da_cons de_str da_nil)))) (de_tup (da_cons de_int (da_cons de_int (da_cons (dv 0) da_nil))))))))) (fun ds M k h => ?_)
  obtain ⟨x, rfl, hk⟩ := h
  (refine ⟨rfl, ?_⟩; rw [show startD N_law_rank [woD x] = [some (woD x)] from rfl])
  simp only [wNext, wSeq, wBreak, wContinue, wExpr, wRet, wRetN, wIfS, wSet, wAsg, wPar, wPar3, wFor, wSub, wTst, wOp, wChain, wNotT, wAndT, wOrT, wAndV, wOrV, wNotV, wIf, wNil, wCons, wTup, wLst, wLstM, wCall, wCall0, wVar, wC, wLc, wLcM, wYes, wiL, wiT, wiS, wiR, wiEnT, wiEnL, wiZip, wSl, woNone, woSome, wMt, wJoin, wGet, wUn, wTru, wDNew, fin, List.getElem?_cons_zero, List.getElem?_cons_succ, List.set_cons_zero, List.set_cons_succ]
  cases x with
  | non => exact ⟨(show 3 ≤ sizeLine by decide), hk⟩
  | num i => exact ⟨by decide, fun l e => (by cases e), (show 3 ≤ sizeLine by decide), hk⟩
  | txt s => exact ⟨by decide, fun l e => (by cases e), (show 3 ≤ sizeLine by decide), hk⟩
theorem toP_lp (M : Mem) (x : Wo) : toP M (lpD x) = some (lpP x) := by cases x <;> simp [lpD, lpP, toP, toPs]
theorem toPs_lp (M : Mem) : ∀ r : Row, toPs M (r.map lpD) = some (r.map lpP)
  | [] => by simp [toPs]
  | x :: r => by simp [toPs, toP_lp, toPs_lp M r]
def F_lbagW : FD := fun ds M k => ∃ (rs : List Row) (x : D) (n : Nat), ds = [x] ∧ asR M x = some (rs.map rowD) ∧ RowsN n rs ∧ n ≤ 1000000 ∧ k (bagD (rs.mergeSort leR)) M
theorem ok_lbagW (T : Txt K mg) (B : DD K mg) (L : Lams K mg base B) : DFn P w K mg base 8 B.f_law_bag B.fd_law_bag p_law_bag F_lbagW := by
  have G_law_rank : DFn P w K mg base 1 B.f_law_rank B.fd_law_rank p_law_rank F_lrankW := ok_lrankW T B
  refine Fun.okDL (k := 7) L.l_law_bag B.d_law_bag.F sc_law_bag (fun cdv A outer s H E hr hl => (dss_one (ds_ret (de_tuple T.b_tuple (de_sortL (sc := defScope s_law_bag) (m := 1) (qn := "row") (N := ["row", "worth"]) (fr := []) (js := []) hl hr (by first | decide | omega) T.b_sorted (dv 0) (NdefX.nscope_by (by decide +kernel)) (fun c' f A outer s H hr => (de_lc rfl (show List.Nodup (["row", "worth"] : List Str) from by decide +kernel) (di_tup (dv 0)) (blkOk_by (own := [("worth", 1)]) (N := ["row", "worth"]) (sc := _) (by dsimp only [NdefX.ncx, NdefX.envF, PySem.W.envX, lamNF]; decide +kernel)) (fun _ _ _ _ _ => (dg_name (i := 1) (show List.Nodup (["row", "worth"] : List Str) from by decide +kernel))) gd_name (fun _ _ _ _ _ => dts_nil) (fun _ _ _ _ _ => (de_own B.d_law_rank G_law_rank hr (by first | decide | omega) (da_cons (dv 1) da_nil)))))))))) (fun ds M k h => ?_)
  obtain ⟨rs, x, n, rfl, hx, hn, _, hk⟩ := h
  (refine ⟨rfl, ?_⟩; rw [show startD N_law_bag [x] = [some (x), none] from rfl])
  simp only [wNext, wSeq, wBreak, wContinue, wExpr, wRet, wRetN, wIfS, wSet, wAsg, wPar, wPar3, wFor, wSub, wTst, wOp, wChain, wNotT, wAndT, wOrT, wAndV, wOrV, wNotV, wIf, wNil, wCons, wTup, wLst, wLstM, wCall, wCall0, wVar, wC, wLc, wLcM, wYes, wiL, wiT, wiS, wiR, wiEnT, wiEnL, wiZip, wSl, woNone, woSome, wMt, wJoin, wGet, wUn, wTru, wDNew, fin, List.getElem?_cons_zero, List.getElem?_cons_succ, List.set_cons_zero, List.set_cons_succ, wSortL]
  refine ⟨x, _, key2, rfl, hx, keys2 hn.ok, fun M' e d hd kd hkd => ?_, ?_⟩
  · obtain ⟨r, hr, rfl⟩ := List.mem_map.mp hd
    rw [show lamG _ [] _ [rowD r] = [some (rowD r), none] from rfl]
    simp only [wNext, wBreak, wContinue, wExpr, wRet, wRetN, wSet, wAsg, wPar, wPar3, wSub, wTst, wOp, wChain, wNotT, wAndV, wOrV, wNotV, wIf, wNil, wCons, wTup, wLst, wLstM, wCall, wCall0, wVar, wC, wLc, wLcM, wYes, wiL, wiT, wiS, wiR, wiEnT, wiEnL, wiZip, wSl, woNone, woSome, wMt, wJoin, wGet, wUn, wTru, wDNew, fin, List.getElem?_cons_zero, List.getElem?_cons_succ, List.set_cons_zero, List.set_cons_succ]
    unfold rowD
    have hlr := hn.le r hr
    refine lc_map (fun d => lpD (woOf d)) trivial _ _ _ (fun d hd => ?_) (by simp only [List.length_nil, List.length_map]; have := sizeLine_eq; omega) ?_
    · obtain ⟨y, hy, rfl⟩ := List.mem_map.mp hd
      refine ⟨_, rfl, fun k' hk' => ?_⟩
      rw [woOf_woD] at hk'
      exact ⟨y, rfl, hk'⟩
    · rw [List.nil_append, List.map_map, show (fun d => lpD (woOf d)) ∘ woD = lpD from funext fun y => congrArg lpD (woOf_woD y)]
      refine hkd _ _ (ExtA.refl _) ?_
      unfold toPC key2
      rw [rowOf_rowD]
      simp only [toP, toPs_lp, Option.map_some]
  · rw [sort2]
    exact hk
end
end K04

set_option autoImplicit false
set_option maxRecDepth 100000
set_option maxHeartbeats 4000000
namespace K04
open PySem PySem.Spec PyProof.Rows L2 DL
section
variable {P : Program} {w : World} {K : PySem.W.Frag} {mg : Str → Option Value} {base : Heap}
/-! drawn checks: whether a row keeps them -/
abbrev RowF (cs : Cols) (ws : List D) : Prop := Paired (fun (c : Str × Str) (d : D) => WFit c.2 d) cs ws
def lstC (cs : Cols) : List (Str × D) := cs.map fun c => (c.1, D.str c.2)
theorem lstC_pr (cs : Cols) : colsD cs = .tup ((lstC cs).map pr) := by
  unfold colsD lstC
  rw [List.map_map]; rfl
def atC (cs : Cols) (a : Str) : Option Nat := cs.findIdx? fun c => decide (c.1 = a)
theorem findP_C (cs : Cols) (a : Str) : findP (lstC cs) a = atC cs a := by
  unfold findP lstC atC
  rw [List.findIdx?_map]; rfl
def valC (cs : Cols) (ws : List D) (a : Str) : D := match atC cs a with
  | some i => (ws[i]?).getD .non
  | none => .non
theorem look_C {cs : Cols} {ws : List D} (h : RowF cs ws) : (cs.map (·.1)).Nodup → ∀ {a kd : Str}, (a, kd) ∈ cs → ∃ i d, atC cs a = some i ∧ ws[i]? = some d ∧ WFit kd d := by
  induction h with
  | nil => intro _ a kd hm; cases hm
  | cons r t ih =>
    rename_i c d cs ws
    intro hn a kd hm
    have hn' := List.nodup_cons.mp hn
    unfold atC at ih ⊢
    rw [List.findIdx?_cons]
    by_cases e : c.1 = a
    · have e2 : c.2 = kd := by
        rcases List.mem_cons.mp hm with z | z
        · rw [← z]
        · exact absurd (show c.1 ∈ cs.map (·.1) from by rw [e]; exact List.mem_map_of_mem (f := fun x : Str × Str => x.1) z) hn'.1
      exact ⟨0, d, by simp [e], rfl, e2 ▸ r⟩
    · have hm' : (a, kd) ∈ cs := by
        rcases List.mem_cons.mp hm with z | z
        · exact absurd (by rw [← z]) e
        · exact z
      obtain ⟨i, d', h1, h2, h3⟩ := ih hn'.2 hm'
      exact ⟨i + 1, d', by simp [e, h1], by simpa using h2, h3⟩
theorem WFit.flat {kd : Str} {d : D} (h : WFit kd d) : Flat d := by
  cases h with
  | non => exact .non
  | num i _ => exact .int i
  | nam s hs => exact .str s (ok_nm hs)
def belC (d : D) (i : Int) : Bool := match d with | .int j => decide (j < i) | _ => false
def likC (d e : D) : Bool := match d with | .non => false | d => eqS d e
inductive SemC (cs : Cols) (ws : List D) : Nat → D → Bool → Prop
  | not {n : Nat} {c : D} {b : Bool} : SemC cs ws n c b → SemC cs ws (n + 1) (.tup [.str (Str.ofString "not"), c]) (!b)
  | and {n : Nat} {x y : D} {a b : Bool} : SemC cs ws n x a → SemC cs ws n y b → SemC cs ws (n + 1) (.tup [.str (Str.ofString "and"), x, y]) (a && b)
  | or {n : Nat} {x y : D} {a b : Bool} : SemC cs ws n x a → SemC cs ws n y b → SemC cs ws (n + 1) (.tup [.str (Str.ofString "or"), x, y]) (a || b)
  | bel {n : Nat} {a : Str} (i : Int) : (a, Str.ofString "number") ∈ cs → SemC cs ws (n + 1) (.tup [.str (Str.ofString "below"), .str a, .int i]) (belC (valC cs ws a) i)
  | lik {n : Nat} {a b kd : Str} : (a, kd) ∈ cs → (b, kd) ∈ cs → SemC cs ws (n + 1) (.tup [.str (Str.ofString "like"), .str a, .str b]) (likC (valC cs ws a) (valC cs ws b))
  | iss {n : Nat} {a kd : Str} {d : D} : (a, kd) ∈ cs → WFit kd d → SemC cs ws (n + 1) (.tup [.str (Str.ofString "is"), .str a, d]) (eqS (valC cs ws a) d)
theorem SemC.of {cs : Cols} (ws : List D) {n : Nat} {c : D} (h : Chk cs n c) : ∃ b, SemC cs ws (n + 1) c b := by
  induction h with
  | not _ ih => obtain ⟨b, h⟩ := ih; exact ⟨_, .not h⟩
  | and _ _ ih1 ih2 => obtain ⟨a, h1⟩ := ih1; obtain ⟨b, h2⟩ := ih2; exact ⟨_, .and h1 h2⟩
  | or _ _ ih1 ih2 => obtain ⟨a, h1⟩ := ih1; obtain ⟨b, h2⟩ := ih2; exact ⟨_, .or h1 h2⟩
  | lt h _ => exact ⟨_, .bel _ h⟩
  | like h1 h2 => exact ⟨_, .lik h1 h2⟩
  | is h1 h2 => exact ⟨_, .iss h1 h2⟩
def F_holdsC (n : Nat) : FD := fun ds M k => ∃ cs ws c b, ds = [colsD cs, c, .tup ws] ∧ (∀ c ∈ cs, isNm c.1 = true) ∧ (cs.map (·.1)).Nodup ∧ RowF cs ws ∧ SemC cs ws n c b ∧ k (.bl b) M
theorem place_C {cs : Cols} {ws : List D} (nm : ∀ c ∈ cs, isNm c.1 = true) (nd : (cs.map (·.1)).Nodup) (hw : RowF cs ws) {a kd : Str} (hm : (a, kd) ∈ cs) {M : Mem} {k : KD} (hk : WFit kd (valC cs ws a) → k (valC cs ws a) M) :
    F_place_of [colsD cs, .str a] M fun y M1 => rdIx (.tup ws) y M1 k := by
  obtain ⟨i, d, h1, h2, h3⟩ := look_C hw nd hm
  have hv : valC cs ws a = d := by unfold valC; rw [h1]; simp only [h2, Option.getD_some]
  rw [hv] at hk
  have hn : isNm a = true := nm _ hm
  refine ⟨lstC cs, .str a, by rw [lstC_pr], (by show a.length ≤ 1000000; have z := hn; unfold isNm at z; simp only [Bool.and_eq_true, decide_eq_true_eq] at z; omega), ?_⟩
  have e : placeD (lstC cs) (.str a) = .int (i : Nat) := by simp only [placeD, hn, if_true, findP_C, h1]
  rw [e]
  exact ix_tup (atI_nat h2) (hk h3)
theorem ok_holdsC (T : Txt K mg) (B : DD K mg) : ∀ n, DFn P w K mg base (3 + n) B.f_holds B.fd_holds p_holds (F_holdsC n)
  | 0 => DFn.weak DFn.none fun ds M k ⟨cs, ws, c, b, _, _, _, _, h, _⟩ => by cases h
  | n + 1 => by
    have G_place_of : DFn P w K mg base 2 B.f_place_of B.fd_place_of p_place_of F_place_of := ok_place_of T B
    have G_holds : DFn P w K mg base (3 + n) B.f_holds B.fd_holds p_holds (F_holdsC n) := ok_holdsC T B n
    refine Fun.okD (k := 3 + n) B.d_holds.F sc_holds (fun cdv A outer s H E hr => (dss_cons (ds_set (i := 3) sc_holds.nd (de_ix (dv 1) de_int)) (dss_cons (ds_if (dt_cmpA (c_eq hr) (dv 3) de_str) (dss_one (ds_ret (de_not (de_own B.d_holds G_holds hr (by first | decide | omega) (da_cons (dv 0) (da_cons (de_ix (dv 1) de_int) (da_cons (dv 2) da_nil))))))) dss_nil) (dss_cons (ds_if (dt_cmpA (c_eq hr) (dv 3) de_str) (dss_one (ds_ret (de_and (de_own B.d_holds G_holds hr (by first | decide | omega) (da_cons (dv 0) (da_cons (de_ix (dv 1) de_int) (da_cons (dv 2) da_nil)))) (de_one (de_own B.d_holds G_holds hr (by first | decide | omega) (da_cons (dv 0) (da_cons (de_ix (dv 1) de_int) (da_cons (dv 2) da_nil)))))))) dss_nil) (dss_cons (ds_if (dt_cmpA (c_eq hr) (dv 3) de_str) (dss_one (ds_ret (de_or (de_own B.d_holds G_holds hr (by first | decide | omega) (da_cons (dv 0) (da_cons (de_ix (dv 1) de_int) (da_cons (dv 2) da_nil)))) (de_one (de_own B.d_holds G_holds hr (by first | decide | omega) (da_cons (dv 0) (da_cons (de_ix (dv 1) de_int) (da_cons (dv 2) da_nil)))))))) dss_nil) (dss_cons (ds_set (i := 4) sc_holds.nd (de_ix (dv 2) (de_own B.d_place_of G_place_of hr (by first | decide | omega) (da_cons (dv 0) (da_cons (de_ix (dv 1) de_int) da_nil))))) (dss_cons (ds_if (dt_cmpA (c_eq hr) (dv 3) de_str) (dss_one (ds_ret (de_cmpA (c_eq hr) (dv 4) (de_ix (dv 1) de_int)))) dss_nil) (dss_cons (ds_if (dt_cmpA c_is (dv 4) de_non) (dss_one (ds_ret de_bl)) dss_nil) (dss_cons (ds_if (dt_cmpA (c_eq hr) (dv 3) de_str) (dss_one (ds_ret (de_cmpA c_lt (dv 4) (de_ix (dv 1) de_int)))) dss_nil) (dss_one (ds_ret (de_cmpA (c_eq hr) (dv 4) (de_ix (dv 2) (de_own B.d_place_of G_place_of hr (by first | decide | omega) (da_cons (dv 0) (da_cons (de_ix (dv 1) de_int) da_nil)))))))))))))))) (fun ds M k h => ?_)
    obtain ⟨cs, ws, c, b, rfl, nm, nd, hw, hs, hk⟩ := h
    (refine ⟨rfl, ?_⟩; rw [show startD N_holds [colsD cs, c, .tup ws] = [some (colsD cs), some (c), some (.tup ws), none, none] from rfl])
    simp only [wNext, wSeq, wBreak, wContinue, wExpr, wRet, wRetN, wIfS, wSet, wAsg, wPar, wPar3, wFor, wSub, wTst, wOp, wChain, wNotT, wAndT, wOrT, wAndV, wOrV, wNotV, wIf, wNil, wCons, wTup, wLst, wLstM, wCall, wCall0, wVar, wC, wLc, wLcM, wYes, wiL, wiT, wiS, wiR, wiEnT, wiEnL, wiZip, wSl, woNone, woSome, wMt, wJoin, wGet, wUn, wTru, wDNew, fin, List.getElem?_cons_zero, List.getElem?_cons_succ, List.set_cons_zero, List.set_cons_succ]
    cases hs with
    | not h =>
      refine ix_tup (at0 _ _) (eq_strT (by decide +kernel) (tt ?_))
      exact ix_tup (at1 _ _ _) ⟨cs, ws, _, _, rfl, nm, nd, hw, h, hk⟩
    | and h1 h2 =>
      refine ix_tup (at0 _ _) (eq_strF (by decide +kernel) (by decide +kernel) (by decide +kernel) (ff (eq_strT (by decide +kernel) (tt ?_))))
      refine ix_tup (at1 _ _ _) ⟨cs, ws, _, _, rfl, nm, nd, hw, h1, ?_⟩
      rename_i x y a b
      cases a with
      | true => exact ix_tup (at2 _ _ _ _) ⟨cs, ws, _, _, rfl, nm, nd, hw, h2, hk⟩
      | false => exact hk
    | or h1 h2 =>
      refine ix_tup (at0 _ _) (eq_strF (by decide +kernel) (by decide +kernel) (by decide +kernel) (ff (eq_strF (by decide +kernel) (by decide +kernel) (by decide +kernel) (ff (eq_strT (by decide +kernel) (tt ?_))))))
      refine ix_tup (at1 _ _ _) ⟨cs, ws, _, _, rfl, nm, nd, hw, h1, ?_⟩
      rename_i x y a b
      cases a with
      | true => exact hk
      | false => exact ix_tup (at2 _ _ _ _) ⟨cs, ws, _, _, rfl, nm, nd, hw, h2, hk⟩
    | iss hm hd =>
      refine ix_tup (at0 _ _) (eq_strF (by decide +kernel) (by decide +kernel) (by decide +kernel) (ff (eq_strF (by decide +kernel) (by decide +kernel) (by decide +kernel) (ff (eq_strF (by decide +kernel) (by decide +kernel) (by decide +kernel) (ff ?_))))))
      refine ix_tup (at1 _ _ _) (place_C nm nd hw hm fun wv => ?_)
      refine eq_strT (by decide +kernel) (tt (ix_tup (at2 _ _ _ _) ?_))
      exact eq_flat wv.flat hd.flat hk
    | bel i hm =>
      refine ix_tup (at0 _ _) (eq_strF (by decide +kernel) (by decide +kernel) (by decide +kernel) (ff (eq_strF (by decide +kernel) (by decide +kernel) (by decide +kernel) (ff (eq_strF (by decide +kernel) (by decide +kernel) (by decide +kernel) (ff ?_))))))
      refine ix_tup (at1 _ _ _) (place_C nm nd hw hm fun wv => ?_)
      refine eq_strF (by decide +kernel) (by decide +kernel) (by decide +kernel) (ff ?_)
      generalize valC cs ws _ = v at wv hk
      cases wv with
      | non => exact r_isN (tt hk)
      | num j _ => exact r_isI (ff (eq_strT (by decide +kernel) (tt (ix_tup (at2 _ _ _ _) (r_ordI hk)))))
    | lik hm hm2 =>
      refine ix_tup (at0 _ _) (eq_strF (by decide +kernel) (by decide +kernel) (by decide +kernel) (ff (eq_strF (by decide +kernel) (by decide +kernel) (by decide +kernel) (ff (eq_strF (by decide +kernel) (by decide +kernel) (by decide +kernel) (ff ?_))))))
      refine ix_tup (at1 _ _ _) (place_C nm nd hw hm fun wv => ?_)
      refine eq_strF (by decide +kernel) (by decide +kernel) (by decide +kernel) (ff ?_)
      rename_i a b' kd
      generalize valC cs ws a = v at wv hk
      cases wv with
      | non => exact r_isN (tt hk)
      | num j _ => exact r_isI (ff (eq_strF (by decide +kernel) (by decide +kernel) (by decide +kernel) (ff (ix_tup (at2 _ _ _ _) (place_C nm nd hw hm2 fun wv2 => eq_flat (.int _) wv2.flat hk)))))
      | nam s hs => exact r_isS (ff (eq_strF (by decide +kernel) (by decide +kernel) (by decide +kernel) (ff (ix_tup (at2 _ _ _ _) (place_C nm nd hw hm2 fun wv2 => eq_flat (.str _ (ok_nm hs)) wv2.flat hk)))))
end
end K04

set_option autoImplicit false
set_option maxRecDepth 100000
set_option maxHeartbeats 4000000
namespace K04
open PySem PySem.Spec PyProof.Rows L2 DL
section
variable {P : Program} {w : World} {K : PySem.W.Frag} {mg : Str → Option Value} {base : Heap}
/-! .. as the law sees it -/
theorem idx_C {cs : Cols} {ws : List D} (nd : (cs.map (·.1)).Nodup) (hw : RowF cs ws) {a kd : Str} (hm : (a, kd) ∈ cs) {M : Mem} {k : KD} (hk : WFit kd (valC cs ws a) → k (valC cs ws a) M) :
    rdIndexS (.lst ((cs.map (·.1)).map D.str)) [.str a] M fun y M1 => rdIx (.tup ws) y M1 k := by
  obtain ⟨i, d, h1, h2, h3⟩ := look_C hw nd hm
  have hv : valC cs ws a = d := by unfold valC; rw [h1]; simp only [h2, Option.getD_some]
  rw [hv] at hk
  have e : (cs.map (·.1)).findIdx? (fun y => decide (y = a)) = some i := by rw [List.findIdx?_map]; exact h1
  unfold rdIndexS
  simp only [asR, strs_map, e]
  exact ix_tup (atI_nat h2) (hk h3)
theorem cut3 (a b c : D) : cutD ([a, b, c] ++ [D.non]) none (some 3) = [a, b, c] := by rfl
theorem cut2 (a b : D) : cutD ([a, b] ++ [D.non]) none (some 3) = [a, b, .non] := by rfl
theorem in_ao {f : Bool → Bool} {s : Str} {M : Mem} {k : KD} (hk : k (.bl (f (decide (s ∈ [Str.ofString "and", Str.ofString "or"])))) M) : rdIn f (.str s) (.tup [.str (Str.ofString "and"), .str (Str.ofString "or")]) M k := r_inS (l := [Str.ofString "and", Str.ofString "or"]) hk
theorem all2 (a b : Bool) {M : Mem} {k : KD} (hk : k (.bl (a && b)) M) : rdAll [.lst [.bl a, .bl b]] M k := by
  unfold rdAll; simp only [asR, boolsD]; simpa using hk
theorem any2 (a b : Bool) {M : Mem} {k : KD} (hk : k (.bl (a || b)) M) : rdAny [.lst [.bl a, .bl b]] M k := by
  unfold rdAny; simp only [asR, boolsD]; simpa using hk
def F_lholdsC (n : Nat) : FD := fun ds M k => ∃ cs ws c b, ds = [.lst ((cs.map (·.1)).map D.str), c, .tup ws] ∧ cs.length ≤ 1000 ∧ (cs.map (·.1)).Nodup ∧ RowF cs ws ∧ SemC cs ws n c b ∧ k (.bl b) M
theorem ok_lholdsC (T : Txt K mg) (B : DD K mg) : ∀ n, DFn P w K mg base (1 + n) B.f_law_holds B.fd_law_holds p_law_holds (F_lholdsC n)
  | 0 => DFn.weak DFn.none fun ds M k ⟨cs, ws, c, b, _, _, _, _, h, _⟩ => by cases h
  | n + 1 => by
    have G_law_holds : DFn P w K mg base (1 + n) B.f_law_holds B.fd_law_holds p_law_holds (F_lholdsC n) := ok_lholdsC T B n
    refine Fun.okD (k := 1 + n) B.d_law_holds.F sc_law_holds (fun cdv A outer s H E hr => (dss_cons (ds_asg (dg_tup rfl (dgs_cons (dg_name (i := 3) sc_law_holds.nd) (dgs_cons (dg_name (i := 4) sc_law_holds.nd) (dgs_cons (dg_name (i := 5) sc_law_holds.nd) dgs_nil))) (gsCons_len (gsCons_len (gsCons_len gsNil_len)))) (de_slice (de_add (dv 1) (de_tup (da_cons de_non da_nil))) do_none (do_some de_int))) (dss_cons (ds_if (dt_cmpA (c_eq hr) (dv 3) de_str) (dss_one (ds_ret (de_not (de_own B.d_law_holds G_law_holds hr (by first | decide | omega) (da_cons (dv 0) (da_cons (dv 4) (da_cons (dv 2) da_nil))))))) dss_nil) (dss_cons (ds_if (dt_cmpA c_in (dv 3) (de_tup (da_cons de_str (da_cons de_str da_nil)))) (dss_cons (ds_set (i := 6) sc_law_holds.nd (de_lst (da_cons (de_own B.d_law_holds G_law_holds hr (by first | decide | omega) (da_cons (dv 0) (da_cons (dv 4) (da_cons (dv 2) da_nil)))) (da_cons (de_own B.d_law_holds G_law_holds hr (by first | decide | omega) (da_cons (dv 0) (da_cons (dv 5) (da_cons (dv 2) da_nil)))) da_nil)))) (dss_one (ds_ret (de_if (dt_cmpA (c_eq hr) (dv 3) de_str) (de_all rfl T.b_all (dv 6)) (de_any rfl T.b_any (dv 6)))))) dss_nil) (dss_cons (ds_set (i := 7) sc_law_holds.nd (de_ix (dv 2) (de_indexS (dv 0) (dv 4)))) (dss_cons (ds_if (dt_cmpA (c_eq hr) (dv 3) de_str) (dss_one (ds_ret (de_cmpA (c_eq hr) (dv 7) (dv 5)))) dss_nil) (dss_cons (ds_if (dt_cmpA (c_eq hr) (dv 3) de_str) (dss_one (ds_ret (de_and (de_cmpA c_isn (dv 7) de_non) (de_one (de_cmpA c_lt (dv 7) (dv 5)))))) dss_nil) (dss_one (ds_ret (de_and (de_cmpA c_isn (dv 7) de_non) (de_one (de_cmpA (c_eq hr) (dv 7) (de_ix (dv 2) (de_indexS (dv 0) (dv 5))))))))))))))) (fun ds M k h => ?_)
    obtain ⟨cs, ws, c, b, rfl, cl, nd, hw, hs, hk⟩ := h
    (refine ⟨rfl, ?_⟩; rw [show startD N_law_holds [.lst ((cs.map (·.1)).map D.str), c, .tup ws] = [some (.lst ((cs.map (·.1)).map D.str)), some (c), some (.tup ws), none, none, none, none, none] from rfl])
    refine seq_step ?_
    simp only [wNext, wBreak, wContinue, wExpr, wRet, wRetN, wSet, wAsg, wPar, wPar3, wSub, wTst, wOp, wChain, wNotT, wAndV, wOrV, wNotV, wIf, wNil, wCons, wTup, wLst, wLstM, wCall, wCall0, wVar, wC, wLc, wLcM, wYes, wiL, wiT, wiS, wiR, wiEnT, wiEnL, wiZip, wSl, woNone, woSome, wMt, wJoin, wGet, wUn, wTru, wDNew, fin, List.getElem?_cons_zero, List.getElem?_cons_succ, List.set_cons_zero, List.set_cons_succ]
    cases hs with
    | not h =>
      refine ⟨(show 1 ≤ sizeLine by decide), r_addT (show 3 ≤ sizeLine by decide) (r_slT ?_)⟩
      rw [cut2]
      refine seq_step ?_
      try unfold wIfS
      simp only [wNext, wBreak, wContinue, wExpr, wRet, wRetN, wSet, wAsg, wPar, wPar3, wSub, wTst, wOp, wChain, wNotT, wAndV, wOrV, wNotV, wIf, wNil, wCons, wTup, wLst, wLstM, wCall, wCall0, wVar, wC, wLc, wLcM, wYes, wiL, wiT, wiS, wiR, wiEnT, wiEnL, wiZip, wSl, woNone, woSome, wMt, wJoin, wGet, wUn, wTru, wDNew, fin, List.getElem?_cons_zero, List.getElem?_cons_succ, List.set_cons_zero, List.set_cons_succ]
      refine eq_strT (by decide +kernel) (tt ?_)
      exact ⟨cs, ws, _, _, rfl, cl, nd, hw, h, hk⟩
    | and h1 h2 =>
      refine ⟨(show 1 ≤ sizeLine by decide), r_addT (show 4 ≤ sizeLine by decide) (r_slT ?_)⟩
      rw [cut3]
      refine seq_step ?_
      try unfold wIfS
      simp only [wNext, wBreak, wContinue, wExpr, wRet, wRetN, wSet, wAsg, wPar, wPar3, wSub, wTst, wOp, wChain, wNotT, wAndV, wOrV, wNotV, wIf, wNil, wCons, wTup, wLst, wLstM, wCall, wCall0, wVar, wC, wLc, wLcM, wYes, wiL, wiT, wiS, wiR, wiEnT, wiEnL, wiZip, wSl, woNone, woSome, wMt, wJoin, wGet, wUn, wTru, wDNew, fin, List.getElem?_cons_zero, List.getElem?_cons_succ, List.set_cons_zero, List.set_cons_succ]
      refine eq_strF (by decide +kernel) (by decide +kernel) (by decide +kernel) (ff ?_)
      refine seq_step ?_
      try unfold wIfS
      simp only [wNext, wBreak, wContinue, wExpr, wRet, wRetN, wSet, wAsg, wPar, wPar3, wSub, wTst, wOp, wChain, wNotT, wAndV, wOrV, wNotV, wIf, wNil, wCons, wTup, wLst, wLstM, wCall, wCall0, wVar, wC, wLc, wLcM, wYes, wiL, wiT, wiS, wiR, wiEnT, wiEnL, wiZip, wSl, woNone, woSome, wMt, wJoin, wGet, wUn, wTru, wDNew, fin, List.getElem?_cons_zero, List.getElem?_cons_succ, List.set_cons_zero, List.set_cons_succ]
      refine ⟨(show 2 ≤ sizeLine by decide), in_ao (tt' (by decide +kernel) ?_)⟩
      refine seq_step ?_
      simp only [wNext, wBreak, wContinue, wExpr, wRet, wRetN, wSet, wAsg, wPar, wPar3, wSub, wTst, wOp, wChain, wNotT, wAndV, wOrV, wNotV, wIf, wNil, wCons, wTup, wLst, wLstM, wCall, wCall0, wVar, wC, wLc, wLcM, wYes, wiL, wiT, wiS, wiR, wiEnT, wiEnL, wiZip, wSl, woNone, woSome, wMt, wJoin, wGet, wUn, wTru, wDNew, fin, List.getElem?_cons_zero, List.getElem?_cons_succ, List.set_cons_zero, List.set_cons_succ]
      refine ⟨cs, ws, _, _, rfl, cl, nd, hw, h1, ⟨cs, ws, _, _, rfl, cl, nd, hw, h2, (show 2 ≤ sizeLine by decide), ?_⟩⟩
      refine eq_strT (by decide +kernel) (tt (all2 _ _ hk))
    | or h1 h2 =>
      refine ⟨(show 1 ≤ sizeLine by decide), r_addT (show 4 ≤ sizeLine by decide) (r_slT ?_)⟩
      rw [cut3]
      refine seq_step ?_
      try unfold wIfS
      simp only [wNext, wBreak, wContinue, wExpr, wRet, wRetN, wSet, wAsg, wPar, wPar3, wSub, wTst, wOp, wChain, wNotT, wAndV, wOrV, wNotV, wIf, wNil, wCons, wTup, wLst, wLstM, wCall, wCall0, wVar, wC, wLc, wLcM, wYes, wiL, wiT, wiS, wiR, wiEnT, wiEnL, wiZip, wSl, woNone, woSome, wMt, wJoin, wGet, wUn, wTru, wDNew, fin, List.getElem?_cons_zero, List.getElem?_cons_succ, List.set_cons_zero, List.set_cons_succ]
      refine eq_strF (by decide +kernel) (by decide +kernel) (by decide +kernel) (ff ?_)
      refine seq_step ?_
      try unfold wIfS
      simp only [wNext, wBreak, wContinue, wExpr, wRet, wRetN, wSet, wAsg, wPar, wPar3, wSub, wTst, wOp, wChain, wNotT, wAndV, wOrV, wNotV, wIf, wNil, wCons, wTup, wLst, wLstM, wCall, wCall0, wVar, wC, wLc, wLcM, wYes, wiL, wiT, wiS, wiR, wiEnT, wiEnL, wiZip, wSl, woNone, woSome, wMt, wJoin, wGet, wUn, wTru, wDNew, fin, List.getElem?_cons_zero, List.getElem?_cons_succ, List.set_cons_zero, List.set_cons_succ]
      refine ⟨(show 2 ≤ sizeLine by decide), in_ao (tt' (by decide +kernel) ?_)⟩
      refine seq_step ?_
      simp only [wNext, wBreak, wContinue, wExpr, wRet, wRetN, wSet, wAsg, wPar, wPar3, wSub, wTst, wOp, wChain, wNotT, wAndV, wOrV, wNotV, wIf, wNil, wCons, wTup, wLst, wLstM, wCall, wCall0, wVar, wC, wLc, wLcM, wYes, wiL, wiT, wiS, wiR, wiEnT, wiEnL, wiZip, wSl, woNone, woSome, wMt, wJoin, wGet, wUn, wTru, wDNew, fin, List.getElem?_cons_zero, List.getElem?_cons_succ, List.set_cons_zero, List.set_cons_succ]
      refine ⟨cs, ws, _, _, rfl, cl, nd, hw, h1, ⟨cs, ws, _, _, rfl, cl, nd, hw, h2, (show 2 ≤ sizeLine by decide), ?_⟩⟩
      refine eq_strF (by decide +kernel) (by decide +kernel) (by decide +kernel) (ff (any2 _ _ hk))
    | iss hm hd =>
      refine ⟨(show 1 ≤ sizeLine by decide), r_addT (show 4 ≤ sizeLine by decide) (r_slT ?_)⟩
      rw [cut3]
      refine seq_step ?_
      try unfold wIfS
      simp only [wNext, wBreak, wContinue, wExpr, wRet, wRetN, wSet, wAsg, wPar, wPar3, wSub, wTst, wOp, wChain, wNotT, wAndV, wOrV, wNotV, wIf, wNil, wCons, wTup, wLst, wLstM, wCall, wCall0, wVar, wC, wLc, wLcM, wYes, wiL, wiT, wiS, wiR, wiEnT, wiEnL, wiZip, wSl, woNone, woSome, wMt, wJoin, wGet, wUn, wTru, wDNew, fin, List.getElem?_cons_zero, List.getElem?_cons_succ, List.set_cons_zero, List.set_cons_succ]
      refine eq_strF (by decide +kernel) (by decide +kernel) (by decide +kernel) (ff ?_)
      refine seq_step ?_
      try unfold wIfS
      simp only [wNext, wBreak, wContinue, wExpr, wRet, wRetN, wSet, wAsg, wPar, wPar3, wSub, wTst, wOp, wChain, wNotT, wAndV, wOrV, wNotV, wIf, wNil, wCons, wTup, wLst, wLstM, wCall, wCall0, wVar, wC, wLc, wLcM, wYes, wiL, wiT, wiS, wiR, wiEnT, wiEnL, wiZip, wSl, woNone, woSome, wMt, wJoin, wGet, wUn, wTru, wDNew, fin, List.getElem?_cons_zero, List.getElem?_cons_succ, List.set_cons_zero, List.set_cons_succ]
      refine ⟨(show 2 ≤ sizeLine by decide), in_ao (ff' (by decide +kernel) ?_)⟩
      refine seq_step ?_
      simp only [wNext, wBreak, wContinue, wExpr, wRet, wRetN, wSet, wAsg, wPar, wPar3, wSub, wTst, wOp, wChain, wNotT, wAndV, wOrV, wNotV, wIf, wNil, wCons, wTup, wLst, wLstM, wCall, wCall0, wVar, wC, wLc, wLcM, wYes, wiL, wiT, wiS, wiR, wiEnT, wiEnL, wiZip, wSl, woNone, woSome, wMt, wJoin, wGet, wUn, wTru, wDNew, fin, List.getElem?_cons_zero, List.getElem?_cons_succ, List.set_cons_zero, List.set_cons_succ, wMtR]
      refine ⟨rfl, idx_C nd hw hm fun wv => ?_⟩
      refine seq_step ?_
      try unfold wIfS
      simp only [wNext, wBreak, wContinue, wExpr, wRet, wRetN, wSet, wAsg, wPar, wPar3, wSub, wTst, wOp, wChain, wNotT, wAndV, wOrV, wNotV, wIf, wNil, wCons, wTup, wLst, wLstM, wCall, wCall0, wVar, wC, wLc, wLcM, wYes, wiL, wiT, wiS, wiR, wiEnT, wiEnL, wiZip, wSl, woNone, woSome, wMt, wJoin, wGet, wUn, wTru, wDNew, fin, List.getElem?_cons_zero, List.getElem?_cons_succ, List.set_cons_zero, List.set_cons_succ]
      refine eq_strT (by decide +kernel) (tt (eq_flat wv.flat hd.flat hk))
    | bel i hm =>
      refine ⟨(show 1 ≤ sizeLine by decide), r_addT (show 4 ≤ sizeLine by decide) (r_slT ?_)⟩
      rw [cut3]
      refine seq_step ?_
      try unfold wIfS
      simp only [wNext, wBreak, wContinue, wExpr, wRet, wRetN, wSet, wAsg, wPar, wPar3, wSub, wTst, wOp, wChain, wNotT, wAndV, wOrV, wNotV, wIf, wNil, wCons, wTup, wLst, wLstM, wCall, wCall0, wVar, wC, wLc, wLcM, wYes, wiL, wiT, wiS, wiR, wiEnT, wiEnL, wiZip, wSl, woNone, woSome, wMt, wJoin, wGet, wUn, wTru, wDNew, fin, List.getElem?_cons_zero, List.getElem?_cons_succ, List.set_cons_zero, List.set_cons_succ]
      refine eq_strF (by decide +kernel) (by decide +kernel) (by decide +kernel) (ff ?_)
      refine seq_step ?_
      try unfold wIfS
      simp only [wNext, wBreak, wContinue, wExpr, wRet, wRetN, wSet, wAsg, wPar, wPar3, wSub, wTst, wOp, wChain, wNotT, wAndV, wOrV, wNotV, wIf, wNil, wCons, wTup, wLst, wLstM, wCall, wCall0, wVar, wC, wLc, wLcM, wYes, wiL, wiT, wiS, wiR, wiEnT, wiEnL, wiZip, wSl, woNone, woSome, wMt, wJoin, wGet, wUn, wTru, wDNew, fin, List.getElem?_cons_zero, List.getElem?_cons_succ, List.set_cons_zero, List.set_cons_succ]
      refine ⟨(show 2 ≤ sizeLine by decide), in_ao (ff' (by decide +kernel) ?_)⟩
      refine seq_step ?_
      simp only [wNext, wBreak, wContinue, wExpr, wRet, wRetN, wSet, wAsg, wPar, wPar3, wSub, wTst, wOp, wChain, wNotT, wAndV, wOrV, wNotV, wIf, wNil, wCons, wTup, wLst, wLstM, wCall, wCall0, wVar, wC, wLc, wLcM, wYes, wiL, wiT, wiS, wiR, wiEnT, wiEnL, wiZip, wSl, woNone, woSome, wMt, wJoin, wGet, wUn, wTru, wDNew, fin, List.getElem?_cons_zero, List.getElem?_cons_succ, List.set_cons_zero, List.set_cons_succ, wMtR]
      refine ⟨rfl, idx_C nd hw hm fun wv => ?_⟩
      refine seq_step ?_
      try unfold wIfS
      simp only [wNext, wBreak, wContinue, wExpr, wRet, wRetN, wSet, wAsg, wPar, wPar3, wSub, wTst, wOp, wChain, wNotT, wAndV, wOrV, wNotV, wIf, wNil, wCons, wTup, wLst, wLstM, wCall, wCall0, wVar, wC, wLc, wLcM, wYes, wiL, wiT, wiS, wiR, wiEnT, wiEnL, wiZip, wSl, woNone, woSome, wMt, wJoin, wGet, wUn, wTru, wDNew, fin, List.getElem?_cons_zero, List.getElem?_cons_succ, List.set_cons_zero, List.set_cons_succ]
      refine eq_strF (by decide +kernel) (by decide +kernel) (by decide +kernel) (ff ?_)
      refine seq_step ?_
      try unfold wIfS
      simp only [wNext, wBreak, wContinue, wExpr, wRet, wRetN, wSet, wAsg, wPar, wPar3, wSub, wTst, wOp, wChain, wNotT, wAndV, wOrV, wNotV, wIf, wNil, wCons, wTup, wLst, wLstM, wCall, wCall0, wVar, wC, wLc, wLcM, wYes, wiL, wiT, wiS, wiR, wiEnT, wiEnL, wiZip, wSl, woNone, woSome, wMt, wJoin, wGet, wUn, wTru, wDNew, fin, List.getElem?_cons_zero, List.getElem?_cons_succ, List.set_cons_zero, List.set_cons_succ]
      refine eq_strT (by decide +kernel) (tt ?_)
      generalize valC cs ws _ = v at wv hk
      cases wv with
      | non => exact r_isN hk
      | num j _ => exact r_isI (r_ordI hk)
    | lik hm hm2 =>
      refine ⟨(show 1 ≤ sizeLine by decide), r_addT (show 4 ≤ sizeLine by decide) (r_slT ?_)⟩
      rw [cut3]
      refine seq_step ?_
      try unfold wIfS
      simp only [wNext, wBreak, wContinue, wExpr, wRet, wRetN, wSet, wAsg, wPar, wPar3, wSub, wTst, wOp, wChain, wNotT, wAndV, wOrV, wNotV, wIf, wNil, wCons, wTup, wLst, wLstM, wCall, wCall0, wVar, wC, wLc, wLcM, wYes, wiL, wiT, wiS, wiR, wiEnT, wiEnL, wiZip, wSl, woNone, woSome, wMt, wJoin, wGet, wUn, wTru, wDNew, fin, List.getElem?_cons_zero, List.getElem?_cons_succ, List.set_cons_zero, List.set_cons_succ]
      refine eq_strF (by decide +kernel) (by decide +kernel) (by decide +kernel) (ff ?_)
      refine seq_step ?_
      try unfold wIfS
      simp only [wNext, wBreak, wContinue, wExpr, wRet, wRetN, wSet, wAsg, wPar, wPar3, wSub, wTst, wOp, wChain, wNotT, wAndV, wOrV, wNotV, wIf, wNil, wCons, wTup, wLst, wLstM, wCall, wCall0, wVar, wC, wLc, wLcM, wYes, wiL, wiT, wiS, wiR, wiEnT, wiEnL, wiZip, wSl, woNone, woSome, wMt, wJoin, wGet, wUn, wTru, wDNew, fin, List.getElem?_cons_zero, List.getElem?_cons_succ, List.set_cons_zero, List.set_cons_succ]
      refine ⟨(show 2 ≤ sizeLine by decide), in_ao (ff' (by decide +kernel) ?_)⟩
      refine seq_step ?_
      simp only [wNext, wBreak, wContinue, wExpr, wRet, wRetN, wSet, wAsg, wPar, wPar3, wSub, wTst, wOp, wChain, wNotT, wAndV, wOrV, wNotV, wIf, wNil, wCons, wTup, wLst, wLstM, wCall, wCall0, wVar, wC, wLc, wLcM, wYes, wiL, wiT, wiS, wiR, wiEnT, wiEnL, wiZip, wSl, woNone, woSome, wMt, wJoin, wGet, wUn, wTru, wDNew, fin, List.getElem?_cons_zero, List.getElem?_cons_succ, List.set_cons_zero, List.set_cons_succ, wMtR]
      refine ⟨rfl, idx_C nd hw hm fun wv => ?_⟩
      refine seq_step ?_
      try unfold wIfS
      simp only [wNext, wBreak, wContinue, wExpr, wRet, wRetN, wSet, wAsg, wPar, wPar3, wSub, wTst, wOp, wChain, wNotT, wAndV, wOrV, wNotV, wIf, wNil, wCons, wTup, wLst, wLstM, wCall, wCall0, wVar, wC, wLc, wLcM, wYes, wiL, wiT, wiS, wiR, wiEnT, wiEnL, wiZip, wSl, woNone, woSome, wMt, wJoin, wGet, wUn, wTru, wDNew, fin, List.getElem?_cons_zero, List.getElem?_cons_succ, List.set_cons_zero, List.set_cons_succ]
      refine eq_strF (by decide +kernel) (by decide +kernel) (by decide +kernel) (ff ?_)
      refine seq_step ?_
      try unfold wIfS
      simp only [wNext, wBreak, wContinue, wExpr, wRet, wRetN, wSet, wAsg, wPar, wPar3, wSub, wTst, wOp, wChain, wNotT, wAndV, wOrV, wNotV, wIf, wNil, wCons, wTup, wLst, wLstM, wCall, wCall0, wVar, wC, wLc, wLcM, wYes, wiL, wiT, wiS, wiR, wiEnT, wiEnL, wiZip, wSl, woNone, woSome, wMt, wJoin, wGet, wUn, wTru, wDNew, fin, List.getElem?_cons_zero, List.getElem?_cons_succ, List.set_cons_zero, List.set_cons_succ]
      refine eq_strF (by decide +kernel) (by decide +kernel) (by decide +kernel) (ff ?_)
      simp only [wNext, wBreak, wContinue, wExpr, wRet, wRetN, wSet, wAsg, wPar, wPar3, wSub, wTst, wOp, wChain, wNotT, wAndV, wOrV, wNotV, wIf, wNil, wCons, wTup, wLst, wLstM, wCall, wCall0, wVar, wC, wLc, wLcM, wYes, wiL, wiT, wiS, wiR, wiEnT, wiEnL, wiZip, wSl, woNone, woSome, wMt, wJoin, wGet, wUn, wTru, wDNew, fin, List.getElem?_cons_zero, List.getElem?_cons_succ, List.set_cons_zero, List.set_cons_succ, wMtR]
      rename_i a b' kd
      generalize valC cs ws a = v at wv hk
      cases wv with
      | non => exact r_isN hk
      | num j _ => exact r_isI ⟨rfl, idx_C nd hw hm2 fun wv2 => eq_flat (.int _) wv2.flat hk⟩
      | nam s hs => exact r_isS ⟨rfl, idx_C nd hw hm2 fun wv2 => eq_flat (.str _ (ok_nm hs)) wv2.flat hk⟩
end
end K04

set_option autoImplicit false
set_option maxRecDepth 100000
set_option maxHeartbeats 4000000
namespace K04
open PySem PySem.Spec PyProof.Rows L2 DL
section
variable {P : Program} {w : World} {K : PySem.W.Frag} {mg : Str → Option Value} {base : Heap}
/-! what a right lets through -/
def veil (r : Row) (bs : List Bool) : Row := List.zipWith (fun w b => if b = true then w else .non) r bs
def pickD : D → D
  | .tup [w, .bl b] => if b = true then w else .non
  | d => d
theorem veil_zip : ∀ (r : Row) (bs : List Bool), (zipD (r.map woD) (bs.map D.bl)).map pickD = (veil r bs).map woD
  | [], _ => by simp [veil, zipD]
  | _ :: _, [] => by simp [veil, zipD]
  | x :: r, b :: bs => by
    have ih := veil_zip r bs
    unfold veil zipD at ih ⊢
    rw [List.map_cons, List.map_cons, List.zipWith_cons_cons, List.zipWith_cons_cons, List.map_cons, List.map_cons, ih]
    cases b <;> rfl
def F_veiled : FD := fun ds M k => ∃ (r : Row) (bs : List Bool), ds = [rowD r, .lst (bs.map D.bl)] ∧ r.length ≤ 1000 ∧ k (rowD (veil r bs)) M
theorem ok_veiled (T : Txt K mg) (B : DD K mg) : DFn P w K mg base 1 B.f_veiled B.fd_veiled p_veiled F_veiled := by
  refine Fun.okD B.d_veiled.F sc_veiled (fun cdv A outer s H E hr => (dss_one (ds_ret (de_tuple T.b_tuple (de_lc rfl sc_veiled.nd (di_zTL T.b_zip (da_cons (dv 0) (da_cons (dv 1) da_nil))) (blkOk_by (own := [("worth", 2), ("is_told", 3)]) (N := N_veiled) (sc := defScope s_veiled) (by decide +kernel)) (fun _ _ _ _ _ => (dg_tup rfl (dgs_cons (dg_name (i := 2) sc_veiled.nd) (dgs_cons (dg_name (i := 3) sc_veiled.nd) dgs_nil)) (gsCons_len (gsCons_len gsNil_len)))) (gd_tup (gds_cons gd_name (gds_cons gd_name gds_nil)) (gsCons_len (gsCons_len gsNil_len))) (fun _ _ _ _ _ => dts_nil) (fun _ _ _ _ _ => (de_if (dt_val (dv 3)) (dv 2) de_non))))))) (fun ds M k h => ?_)
  obtain ⟨r, bs, rfl, hr, hk⟩ := h
  (refine ⟨rfl, ?_⟩; rw [show startD N_veiled [rowD r, .lst (bs.map D.bl)] = [some (rowD r), some (.lst (bs.map D.bl)), none, none] from rfl])
  simp only [wNext, wSeq, wBreak, wContinue, wExpr, wRet, wRetN, wIfS, wSet, wAsg, wPar, wPar3, wFor, wSub, wTst, wOp, wChain, wNotT, wAndT, wOrT, wAndV, wOrV, wNotV, wIf, wNil, wCons, wTup, wLst, wLstM, wCall, wCall0, wVar, wC, wLc, wLcM, wYes, wiL, wiT, wiS, wiR, wiEnT, wiEnL, wiZip, wSl, woNone, woSome, wMt, wJoin, wGet, wUn, wTru, wDNew, fin, List.getElem?_cons_zero, List.getElem?_cons_succ, List.set_cons_zero, List.set_cons_succ, wiZTL, rowD, asR]
  have hz := sizeLine_eq
  have hl : (zipD (r.map woD) (bs.map D.bl)).length ≤ 1000 := by unfold zipD; rw [List.length_zipWith, List.length_map]; omega
  refine lc_map (G := gAt (.lst (bs.map D.bl)) (bs.map D.bl)) pickD rfl _ _ _ (fun d hd => ?_) (by rw [List.length_nil]; omega) ?_
  · unfold zipD at hd
    obtain ⟨i, hi⟩ := List.mem_iff_getElem?.mp hd
    rw [List.getElem?_zipWith, List.getElem?_map, List.getElem?_map] at hi
    cases e1 : r[i]? with
    | none => rw [e1] at hi; cases hi
    | some x =>
      cases e2 : bs[i]? with
      | none => rw [e1, e2] at hi; cases hi
      | some b =>
        rw [e1, e2] at hi
        cases hi
        refine ⟨_, rfl, fun k' hk' => ?_⟩
        simp only [wNext, wSeq, wBreak, wContinue, wExpr, wRet, wRetN, wIfS, wSet, wAsg, wPar, wPar3, wFor, wSub, wTst, wOp, wChain, wNotT, wAndT, wOrT, wAndV, wOrV, wNotV, wIf, wNil, wCons, wTup, wLst, wLstM, wCall, wCall0, wVar, wC, wLc, wLcM, wYes, wiL, wiT, wiS, wiR, wiEnT, wiEnL, wiZip, wSl, woNone, woSome, wMt, wJoin, wGet, wUn, wTru, wDNew, fin, List.getElem?_cons_zero, List.getElem?_cons_succ, List.set_cons_zero, List.set_cons_succ, wipeD, List.map]
        cases b with
        | true => exact tt hk'
        | false => exact ff hk'
  · rw [List.nil_append, veil_zip]
    exact hk
/-- rows that fit -/
def RowG (cs : Cols) (r : Row) : Prop := RowF cs (r.map woD)
theorem RowG.len {cs : Cols} {r : Row} (h : RowG cs r) : r.length = cs.length := by
  have := Paired.length h
  rw [List.length_map] at this
  exact this.symm
theorem rowF_wo : ∀ {cs : Cols} {ws : List D}, RowF cs ws → ∀ w ∈ ws, ∃ kd, WFit kd w
  | _, _, .nil, w, hw => by cases hw
  | _, _, .cons (a := c) h t, w, hw => by
    rcases List.mem_cons.mp hw with rfl | hw
    · exact ⟨_, h⟩
    · exact rowF_wo t w hw
theorem RowG.wo {cs : Cols} {r : Row} (h : RowG cs r) : ∀ x ∈ r, WoOk x := fun x hx => by
  obtain ⟨kd, hw⟩ := rowF_wo h (woD x) (List.mem_map_of_mem hx)
  cases x with
  | txt s =>
    cases hw with
    | nam s hs => exact ok_nm hs
  | _ => exact True.intro
theorem veil_mem {r : Row} {bs : List Bool} {x : Wo} (h : x ∈ veil r bs) : x ∈ r ∨ x = .non := by
  unfold veil at h
  obtain ⟨i, hi⟩ := List.mem_iff_getElem?.mp h
  rw [List.getElem?_zipWith] at hi
  cases e1 : r[i]? with
  | none => rw [e1] at hi; cases hi
  | some y =>
    cases e2 : bs[i]? with
    | none => rw [e1, e2] at hi; cases hi
    | some b =>
      rw [e1, e2] at hi
      cases hi
      cases b with
      | true => exact .inl (List.mem_of_getElem? e1)
      | false => exact .inr rfl
theorem veil_len (r : Row) (bs : List Bool) (h : r.length = bs.length) : (veil r bs).length = r.length := by
  unfold veil; rw [List.length_zipWith]; omega
theorem RowG.veil {cs : Cols} {r : Row} {bs : List Bool} (h : RowG cs r) (ne : cs ≠ []) (hl : bs.length = cs.length) : RowOk (veil r bs) := by
  have l1 := veil_len r bs (by rw [h.len, hl])
  refine ⟨fun z => ?_, fun x hx => ?_⟩
  · rw [z, h.len] at l1
    exact ne (List.length_eq_zero_iff.mp l1.symm)
  · rcases veil_mem hx with z | rfl
    · exact h.wo x z
    · exact True.intro
/-- what comes of rows under a right -/
inductive SeenR (cs : Cols) (rs : List Row) : D → List Row → Prop
  | non : SeenR cs rs .non []
  | mk (c : D) (ns : List Str) (hb : Row → Bool) : (c = .non ∧ (∀ r ∈ rs, hb r = true) ∨ (∃ xs, c = .tup xs) ∧ ∀ r ∈ rs, SemC cs (r.map woD) 2 c (hb r)) → ns.length ≤ 1000 →
      SeenR cs rs (.tup [c, .tup (ns.map D.str)]) ((rs.filter hb).map fun r => veil r (cs.map fun c => decide (c.1 ∈ ns)))
structure CsN (cs : Cols) : Prop where
  ne : cs ≠ []
  le : cs.length ≤ 1000
  nm : ∀ c ∈ cs, isNm c.1 = true
  nd : (cs.map (·.1)).Nodup
def F_seen_rows : FD := fun ds M k => ∃ cs rs right out, ds = [colsD cs, bagD rs, right] ∧ CsN cs ∧ (∀ r ∈ rs, RowG cs r) ∧ rs.length ≤ 1000 ∧ SeenR cs rs right out ∧ k (bagD (out.mergeSort leR)) M
theorem ok_seen_rows (T : Txt K mg) (B : DD K mg) : DFn P w K mg base 9 B.f_seen_rows B.fd_seen_rows p_seen_rows F_seen_rows := by
  have G_holds : DFn P w K mg base 5 B.f_holds B.fd_holds p_holds (F_holdsC 2) := ok_holdsC T B 2
  have G_veiled : DFn P w K mg base 1 B.f_veiled B.fd_veiled p_veiled F_veiled := ok_veiled T B
  have G_bag_of : DFn P w K mg base 6 B.f_bag_of B.fd_bag_of p_bag_of F_bag_of := ok_bag_of T B
  refine Fun.okD (k := 8) B.d_seen_rows.F sc_seen_rows (fun cdv A outer s H E hr => (dss_cons (ds_if (dt_cmpA c_is (dv 2) de_non) (dss_one (ds_ret (de_tup da_nil))) dss_nil) (dss_cons (ds_asg (dg_tup rfl (dgs_cons (dg_name (i := 3) sc_seen_rows.nd) (dgs_cons (dg_name (i := 4) sc_seen_rows.nd) dgs_nil)) (gsCons_len (gsCons_len gsNil_len))) (dv 2)) (dss_cons (ds_set (i := 5) sc_seen_rows.nd (de_lc rfl sc_seen_rows.nd (di_tup (dv 0)) (blkOk_by (own := [("name", 6), ("_", 7)]) (N := N_seen_rows) (sc := defScope s_seen_rows) (by decide +kernel)) (fun _ _ _ _ _ => (dg_tup rfl (dgs_cons (dg_name (i := 6) sc_seen_rows.nd) (dgs_cons (dg_name (i := 7) sc_seen_rows.nd) dgs_nil)) (gsCons_len (gsCons_len gsNil_len)))) (gd_tup (gds_cons gd_name (gds_cons gd_name gds_nil)) (gsCons_len (gsCons_len gsNil_len))) (fun _ _ _ _ _ => dts_nil) (fun _ _ _ _ _ => (de_cmpA c_in (dv 6) (dv 4))))) (dss_one (ds_ret (de_own B.d_bag_of G_bag_of hr (by first | decide | omega) (da_cons (de_lc rfl sc_seen_rows.nd (di_tup (dv 1)) (blkOk_by (own := [("row", 8)]) (N := N_seen_rows) (sc := defScope s_seen_rows) (by decide +kernel)) (fun _ _ _ _ _ => (dg_name (i := 8) sc_seen_rows.nd)) gd_name (fun _ _ _ _ _ => (dts_one (dw_pt (dw_or (dt_cmpA c_is (dv 3) de_non) (dw_or1 (dt_val (de_own B.d_holds G_holds hr (by first | decide | omega) (da_cons (dv 0) (da_cons (dv 3) (da_cons (dv 8) da_nil)))))))))) (fun _ _ _ _ _ => (de_own B.d_veiled G_veiled hr (by first | decide | omega) (da_cons (dv 8) (da_cons (dv 5) da_nil))))) da_nil)))))))) (fun ds M k h => ?_)
  obtain ⟨cs, rs, right, out, rfl, hcs, hrs, hn, hs, hk⟩ := h
  (refine ⟨rfl, ?_⟩; rw [show startD N_seen_rows [colsD cs, bagD rs, right] = [some (colsD cs), some (bagD rs), some (right), none, none, none, none, none, none] from rfl])
  have hz := sizeLine_eq
  refine seq_step ?_
  unfold wIfS
  simp only [wNext, wBreak, wContinue, wExpr, wRet, wRetN, wSet, wAsg, wPar, wPar3, wSub, wTst, wOp, wChain, wNotT, wAndV, wOrV, wNotV, wIf, wNil, wCons, wTup, wLst, wLstM, wCall, wCall0, wVar, wC, wLc, wLcM, wYes, wiL, wiT, wiS, wiR, wiEnT, wiEnL, wiZip, wSl, woNone, woSome, wMt, wJoin, wGet, wUn, wTru, wDNew, fin, List.getElem?_cons_zero, List.getElem?_cons_succ, List.set_cons_zero, List.set_cons_succ]
  cases hs with
  | non =>
    refine r_isN (tt ⟨(show 0 ≤ sizeLine by decide), ?_⟩)
    rw [List.mergeSort_nil] at hk
    exact hk
  | mk c ns hb hc hns =>
    refine r_isT (ff ?_)
    refine seq_step ?_
    simp only [wNext, wBreak, wContinue, wExpr, wRet, wRetN, wSet, wAsg, wPar, wPar3, wSub, wTst, wOp, wChain, wNotT, wAndV, wOrV, wNotV, wIf, wNil, wCons, wTup, wLst, wLstM, wCall, wCall0, wVar, wC, wLc, wLcM, wYes, wiL, wiT, wiS, wiR, wiEnT, wiEnL, wiZip, wSl, woNone, woSome, wMt, wJoin, wGet, wUn, wTru, wDNew, fin, List.getElem?_cons_zero, List.getElem?_cons_succ, List.set_cons_zero, List.set_cons_succ, gT, gsCons, gN, gsNil]
    refine seq_step ?_
    simp only [wNext, wBreak, wContinue, wExpr, wRet, wRetN, wSet, wAsg, wPar, wPar3, wSub, wTst, wOp, wChain, wNotT, wAndV, wOrV, wNotV, wIf, wNil, wCons, wTup, wLst, wLstM, wCall, wCall0, wVar, wC, wLc, wLcM, wYes, wiL, wiT, wiS, wiR, wiEnT, wiEnL, wiZip, wSl, woNone, woSome, wMt, wJoin, wGet, wUn, wTru, wDNew, fin, List.getElem?_cons_zero, List.getElem?_cons_succ, List.set_cons_zero, List.set_cons_succ, colsD]
    refine lc_map (fun d => match d with | .tup [.str a, _] => .bl (decide (a ∈ ns)) | d => d) (G := gAny) trivial _ _ _ (fun d hd => ?_) (by rw [List.length_nil, List.length_map]; have := hcs.le; omega) ?_
    · obtain ⟨x, hx, rfl⟩ := List.mem_map.mp hd
      refine ⟨_, rfl, fun k' hk' => ?_⟩
      simp only [wNext, wBreak, wContinue, wExpr, wRet, wRetN, wSet, wAsg, wPar, wPar3, wSub, wTst, wOp, wChain, wNotT, wAndV, wOrV, wNotV, wIf, wNil, wCons, wTup, wLst, wLstM, wCall, wCall0, wVar, wC, wLc, wLcM, wYes, wiL, wiT, wiS, wiR, wiEnT, wiEnL, wiZip, wSl, woNone, woSome, wMt, wJoin, wGet, wUn, wTru, wDNew, fin, List.getElem?_cons_zero, List.getElem?_cons_succ, List.set_cons_zero, List.set_cons_succ, wipeD, List.map]
      exact r_inS hk'
    · rw [List.nil_append]
      have et : (cs.map colD).map (fun d => match d with | .tup [.str a, _] => .bl (decide (a ∈ ns)) | d => d) = (cs.map fun c => decide (c.1 ∈ ns)).map D.bl := by
        rw [List.map_map, List.map_map]; rfl
      rw [et]
      simp only [wNext, wBreak, wContinue, wExpr, wRet, wRetN, wSet, wAsg, wPar, wPar3, wSub, wTst, wOp, wChain, wNotT, wAndV, wOrV, wNotV, wIf, wNil, wCons, wTup, wLst, wLstM, wCall, wCall0, wVar, wC, wLc, wLcM, wYes, wiL, wiT, wiS, wiR, wiEnT, wiEnL, wiZip, wSl, woNone, woSome, wMt, wJoin, wGet, wUn, wTru, wDNew, fin, List.getElem?_cons_zero, List.getElem?_cons_succ, List.set_cons_zero, List.set_cons_succ, bagD]
      refine lc_filter (G := gAny) (fun d => hb (rowOf d)) (fun d => rowD (veil (rowOf d) (cs.map fun c => decide (c.1 ∈ ns)))) trivial _ _ _ (fun d hd => ?_) (by rw [List.length_nil, List.length_map]; omega) ?_
      · obtain ⟨r, hr, rfl⟩ := List.mem_map.mp hd
        have hr' := hrs r hr
        refine ⟨_, rfl, fun k' hk' => ?_, fun _ k' hk' => ?_⟩
        · rw [rowOf_rowD] at hk'
          unfold wOrT
          simp only [wNext, wBreak, wContinue, wExpr, wRet, wRetN, wSet, wAsg, wPar, wPar3, wSub, wTst, wOp, wChain, wNotT, wAndV, wOrV, wNotV, wIf, wNil, wCons, wTup, wLst, wLstM, wCall, wCall0, wVar, wC, wLc, wLcM, wYes, wiL, wiT, wiS, wiR, wiEnT, wiEnL, wiZip, wSl, woNone, woSome, wMt, wJoin, wGet, wUn, wTru, wDNew, fin, List.getElem?_cons_zero, List.getElem?_cons_succ, List.set_cons_zero, List.set_cons_succ, wipeD, List.map]
          rcases hc with ⟨rfl, h1⟩ | ⟨⟨xs, rfl⟩, h1⟩
          · rw [h1 r hr] at hk'
            exact r_isN (tt hk')
          · exact r_isT (ff ⟨cs, r.map woD, _, _, rfl, hcs.nm, hcs.nd, hr', h1 r hr, hk'⟩)
        · rw [rowOf_rowD] at hk'
          simp only [wNext, wBreak, wContinue, wExpr, wRet, wRetN, wSet, wAsg, wPar, wPar3, wSub, wTst, wOp, wChain, wNotT, wAndV, wOrV, wNotV, wIf, wNil, wCons, wTup, wLst, wLstM, wCall, wCall0, wVar, wC, wLc, wLcM, wYes, wiL, wiT, wiS, wiR, wiEnT, wiEnL, wiZip, wSl, woNone, woSome, wMt, wJoin, wGet, wUn, wTru, wDNew, fin, List.getElem?_cons_zero, List.getElem?_cons_succ, List.set_cons_zero, List.set_cons_succ, wipeD, List.map]
          exact ⟨r, _, rfl, by rw [hr'.len]; exact hcs.le, hk'⟩
      · rw [List.nil_append]
        have ef : ((rs.map rowD).filter fun d => hb (rowOf d)).map (fun d => rowD (veil (rowOf d) (cs.map fun c => decide (c.1 ∈ ns)))) = ((rs.filter hb).map fun r => veil r (cs.map fun c => decide (c.1 ∈ ns))).map rowD := by
          rw [List.filter_map, List.map_map, List.map_map]
          rw [show ((fun d => hb (rowOf d)) ∘ rowD) = hb from funext fun r => congrArg hb (rowOf_rowD r)]
          exact List.map_congr_left fun r _ => by show rowD (veil (rowOf (rowD r)) _) = _; rw [rowOf_rowD]; rfl
        rw [ef]
        have lf := List.length_filter_le hb rs
        refine ⟨_, _, 1000, rfl, rfl, ⟨fun r hr => ?_, fun r hr => ?_, by rw [List.length_map]; omega⟩, by decide, hk⟩
        · obtain ⟨r', hr', rfl⟩ := List.mem_map.mp hr
          exact (hrs r' (List.mem_filter.mp hr').1).veil hcs.ne (by rw [List.length_map])
        · obtain ⟨r', hr', rfl⟩ := List.mem_map.mp hr
          have g := hrs r' (List.mem_filter.mp hr').1
          rw [veil_len _ _ (by rw [g.len, List.length_map]), g.len]
          exact hcs.le
end
end K04

set_option autoImplicit false
set_option maxRecDepth 100000
set_option maxHeartbeats 4000000
namespace K04
open PySem PySem.Spec PyProof.Rows L2 DL
section
variable {P : Program} {w : World} {K : PySem.W.Frag} {mg : Str → Option Value} {base : Heap}
/-! all tables under their rights -/
inductive SeenA : List (Str × Cols) → List (List Row) → List D → List (List Row) → Prop
  | nil : SeenA [] [] [] []
  | cons {t : Str × Cols} {ts : List (Str × Cols)} {b : List Row} {bs : List (List Row)} {r : D} {rs : List D} {o : List Row} {os : List (List Row)} : CsN t.2 → (∀ x ∈ b, RowG t.2 x) → b.length ≤ 1000 → SeenR t.2 b r o → SeenA ts bs rs os →
      SeenA (t :: ts) (b :: bs) (r :: rs) (o :: os)
theorem SeenA.len {ts : List (Str × Cols)} {bs : List (List Row)} {rs : List D} {os : List (List Row)} (h : SeenA ts bs rs os) : bs.length = ts.length ∧ rs.length = ts.length ∧ os.length = ts.length := by
  induction h with
  | nil => exact ⟨rfl, rfl, rfl⟩
  | cons _ _ _ _ _ ih => obtain ⟨a, b, c⟩ := ih; exact ⟨by simp [a], by simp [b], by simp [c]⟩
def F_seen : FD := fun ds M k => ∃ ts bs rts outs, ds = [.tup (ts.map tabD), .tup (bs.map bagD), .tup rts] ∧ ts.length ≤ 1000 ∧ SeenA ts bs rts outs ∧ k (.tup (outs.map fun o => bagD (o.mergeSort leR))) M
theorem zip3D_cons (a b c : D) (as bs cs : List D) : zip3D (a :: as) (b :: bs) (c :: cs) = .tup [a, b, c] :: zip3D as bs cs := rfl
theorem ok_seen (T : Txt K mg) (B : DD K mg) : DFn P w K mg base 10 B.f_seen B.fd_seen p_seen F_seen := by
  have G_seen_rows : DFn P w K mg base 9 B.f_seen_rows B.fd_seen_rows p_seen_rows F_seen_rows := ok_seen_rows T B
  refine Fun.okD (k := 9) B.d_seen.F sc_seen (fun cdv A outer s H E hr => (dss_one (ds_ret (de_tuple T.b_tuple (de_lc rfl sc_seen.nd (di_z3T T.b_zip (da_cons (dv 0) (da_cons (dv 1) (da_cons (dv 2) da_nil)))) (blkOk_by (own := [("_", 3), ("columns", 4), ("bag", 5), ("right", 6)]) (N := N_seen) (sc := defScope s_seen) (by decide +kernel)) (fun _ _ _ _ _ => (dg_tup rfl (dgs_cons (dg_tup rfl (dgs_cons (dg_name (i := 3) sc_seen.nd) (dgs_cons (dg_name (i := 4) sc_seen.nd) dgs_nil)) (gsCons_len (gsCons_len gsNil_len))) (dgs_cons (dg_name (i := 5) sc_seen.nd) (dgs_cons (dg_name (i := 6) sc_seen.nd) dgs_nil))) (gsCons_len (gsCons_len (gsCons_len gsNil_len))))) (gd_tup (gds_cons (gd_tup (gds_cons gd_name (gds_cons gd_name gds_nil)) (gsCons_len (gsCons_len gsNil_len))) (gds_cons gd_name (gds_cons gd_name gds_nil))) (gsCons_len (gsCons_len (gsCons_len gsNil_len)))) (fun _ _ _ _ _ => dts_nil) (fun _ _ _ _ _ => (de_own B.d_seen_rows G_seen_rows hr (by first | decide | omega) (da_cons (dv 4) (da_cons (dv 5) (da_cons (dv 6) da_nil)))))))))) (fun ds M k h => ?_)
  obtain ⟨ts, bs, rts, outs, rfl, hl, hs, hk⟩ := h
  (refine ⟨rfl, ?_⟩; rw [show startD N_seen [.tup (ts.map tabD), .tup (bs.map bagD), .tup rts] = [some (.tup (ts.map tabD)), some (.tup (bs.map bagD)), some (.tup rts), none, none, none, none] from rfl])
  simp only [wNext, wSeq, wBreak, wContinue, wExpr, wRet, wRetN, wIfS, wSet, wAsg, wPar, wPar3, wFor, wSub, wTst, wOp, wChain, wNotT, wAndT, wOrT, wAndV, wOrV, wNotV, wIf, wNil, wCons, wTup, wLst, wLstM, wCall, wCall0, wVar, wC, wLc, wLcM, wYes, wiL, wiT, wiS, wiR, wiEnT, wiEnL, wiZip, wSl, woNone, woSome, wMt, wJoin, wGet, wUn, wTru, wDNew, fin, List.getElem?_cons_zero, List.getElem?_cons_succ, List.set_cons_zero, List.set_cons_succ, wiZ3T]
  have hz := sizeLine_eq
  refine lc_inv (G := gAny) (fun its acc M' => ∃ ts' bs' rts' os os', its = zip3D (ts'.map tabD) (bs'.map bagD) rts' ∧ SeenA ts' bs' rts' os ∧ acc = os'.map (fun o => bagD (o.mergeSort leR)) ∧ outs = os' ++ os ∧ M' = M ∧ ts'.length + acc.length ≤ 1000)
    (fun _ _ _ _ => trivial) ?_ ?_ ?_ _ _ _ ⟨ts, bs, rts, outs, [], rfl, hs, rfl, rfl, rfl, by simpa using hl⟩
  · rintro acc M' ⟨ts', bs', rts', os, os', e, h, rfl, rfl, rfl, _⟩
    cases h with
    | nil =>
      rw [List.append_nil] at hk
      exact hk
    | cons h1 h2 h3 h4 h5 => cases e
  · rintro d its acc M' ⟨ts', bs', rts', os, os', e, h, rfl, rfl, rfl, hn⟩
    cases h with
    | nil => cases e
    | @cons t ts b bs r rs o os h1 h2 h3 h4 h5 =>
      rw [List.map_cons, List.map_cons, zip3D_cons] at e
      cases e
      refine ⟨_, rfl, fun ky kn hy hn' => ?_⟩
      simp only [wNext, wSeq, wBreak, wContinue, wExpr, wRet, wRetN, wIfS, wSet, wAsg, wPar, wPar3, wFor, wSub, wTst, wOp, wChain, wNotT, wAndT, wOrT, wAndV, wOrV, wNotV, wIf, wNil, wCons, wTup, wLst, wLstM, wCall, wCall0, wVar, wC, wLc, wLcM, wYes, wiL, wiT, wiS, wiR, wiEnT, wiEnL, wiZip, wSl, woNone, woSome, wMt, wJoin, wGet, wUn, wTru, wDNew, fin, List.getElem?_cons_zero, List.getElem?_cons_succ, List.set_cons_zero, List.set_cons_succ, wipeD, List.map]
      rw [if_pos trivial]
      simp only [List.length_cons, List.length_map] at hn
      refine ⟨t.2, b, r, o, rfl, h1, h2, h3, h4, hy _ _ (by rw [List.length_map]; omega) ⟨ts, bs, rs, os, os' ++ [o], rfl, h5, by rw [List.map_append]; rfl, by simp, rfl, by simp; omega⟩⟩
  · rintro its acc M' ⟨ts', bs', rts', os, os', rfl, h, rfl, rfl, rfl, hn⟩
    have := zip3D_len (ts'.map tabD) (bs'.map bagD) rts'
    rw [List.length_map] at this
    omega
end
end K04

set_option autoImplicit false
set_option maxRecDepth 100000
set_option maxHeartbeats 4000000
namespace K04
open PySem PySem.Spec PyProof.Rows L2 DL
section
variable {P : Program} {w : World} {K : PySem.W.Frag} {mg : Str → Option Value} {base : Heap}
/-! drawn rows -/
def pfD (n : Nat) (ds : List D) : List D := (ds.zipIdx n).map fun (d, i) => .tup [.int (i : Nat), d]
theorem pfD_0 (ds : List D) : pairsFrom ds = pfD 0 ds := rfl
theorem pfD_cons (n : Nat) (d : D) (ds : List D) : pfD n (d :: ds) = .tup [.int (n : Nat), d] :: pfD (n + 1) ds := by
  unfold pfD; rw [List.zipIdx_cons]; rfl
theorem rowF_snoc : ∀ {cs : Cols} {ws : List D} {c : Str × Str} {d : D}, RowF cs ws → WFit c.2 d → RowF (cs ++ [c]) (ws ++ [d])
  | _, _, _, _, .nil, h => .cons h .nil
  | _, _, _, _, .cons a t, h => .cons a (rowF_snoc t h)
theorem wo_of {kd : Str} {d : D} (h : WFit kd d) : ∃ x : Wo, d = woD x := by
  cases h with
  | non => exact ⟨.non, rfl⟩
  | num i _ => exact ⟨.num i, rfl⟩
  | nam s _ => exact ⟨.txt s, rfl⟩
def F_lrowC : FD := fun ds M k => ∃ h n cs, ds = [.cel h, colsD cs] ∧ Hn M h n ∧ n + 30 ≤ 1000000000 ∧ cs ≠ [] ∧ cs.length ≤ 4 ∧ (∀ c ∈ cs, Kd c.2) ∧ ∀ r M', RowG cs r → (∀ x, r[0]? = some x → x ≠ Wo.non) → Hn M' h (n + 4) → Ex h M M' → k (rowD r) M'
theorem ok_lrowC (T : Txt K mg) (B : DD K mg) : DFn P w K mg base 4 B.f_law_row B.fd_law_row p_law_row F_lrowC := by
  have G_law_worth : DFn P w K mg base 3 B.f_law_worth B.fd_law_worth p_law_worth F_worth := ok_worth T B
  refine Fun.okD B.d_law_row.F sc_law_row (fun cdv A outer s H E hr => (dss_one (ds_ret (de_tuple T.b_tuple (de_lc rfl sc_law_row.nd (di_enumT T.b_enumerate (da_cons (dv 1) da_nil)) (blkOk_by (own := [("at", 2), ("name", 3), ("kind", 4)]) (N := N_law_row) (sc := defScope s_law_row) (by decide +kernel)) (fun _ _ _ _ _ => (dg_tup rfl (dgs_cons (dg_name (i := 2) sc_law_row.nd) (dgs_cons (dg_tup rfl (dgs_cons (dg_name (i := 3) sc_law_row.nd) (dgs_cons (dg_name (i := 4) sc_law_row.nd) dgs_nil)) (gsCons_len (gsCons_len gsNil_len))) dgs_nil)) (gsCons_len (gsCons_len gsNil_len)))) (gd_tup (gds_cons gd_name (gds_cons (gd_tup (gds_cons gd_name (gds_cons gd_name gds_nil)) (gsCons_len (gsCons_len gsNil_len))) gds_nil)) (gsCons_len (gsCons_len gsNil_len))) (fun _ _ _ _ _ => dts_nil) (fun _ _ _ _ _ => (de_own B.d_law_worth G_law_worth hr (by first | decide | omega) (da_cons (dv 0) (da_cons (dv 4) (da_cons (de_cmpA (c_eq hr) (dv 2) de_int) da_nil)))))))))) (fun ds M k h => ?_)
  obtain ⟨h, n, cs, rfl, hh, hn, ne, c4, kd, hk⟩ := h
  (refine ⟨rfl, ?_⟩; rw [show startD N_law_row [.cel h, colsD cs] = [some (.cel h), some (colsD cs), none, none, none] from rfl])
  simp only [wNext, wSeq, wBreak, wContinue, wExpr, wRet, wRetN, wIfS, wSet, wAsg, wPar, wPar3, wFor, wSub, wTst, wOp, wChain, wNotT, wAndT, wOrT, wAndV, wOrV, wNotV, wIf, wNil, wCons, wTup, wLst, wLstM, wCall, wCall0, wVar, wC, wLc, wLcM, wYes, wiL, wiT, wiS, wiR, wiEnT, wiEnL, wiZip, wSl, woNone, woSome, wMt, wJoin, wGet, wUn, wTru, wDNew, fin, List.getElem?_cons_zero, List.getElem?_cons_succ, List.set_cons_zero, List.set_cons_succ, colsD]
  have hz := sizeLine_eq
  refine lc_inv (G := gAny) (fun its acc M' => ∃ c1 c2 r, cs = c1 ++ c2 ∧ its = pfD c1.length (c2.map colD) ∧ acc = r.map woD ∧ RowF c1 (r.map woD) ∧ (∀ x, r[0]? = some x → x ≠ Wo.non) ∧ Hn M' h (n + c1.length) ∧ Ex h M M')
    (fun _ _ _ _ => trivial) ?_ ?_ ?_ _ _ _ ⟨[], cs, [], rfl, rfl, rfl, .nil, fun x z => (by cases z), hh, Ex.refl h M⟩
  · rintro acc M' ⟨c1, c2, r, e, ei, rfl, h1, h2, h3, h4⟩
    cases c2 with
    | cons c c2 => rw [List.map_cons, pfD_cons] at ei; cases ei
    | nil =>
      rw [List.append_nil] at e
      subst e
      exact hk r M' h1 h2 (h3.up (by omega)) h4
  · rintro d its acc M' ⟨c1, c2, r, e, ei, rfl, h1, h2, h3, h4⟩
    cases c2 with
    | nil => cases ei
    | cons c c2 =>
      rw [List.map_cons, pfD_cons] at ei
      cases ei
      refine ⟨_, rfl, fun ky kn hy hn' => ?_⟩
      simp only [wNext, wSeq, wBreak, wContinue, wExpr, wRet, wRetN, wIfS, wSet, wAsg, wPar, wPar3, wFor, wSub, wTst, wOp, wChain, wNotT, wAndT, wOrT, wAndV, wOrV, wNotV, wIf, wNil, wCons, wTup, wLst, wLstM, wCall, wCall0, wVar, wC, wLc, wLcM, wYes, wiL, wiT, wiS, wiR, wiEnT, wiEnL, wiZip, wSl, woNone, woSome, wMt, wJoin, wGet, wUn, wTru, wDNew, fin, List.getElem?_cons_zero, List.getElem?_cons_succ, List.set_cons_zero, List.set_cons_succ, wipeD, List.map]
      rw [if_pos trivial]
      refine eq_int ?_
      have l1 : r.length = c1.length := by have := Paired.length h1; rw [List.length_map] at this; exact this.symm
      have lc : c1.length + (c2.length + 1) ≤ 4 := by rw [e] at c4; simpa using c4
      refine ⟨h, _, c.2, _, rfl, h3, by omega, kd c (by rw [e]; simp), fun d M2 hd hne h5 e5 => ?_⟩
      obtain ⟨x, rfl⟩ := wo_of hd
      refine hy _ _ (by rw [List.length_map]; omega) ⟨c1 ++ [c], c2, r ++ [x], by rw [e]; simp, by simp, by rw [List.map_append]; rfl, by rw [List.map_append]; exact rowF_snoc h1 hd, fun y hy0 => ?_, ?_, h4.trans e5⟩
      · cases r with
        | nil =>
          have e0 : c1.length = 0 := by simpa using l1.symm
          have : x = y := by simpa using hy0
          subst this
          intro z
          subst z
          exact hne (by simp [id, e0]) rfl
        | cons a r => exact h2 y (by simpa using hy0)
      · exact h5.up (by simp; omega)
  · rintro its acc M' ⟨c1, c2, r, e, rfl, rfl, h1, _⟩
    have l1 := Paired.length h1
    rw [List.length_map] at l1 ⊢
    have lc : c1.length + c2.length ≤ 4 := by rw [e] at c4; simpa using c4
    unfold pfD
    simp only [List.length_map, List.length_zipIdx]
    omega
end
end K04

set_option autoImplicit false
set_option maxRecDepth 100000
set_option maxHeartbeats 4000000
namespace K04
open PySem PySem.Spec PyProof.Rows L2 DL
section
variable {P : Program} {w : World} {K : PySem.W.Frag} {mg : Str → Option Value} {base : Heap}
/-! the law's own tables: a dict of dicts -/
def keyR : Row → Key
  | .num i :: _ => .inl i
  | .txt s :: _ => .inr s
  | _ => .inl 0
def rowsK (rs : List Row) : List (Key × D) := rs.map fun r => (keyR r, rowD r)
def tabK (ts : List (Str × Cols)) (ps : List Addr) : List (Key × D) := List.zipWith (fun t p => (.inr t.1, .cel p)) ts ps
structure TabG (cs : Cols) (n : Nat) (rs : List Row) : Prop where
  fit : ∀ r ∈ rs, RowG cs r
  key : ∀ r ∈ rs, ∀ x, r[0]? = some x → x ≠ Wo.non
  nd : (rs.map keyR).Nodup
  ln : rs.length ≤ n
inductive TabsQ (M : Mem) (n : Nat) : List (Str × Cols) → List Addr → List (List Row) → Prop
  | nil : TabsQ M n [] [] []
  | cons {t : Str × Cols} {ts : List (Str × Cols)} {p : Addr} {ps : List Addr} {rs : List Row} {tr : List (List Row)} : M p = some (.dct (rowsK rs)) → TabG t.2 n rs → TabsQ M n ts ps tr → TabsQ M n (t :: ts) (p :: ps) (rs :: tr)
structure TabsT (M : Mem) (h tb : Addr) (n : Nat) (ts : List (Str × Cols)) (ps : List Addr) (tr : List (List Row)) : Prop where
  top : M tb = some (.dct (tabK ts ps))
  all : TabsQ M n ts ps tr
  un : (h :: tb :: ps).Nodup
theorem TabsQ.at_ {M : Mem} {n : Nat} {ts : List (Str × Cols)} {ps : List Addr} {tr : List (List Row)} (h : TabsQ M n ts ps tr) : (ts.map (·.1)).Nodup → ∀ {t : Str × Cols}, t ∈ ts →
    ∃ (i : Nat) (p : Addr) (rs : List Row), ts[i]? = some t ∧ ps[i]? = some p ∧ tr[i]? = some rs ∧ lookD (tabK ts ps) (.inr t.1) = some (.cel p) ∧ M p = some (.dct (rowsK rs)) ∧ TabG t.2 n rs := by
  induction h with
  | nil => intro _ t ht; cases ht
  | @cons t0 ts p ps rs tr h1 h2 h3 ih =>
    intro nd t ht
    have nd' := List.nodup_cons.mp nd
    rcases List.mem_cons.mp ht with rfl | ht
    · refine ⟨0, p, rs, rfl, rfl, rfl, ?_, h1, h2⟩
      unfold tabK lookD
      rw [List.zipWith_cons_cons, List.find?_cons]; simp
    · obtain ⟨i, p', rs', a1, a2, a3, a4, a5, a6⟩ := ih nd'.2 ht
      refine ⟨i + 1, p', rs', by simpa using a1, by simpa using a2, by simpa using a3, ?_, a5, a6⟩
      have ne : t0.1 ≠ t.1 := fun z => nd'.1 (by show t0.1 ∈ _; rw [z]; exact List.mem_map_of_mem (f := fun x : Str × Cols => x.1) ht)
      have ne' : ¬ (Sum.inr t0.1 : Key) = Sum.inr t.1 := fun z => ne (Sum.inr.inj z)
      unfold tabK lookD at a4 ⊢
      rw [List.zipWith_cons_cons, List.find?_cons]
      simp only [ne', decide_false]
      exact a4
theorem rowsK_snd (rs : List Row) : (rowsK rs).map (·.2) = rs.map rowD := by unfold rowsK; rw [List.map_map]; rfl
theorem TabG.rows {cs : Cols} {n : Nat} {rs : List Row} (h : TabG cs n rs) (ne : cs ≠ []) (hl : cs.length ≤ 1000) : RowsN n rs := by
  refine ⟨fun r hr => ⟨fun z => ?_, (h.fit r hr).wo⟩, fun r hr => ?_, h.ln⟩
  · have := (h.fit r hr).len
    rw [z] at this
    exact ne (List.length_eq_zero_iff.mp this.symm)
  · rw [(h.fit r hr).len]; exact hl
def F_lstoreC : FD := fun ds M k => ∃ h tb n ts ps tr, ds = [.tup (ts.map tabD), .cel tb] ∧ TabsT M h tb n ts ps tr ∧ n ≤ 1000 ∧ ts.length ≤ 1000 ∧ (ts.map (·.1)).Nodup ∧ (∀ t ∈ ts, t.2 ≠ [] ∧ t.2.length ≤ 1000) ∧ k (.tup (tr.map fun rs => bagD (rs.mergeSort leR))) M
theorem ok_lstoreC (T : Txt K mg) (B : DD K mg) (L : Lams K mg base B) : DFn P w K mg base 9 B.f_law_store B.fd_law_store p_law_store F_lstoreC := by
  have G_law_bag : DFn P w K mg base 8 B.f_law_bag B.fd_law_bag p_law_bag F_lbagW := ok_lbagW T B L
  refine Fun.okD (k := 8) B.d_law_store.F sc_law_store (fun cdv A outer s H E hr => (dss_one (ds_ret (de_tuple T.b_tuple (de_lc rfl sc_law_store.nd (di_tup (dv 0)) (blkOk_by (own := [("name", 2), ("columns", 3)]) (N := N_law_store) (sc := defScope s_law_store) (by decide +kernel)) (fun _ _ _ _ _ => (dg_tup rfl (dgs_cons (dg_name (i := 2) sc_law_store.nd) (dgs_cons (dg_name (i := 3) sc_law_store.nd) dgs_nil)) (gsCons_len (gsCons_len gsNil_len)))) (gd_tup (gds_cons gd_name (gds_cons gd_name gds_nil)) (gsCons_len (gsCons_len gsNil_len))) (fun _ _ _ _ _ => dts_nil) (fun _ _ _ _ _ => (de_own B.d_law_bag G_law_bag hr (by first | decide | omega) (da_cons (de_listV rfl T.b_list (de_get (hu_of hr.r) (dv 1) (dv 2))) da_nil)))))))) (fun ds M k h => ?_)
  obtain ⟨h, tb, n, ts, ps, tr, rfl, hT, hn, hl, nd, hc, hk⟩ := h
  (refine ⟨rfl, ?_⟩; rw [show startD N_law_store [.tup (ts.map tabD), .cel tb] = [some (.tup (ts.map tabD)), some (.cel tb), none, none] from rfl])
  simp only [wNext, wSeq, wBreak, wContinue, wExpr, wRet, wRetN, wIfS, wSet, wAsg, wPar, wPar3, wFor, wSub, wTst, wOp, wChain, wNotT, wAndT, wOrT, wAndV, wOrV, wNotV, wIf, wNil, wCons, wTup, wLst, wLstM, wCall, wCall0, wVar, wC, wLc, wLcM, wYes, wiL, wiT, wiS, wiR, wiEnT, wiEnL, wiZip, wSl, woNone, woSome, wMt, wJoin, wGet, wUn, wTru, wDNew, fin, List.getElem?_cons_zero, List.getElem?_cons_succ, List.set_cons_zero, List.set_cons_succ, wNever, wDel, wInK, wDcK, wPut, wListV]
  have hz := sizeLine_eq
  have len : tr.length = ts.length := by
    have := hT.all
    clear hT nd hc hk hl
    induction this with
    | nil => rfl
    | cons _ _ _ ih => simp [ih]
  refine lc_inv (G := gAny) (fun its acc M' => ∃ i : Nat, its = (ts.drop i).map tabD ∧ acc = (tr.take i).map (fun rs => bagD (rs.mergeSort leR)) ∧ i ≤ ts.length ∧ M' = M)
    (fun _ _ _ _ => trivial) ?_ ?_ ?_ _ _ _ ⟨0, rfl, by simp, Nat.zero_le _, rfl⟩
  · rintro acc M' ⟨i, e, rfl, hi, rfl⟩
    have : ts.length ≤ i := by
      have := congrArg List.length e
      simp at this
      omega
    rw [List.take_of_length_le (by omega)]
    exact hk
  · rintro d its acc M' ⟨i, e, rfl, hi, rfl⟩
    have hlt : i < ts.length := by
      have := congrArg List.length e
      simp at this
      omega
    rw [List.drop_eq_getElem_cons hlt, List.map_cons] at e
    cases e
    refine ⟨_, rfl, fun ky kn hy hn' => ?_⟩
    simp only [wNext, wSeq, wBreak, wContinue, wExpr, wRet, wRetN, wIfS, wSet, wAsg, wPar, wPar3, wFor, wSub, wTst, wOp, wChain, wNotT, wAndT, wOrT, wAndV, wOrV, wNotV, wIf, wNil, wCons, wTup, wLst, wLstM, wCall, wCall0, wVar, wC, wLc, wLcM, wYes, wiL, wiT, wiS, wiR, wiEnT, wiEnL, wiZip, wSl, woNone, woSome, wMt, wJoin, wGet, wUn, wTru, wDNew, fin, List.getElem?_cons_zero, List.getElem?_cons_succ, List.set_cons_zero, List.set_cons_succ, wNever, wDel, wInK, wDcK, wPut, wListV, wipeD, List.map]
    rw [if_pos trivial]
    have hm := List.getElem_mem hlt
    obtain ⟨j, p, rs, b1, b2, b3, b4, b5, b6⟩ := hT.all.at_ nd hm
    have ej : j = i := by
      have hj := (List.getElem?_eq_some_iff.mp b1)
      have pw := List.pairwise_iff_getElem.mp nd
      obtain ⟨hj1, hj2⟩ := hj
      have e1 : (ts.map (·.1))[j]'(by simpa using hj1) = (ts.map (·.1))[i]'(by simpa using hlt) := by simp [hj2]
      rcases Nat.lt_trichotomy j i with z | z | z
      · exact absurd e1 (pw _ _ _ _ z)
      · exact z
      · exact absurd e1.symm (pw _ _ _ _ z)
    subst ej
    have lt : j < tr.length := by omega
    refine r_get hT.top b4 ⟨p, _, rfl, b5, ?_⟩
    rw [rowsK_snd]
    refine ⟨rs, _, n, rfl, rfl, b6.rows (hc _ hm).1 (hc _ hm).2, by omega, hy _ _ (by rw [List.length_map, List.length_take]; omega) ⟨j + 1, rfl, ?_, by omega, rfl⟩⟩
    rw [List.take_add_one, b3, List.map_append]
    rfl
  · rintro its acc M' ⟨i, rfl, rfl, hi, rfl⟩
    simp; omega
end
end K04

set_option autoImplicit false
set_option maxRecDepth 100000
set_option maxHeartbeats 4000000
namespace K04
open PySem PySem.Spec PyProof.Rows L2 DL
/-! a row is put into a table, or dropped -/
def putR (rs : List Row) (r : Row) : List Row := if rs.any (fun x => decide (keyR x = keyR r)) = true then rs.map (fun x => if keyR x = keyR r then r else x) else rs ++ [r]
def dropR (rs : List Row) (κ : Key) : List Row := rs.filter fun r => decide (keyR r ≠ κ)
theorem rowsK_drop (rs : List Row) (κ : Key) : rowsK (dropR rs κ) = dropD (rowsK rs) κ := by
  unfold rowsK dropR dropD
  rw [List.filter_map]
  rfl
theorem rowsK_put (rs : List Row) (r : Row) : rowsK (putR rs r) = putD (rowsK rs) (keyR r) (rowD r) := by
  unfold putR putD rowsK
  rw [List.any_map]
  by_cases h : rs.any (fun x => decide (keyR x = keyR r)) = true
  · rw [if_pos h, if_pos (by exact h), List.map_map, List.map_map]
    refine List.map_congr_left fun x _ => ?_
    show (keyR (if keyR x = keyR r then r else x), rowD (if keyR x = keyR r then r else x)) = if keyR x = keyR r then (keyR x, rowD r) else (keyR x, rowD x)
    by_cases e : keyR x = keyR r
    · rw [if_pos e, if_pos e, e]
    · rw [if_neg e, if_neg e]
  · rw [if_neg h, if_neg (by exact h), List.map_append]
    rfl
theorem TabG.drop {cs : Cols} {n : Nat} {rs : List Row} (h : TabG cs n rs) (κ : Key) : TabG cs n (dropR rs κ) := by
  unfold dropR
  refine ⟨fun r hr => h.fit r (List.mem_filter.mp hr).1, fun r hr => h.key r (List.mem_filter.mp hr).1, h.nd.sublist (List.filter_sublist.map _), Nat.le_trans (List.length_filter_le _ _) h.ln⟩
theorem TabG.put {cs : Cols} {n : Nat} {rs : List Row} {r : Row} (h : TabG cs n rs) (h1 : RowG cs r) (h2 : ∀ x, r[0]? = some x → x ≠ Wo.non) : TabG cs (n + 1) (putR rs r) := by
  unfold putR
  by_cases hc : rs.any (fun x => decide (keyR x = keyR r)) = true
  · rw [if_pos hc]
    have ek : (rs.map (fun x => if keyR x = keyR r then r else x)).map keyR = rs.map keyR := by
      rw [List.map_map]
      refine List.map_congr_left fun x _ => ?_
      show keyR (if keyR x = keyR r then r else x) = keyR x
      by_cases e : keyR x = keyR r
      · rw [if_pos e, e]
      · rw [if_neg e]
    refine ⟨fun x hx => ?_, fun x hx => ?_, by rw [ek]; exact h.nd, by rw [List.length_map]; exact Nat.le_succ_of_le h.ln⟩
    · obtain ⟨y, hy, rfl⟩ := List.mem_map.mp hx
      by_cases e : keyR y = keyR r
      · rw [if_pos e]; exact h1
      · rw [if_neg e]; exact h.fit y hy
    · obtain ⟨y, hy, rfl⟩ := List.mem_map.mp hx
      by_cases e : keyR y = keyR r
      · rw [if_pos e]; exact h2
      · rw [if_neg e]; exact h.key y hy
  · rw [if_neg hc]
    refine ⟨fun x hx => ?_, fun x hx => ?_, ?_, by rw [List.length_append]; exact Nat.succ_le_succ h.ln⟩
    · rcases List.mem_append.mp hx with z | z
      · exact h.fit x z
      · rw [List.mem_singleton.mp z]; exact h1
    · rcases List.mem_append.mp hx with z | z
      · exact h.key x z
      · rw [List.mem_singleton.mp z]; exact h2
    · rw [List.map_append, List.nodup_append]
      refine ⟨h.nd, List.nodup_cons.mpr ⟨List.not_mem_nil, List.nodup_nil⟩, fun a ha b hb e => hc ?_⟩
      obtain ⟨x, hx, rfl⟩ := List.mem_map.mp ha
      have hb' : b = keyR r := by simpa using hb
      rw [hb'] at e
      exact List.any_eq_true.mpr ⟨x, hx, decide_eq_true e⟩
theorem TabG.up {cs : Cols} {n m : Nat} {rs : List Row} (h : TabG cs n rs) (l : n ≤ m) : TabG cs m rs := ⟨h.fit, h.key, h.nd, Nat.le_trans h.ln l⟩
theorem TabsQ.up {M M' : Mem} {n m : Nat} {ts : List (Str × Cols)} {ps : List Addr} {tr : List (List Row)} (h : TabsQ M n ts ps tr) (l : n ≤ m) : (∀ p ∈ ps, M' p = M p) → TabsQ M' m ts ps tr := by
  induction h with
  | nil => intro _; exact .nil
  | cons h1 h2 h3 ih => intro e; exact .cons (by rw [e _ List.mem_cons_self]; exact h1) (h2.up l) (ih fun p hp => e p (List.mem_cons_of_mem _ hp))
theorem TabsT.frame {M M' : Mem} {h tb : Addr} {n m : Nat} {ts : List (Str × Cols)} {ps : List Addr} {tr : List (List Row)} (q : TabsT M h tb n ts ps tr) (l : n ≤ m) (e : ∀ a, a = tb ∨ a ∈ ps → M' a = M a) : TabsT M' h tb m ts ps tr :=
  ⟨by rw [e tb (.inl rfl)]; exact q.top, q.all.up l fun p hp => e p (.inr hp), q.un⟩
theorem TabsQ.cell {M : Mem} {n : Nat} {ts : List (Str × Cols)} {ps : List Addr} {tr : List (List Row)} (h : TabsQ M n ts ps tr) : ∀ p ∈ ps, ∃ c, M p = some c := by
  induction h with
  | nil => intro p hp; cases hp
  | cons h1 _ _ ih =>
    intro p hp
    rcases List.mem_cons.mp hp with rfl | hp
    · exact ⟨_, h1⟩
    · exact ih p hp
theorem TabsT.ex {M M' : Mem} {h tb : Addr} {n : Nat} {ts : List (Str × Cols)} {ps : List Addr} {tr : List (List Row)} (q : TabsT M h tb n ts ps tr) (e : Ex h M M') : TabsT M' h tb n ts ps tr := by
  obtain ⟨u1, u2⟩ := List.nodup_cons.mp q.un
  refine q.frame (Nat.le_refl _) fun a ha => ?_
  have ne : a ≠ h := fun z => u1 (by rw [← z]; rcases ha with rfl | ha; exact List.mem_cons_self; exact List.mem_cons_of_mem _ ha)
  obtain ⟨c, hc⟩ : ∃ c, M a = some c := by
    rcases ha with rfl | ha
    · exact ⟨_, q.top⟩
    · exact q.all.cell a ha
  rw [hc]; exact e a c ne hc
/-- one table changed -/
theorem TabsQ.set {M : Mem} {n m : Nat} {ts : List (Str × Cols)} {ps : List Addr} {tr : List (List Row)} (h : TabsQ M n ts ps tr) (l : n ≤ m) : ps.Nodup → ∀ {i : Nat} {t : Str × Cols} {p : Addr} {rs' : List Row}, ts[i]? = some t → ps[i]? = some p → TabG t.2 m rs' →
    TabsQ (setM M p (.dct (rowsK rs'))) m ts ps (tr.set i rs') := by
  induction h with
  | nil => intro _ i t p rs' e; cases e
  | @cons t0 ts p0 ps rs tr h1 h2 h3 ih =>
    intro nd i t p rs' e1 e2 g
    obtain ⟨nd1, nd2⟩ := List.nodup_cons.mp nd
    cases i with
    | zero =>
      simp only [List.getElem?_cons_zero, Option.some.injEq] at e1 e2
      subst e1
      subst e2
      exact .cons setM_same g (h3.up l fun p hp => setM_ne fun z => nd1 (z ▸ hp))
    | succ i =>
      simp only [List.getElem?_cons_succ] at e1 e2
      have ne : p0 ≠ p := fun z => nd1 (z ▸ List.mem_of_getElem? e2)
      exact .cons (by rw [setM_ne ne]; exact h1) (h2.up l) (ih nd2 e1 e2 g)
theorem TabsT.set {M : Mem} {h tb : Addr} {n m : Nat} {ts : List (Str × Cols)} {ps : List Addr} {tr : List (List Row)} (q : TabsT M h tb n ts ps tr) (l : n ≤ m) {i : Nat} {t : Str × Cols} {p : Addr} {rs' : List Row} (e1 : ts[i]? = some t) (e2 : ps[i]? = some p) (g : TabG t.2 m rs') :
    TabsT (setM M p (.dct (rowsK rs'))) h tb m ts ps (tr.set i rs') := by
  obtain ⟨u1, u2⟩ := List.nodup_cons.mp q.un
  obtain ⟨u3, u4⟩ := List.nodup_cons.mp u2
  exact ⟨by rw [setM_ne (show tb ≠ p from fun z => u3 (by rw [z]; exact List.mem_of_getElem? e2))]; exact q.top, q.all.set l u4 e1 e2 g, q.un⟩
/-- the keys of a table -/
theorem keys_num {a : Str} {cs : Cols} {n : Nat} {rs : List Row} (h : TabG ((a, Str.ofString "number") :: cs) n rs) : ∃ l, intKeys (rowsK rs) = some l ∧ rs.map keyR = l.map Sum.inl := by
  have h1 := h.fit
  have h2 := h.key
  clear h
  induction rs with
  | nil => exact ⟨[], rfl, rfl⟩
  | cons r rs ih =>
    obtain ⟨l, e1, e2⟩ := ih (fun x hx => h1 x (List.mem_cons_of_mem _ hx)) fun x hx => h2 x (List.mem_cons_of_mem _ hx)
    have f := h1 r List.mem_cons_self
    have g := h2 r List.mem_cons_self
    cases r with
    | nil => cases f
    | cons x r =>
      cases f with
      | cons fx _ =>
        cases x with
        | non => exact absurd rfl (g .non rfl)
        | num i => exact ⟨i :: l, by unfold rowsK at e1 ⊢; rw [List.map_cons, keyR, intKeys, e1]; rfl, by rw [List.map_cons, e2]; rfl⟩
        | txt s => exact absurd fx (by intro z; generalize hk : Str.ofString "number" = kd at z; cases z; exact absurd hk (by decide +kernel))
theorem keys_txt {a : Str} {cs : Cols} {n : Nat} {rs : List Row} (h : TabG ((a, Str.ofString "name") :: cs) n rs) : ∃ l, txtKeys (rowsK rs) = some l ∧ rs.map keyR = l.map Sum.inr ∧ ∀ s ∈ l, isNm s = true := by
  have h1 := h.fit
  have h2 := h.key
  clear h
  induction rs with
  | nil => exact ⟨[], rfl, rfl, fun s hs => by cases hs⟩
  | cons r rs ih =>
    obtain ⟨l, e1, e2, e3⟩ := ih (fun x hx => h1 x (List.mem_cons_of_mem _ hx)) fun x hx => h2 x (List.mem_cons_of_mem _ hx)
    have f := h1 r List.mem_cons_self
    have g := h2 r List.mem_cons_self
    cases r with
    | nil => cases f
    | cons x r =>
      cases f with
      | cons fx _ =>
        cases x with
        | non => exact absurd rfl (g .non rfl)
        | num i => exact absurd fx (by intro z; generalize hk : Str.ofString "name" = kd at z; cases z; exact absurd hk (by decide +kernel))
        | txt s =>
          refine ⟨s :: l, by unfold rowsK at e1 ⊢; rw [List.map_cons, keyR, txtKeys, e1], by rw [List.map_cons, e2]; rfl, fun y hy => ?_⟩
          rcases List.mem_cons.mp hy with rfl | hy
          · cases fx with
            | nam _ hs => exact hs
          · exact e3 y hy
end K04

set_option autoImplicit false
set_option maxRecDepth 100000
set_option maxHeartbeats 4000000
namespace K04
open PySem PySem.Spec PyProof.Rows L2 DL
section
variable {P : Program} {w : World} {K : PySem.W.Frag} {mg : Str → Option Value} {base : Heap}
/-! the law's own dealing -/
def F_dealC : FD := fun ds M k => ∃ h m tb n ts ps tr, ds = [.cel h, .tup (ts.map tabD), .cel tb, .int 5] ∧ PlanN ts ∧ TabsT M h tb n ts ps tr ∧ n + 5 ≤ 60 ∧ Hn M h m ∧ m + 200 ≤ 1000000000 ∧ ∀ x M' tr', TabsT M' h tb (n + 5) ts ps tr' → Hn M' h (m + 60) → k x M'
theorem TabsT.apart {M : Mem} {h tb : Addr} {n : Nat} {ts : List (Str × Cols)} {ps : List Addr} {tr : List (List Row)} (q : TabsT M h tb n ts ps tr) {a : Addr} (ha : M a = none) {c : Cell} : TabsT (setM M a c) h tb n ts ps tr :=
  q.frame (Nat.le_refl _) fun b hb => setM_ne fun z => by
    subst z
    rcases hb with rfl | hb
    · rw [q.top] at ha; cases ha
    · obtain ⟨c, hc⟩ := q.all.cell _ hb
      rw [hc] at ha; cases ha
theorem TabsT.other {M : Mem} {h tb : Addr} {n : Nat} {ts : List (Str × Cols)} {ps : List Addr} {tr : List (List Row)} (q : TabsT M h tb n ts ps tr) {a : Addr} (ha : a ≠ tb) (hp : a ∉ ps) {c : Cell} : TabsT (setM M a c) h tb n ts ps tr :=
  q.frame (Nat.le_refl _) fun b hb => setM_ne fun z => by
    subst z
    rcases hb with rfl | hb
    · exact ha rfl
    · exact hp hb
theorem clean_ints : ∀ l : List Int, cleans (l.map D.int) = true
  | [] => by simp [cleans]
  | i :: l => by simp [cleans, clean, clean_ints l]
theorem deep_ints : ∀ l : List Int, deeps (l.map D.int) ≤ 1
  | [] => by simp [deeps]
  | i :: l => by have := deep_ints l; simp [deeps, deep]; omega
theorem clean_strs' : ∀ l : List Str, (∀ s ∈ l, PyData.strOk s = true) → cleans (l.map D.str) = true
  | [], _ => by simp [cleans]
  | s :: l, h => by simp [cleans, clean, clean_strs' l fun x hx => h x (List.mem_cons_of_mem _ hx), h s List.mem_cons_self]
theorem deep_strs' : ∀ l : List Str, deeps (l.map D.str) ≤ 1
  | [] => by simp [deeps]
  | s :: l => by have := deep_strs' l; simp [deeps, deep]; omega
theorem sort_keys {M : Mem} {p : Addr} {k : KD} {cs : Cols} {n : Nat} {rs : List Row} (g : TabG cs n rs) (ne : cs ≠ []) (kd : ∀ c ∈ cs, Kd c.2) (hn : n < 64) (em : M p = some (.dct (rowsK rs)))
    (hk : ∀ ls : List D, ls.length = rs.length → cleans ls = true → deeps ls ≤ 63 → (∀ d ∈ ls, ∃ κ, keyD d = some κ ∧ κ ∈ rs.map keyR) → k (.lst ls) M) : rdSortDX [.cel p] M k := by
  have hl : (rowsK rs).length < 64 := by unfold rowsK; rw [List.length_map]; have := g.ln; omega
  cases cs with
  | nil => exact absurd rfl ne
  | cons c cs =>
    obtain ⟨a, kk⟩ := c
    rcases kd (a, kk) List.mem_cons_self with z | z
    · have z : kk = Str.ofString "number" := z
      subst z
      obtain ⟨l, e1, e2⟩ := keys_num g
      refine ⟨p, _, rfl, em, hl, .inl ⟨l, e1, fun ys hy _ => hk _ ?_ (clean_ints ys) (Nat.le_trans (deep_ints ys) (by omega)) fun d hd => ?_⟩⟩
      · have := congrArg List.length e2; simp only [List.length_map] at this; rw [List.length_map, hy.length_eq, ← this]
      · obtain ⟨y, hy', rfl⟩ := List.mem_map.mp hd
        exact ⟨.inl y, rfl, by rw [e2]; exact List.mem_map_of_mem (hy.mem_iff.mp hy')⟩
    · have z : kk = Str.ofString "name" := z
      subst z
      obtain ⟨l, e1, e2, e3⟩ := keys_txt g
      refine ⟨p, _, rfl, em, hl, .inr ⟨l, e1, fun ys hy _ => hk _ ?_ (clean_strs' ys fun s hs => ok_nm (e3 s (hy.mem_iff.mp hs))) (Nat.le_trans (deep_strs' ys) (by omega)) fun d hd => ?_⟩⟩
      · have := congrArg List.length e2; simp only [List.length_map] at this; rw [List.length_map, hy.length_eq, ← this]
      · obtain ⟨y, hy', rfl⟩ := List.mem_map.mp hd
        exact ⟨.inr y, rfl, by rw [e2]; exact List.mem_map_of_mem (hy.mem_iff.mp hy')⟩
theorem look_rowsK {κ : Key} : ∀ {rs : List Row}, κ ∈ rs.map keyR → ∃ z, lookD (rowsK rs) κ = some z
  | [], h => by cases h
  | r :: rs, h => by
    unfold lookD rowsK
    rw [List.map_cons, List.find?_cons]
    by_cases e : keyR r = κ
    · exact ⟨rowD r, by simp [e]⟩
    · have h' : κ ∈ rs.map keyR := by
        rcases List.mem_cons.mp h with z | z
        · exact absurd z.symm e
        · exact z
      obtain ⟨z, hz⟩ := look_rowsK h'
      unfold lookD rowsK at hz
      exact ⟨z, by simp only [e, decide_false]; exact hz⟩
theorem ok_dealC (T : Txt K mg) (B : DD K mg) : DFn P w K mg base 6 B.f_law_dealing B.fd_law_dealing p_law_dealing F_dealC := by
  have G_law_take : DFn P w K mg base 1 B.f_law_take B.fd_law_take p_law_take F_take := ok_take T B
  have G_law_pick : DFn P w K mg base 2 B.f_law_pick B.fd_law_pick p_law_pick F_pick := ok_pick T B
  have G_law_row : DFn P w K mg base 4 B.f_law_row B.fd_law_row p_law_row F_lrowC := ok_lrowC T B
  refine Fun.okD (k := 5) B.d_law_dealing.F sc_law_dealing (fun cdv A outer s H E hr => (dss_cons (ds_set (i := 4) sc_law_dealing.nd (de_lstM da_nil)) (dss_cons (ds_for rfl (di_range T.b_range (da_cons (de_own B.d_law_take G_law_take hr (by first | decide | omega) (da_cons (dv 0) (da_cons (de_add (dv 3) de_int) da_nil))) da_nil)) (dg_name (i := 5) sc_law_dealing.nd) (dss_cons (ds_asg (dg_tup rfl (dgs_cons (dg_name (i := 6) sc_law_dealing.nd) (dgs_cons (dg_name (i := 7) sc_law_dealing.nd) dgs_nil)) (gsCons_len (gsCons_len gsNil_len))) (de_own B.d_law_pick G_law_pick hr (by first | decide | omega) (da_cons (dv 0) (da_cons (dv 1) da_nil)))) (dss_cons (ds_set (i := 8) sc_law_dealing.nd (de_sortDX rfl T.b_sorted (de_get (hu_of hr.r) (dv 2) (dv 6)))) (dss_one (ds_if (dw_pt (dw_and (dt_cmpA (c_ne hr) (dv 8) (de_lst da_nil)) (dw_and1 (dt_cmpA (c_eq hr) (de_own B.d_law_take G_law_take hr (by first | decide | omega) (da_cons (dv 0) (da_cons de_int da_nil))) de_int)))) (dss_cons (ds_set (i := 9) sc_law_dealing.nd (de_own B.d_law_pick G_law_pick hr (by first | decide | omega) (da_cons (dv 0) (da_cons (dv 8) da_nil)))) (dss_cons (ds_expr (de_popK (de_get (hu_of hr.r) (dv 2) (dv 6)) (dv 9))) (dss_one (ds_expr (de_append (dv 4) (de_tup (da_cons de_str (da_cons (dv 6) (da_cons (dv 9) da_nil))))))))) (dss_cons (ds_set (i := 10) sc_law_dealing.nd (de_own B.d_law_row G_law_row hr (by first | decide | omega) (da_cons (dv 0) (da_cons (dv 7) da_nil)))) (dss_cons (ds_put (hu_of hr.r) (de_get (hu_of hr.r) (dv 2) (dv 6)) (de_ix (dv 10) de_int) (dv 10)) (dss_one (ds_expr (de_append (dv 4) (de_tup (da_cons de_str (da_cons (dv 6) (da_cons (dv 10) da_nil)))))))))))))) (dss_one (ds_ret (de_tuple T.b_tuple (dv 4))))))) (fun ds M k h => ?_)
  obtain ⟨h, m, tb, n, ts, ps, tr, rfl, hp, hT, hn, hh, hm, hk⟩ := h
  (refine ⟨rfl, ?_⟩; rw [show startD N_law_dealing [.cel h, .tup (ts.map tabD), .cel tb, .int 5] = [some (.cel h), some (.tup (ts.map tabD)), some (.cel tb), some (.int 5), none, none, none, none, none, none, none] from rfl])
  have hz := sizeLine_eq
  refine seq_step ?_
  simp only [wNext, wBreak, wContinue, wExpr, wRet, wRetN, wSet, wAsg, wPar, wPar3, wSub, wTst, wOp, wChain, wNotT, wAndV, wOrV, wNotV, wIf, wNil, wCons, wTup, wLst, wLstM, wCall, wCall0, wVar, wC, wLc, wLcM, wYes, wiL, wiT, wiS, wiR, wiEnT, wiEnL, wiZip, wSl, woNone, woSome, wMt, wJoin, wGet, wUn, wTru, wDNew, fin, List.getElem?_cons_zero, List.getElem?_cons_succ, List.set_cons_zero, List.set_cons_succ]
  refine ⟨(show 0 ≤ sizeLine by decide), fun q hq => ?_⟩
  have nqh := hh.fresh hq
  have hT1 : TabsT (setM M q (.lst [])) h tb n ts ps tr := hT.apart hq
  have nqt : q ≠ tb := fun z => by rw [z, hT.top] at hq; cases hq
  have nqp : q ∉ ps := fun z => by obtain ⟨c, hc⟩ := hT.all.cell q z; rw [hc] at hq; cases hq
  refine seq_step ?_
  simp only [wFor, wNext, wBreak, wContinue, wExpr, wRet, wRetN, wSet, wAsg, wPar, wPar3, wSub, wTst, wOp, wChain, wNotT, wAndV, wOrV, wNotV, wIf, wNil, wCons, wTup, wLst, wLstM, wCall, wCall0, wVar, wC, wLc, wLcM, wYes, wiL, wiT, wiS, wiR, wiEnT, wiEnL, wiZip, wSl, woNone, woSome, wMt, wJoin, wGet, wUn, wTru, wDNew, fin, List.getElem?_cons_zero, List.getElem?_cons_succ, List.set_cons_zero, List.set_cons_succ]
  refine r_add ⟨h, m, 6, rfl, hh.set nqh, by omega, by decide, by decide, fun r M2 r0 r1 h2 e2 => ?_⟩
  obtain ⟨j, rfl⟩ : ∃ j : Nat, r = (j : Int) := ⟨r.toNat, by omega⟩
  refine ⟨⟨by omega, by omega⟩, ?_⟩
  refine loop_inv (fun its Γ M' => ∃ (c : Nat) (tr' : List (List Row)) (f : List D) (x5 x6 x7 x8 x9 x10 : Option D), c + its.length ≤ 5 ∧ TabsT M' h tb (n + c) ts ps tr' ∧ Hn M' h (m + 1 + 10 * c) ∧ M' q = some (.lst f) ∧ f.length = c ∧ (∀ d ∈ its, ∃ t : Int, d = .int t) ∧
      Γ = [some (.cel h), some (.tup (ts.map tabD)), some (.cel tb), some (.int 5), some (.cel q), x5, x6, x7, x8, x9, x10]) (fun _ _ _ _ => trivial) ?_ ?_ _ _ _
      ⟨0, tr, [], _, _, _, _, _, _, ?_, hT1.ex e2, h2, e2 q _ nqh setM_same, rfl, ?_, rfl⟩
  · rintro Γ M3 ⟨c, tr', f, x5, x6, x7, x8, x9, x10, h3, h4, h5, h6, h7, _, rfl⟩
    simp only [wNext, wBreak, wContinue, wExpr, wRet, wRetN, wSet, wAsg, wPar, wPar3, wSub, wTst, wOp, wChain, wNotT, wAndV, wOrV, wNotV, wIf, wNil, wCons, wTup, wLst, wLstM, wCall, wCall0, wVar, wC, wLc, wLcM, wYes, wiL, wiT, wiS, wiR, wiEnT, wiEnL, wiZip, wSl, woNone, woSome, wMt, wJoin, wGet, wUn, wTru, wDNew, fin, List.getElem?_cons_zero, List.getElem?_cons_succ, List.set_cons_zero, List.set_cons_succ]
    refine r_tupC h6 ?_
    exact hk _ M3 tr' (h4.frame (by omega) fun _ _ => rfl) (h5.up (by simp at h3; omega))
  · rintro d its Γ M3 ⟨c, tr', f, x5, x6, x7, x8, x9, x10, h3, h4, h5, h6, h7, h8, rfl⟩
    obtain ⟨t, rfl⟩ := h8 d List.mem_cons_self
    simp only [List.length_cons] at h3
    refine ⟨_, rfl, fun k' q1 q2 q3 q4 => ?_⟩
    refine seq_step ?_
    simp only [wNext, wBreak, wContinue, wExpr, wRet, wRetN, wSet, wAsg, wPar, wPar3, wSub, wTst, wOp, wChain, wNotT, wAndV, wOrV, wNotV, wIf, wNil, wCons, wTup, wLst, wLstM, wCall, wCall0, wVar, wC, wLc, wLcM, wYes, wiL, wiT, wiS, wiR, wiEnT, wiEnL, wiZip, wSl, woNone, woSome, wMt, wJoin, wGet, wUn, wTru, wDNew, fin, List.getElem?_cons_zero, List.getElem?_cons_succ, List.set_cons_zero, List.set_cons_succ]
    refine ⟨h, _, _, ts.map tabD, rfl, h5, by omega, .inl rfl, by rw [List.length_map]; exact List.length_pos_iff.mpr hp.ne, by rw [List.length_map]; have := hp.le; omega, fun d M4 hd h9 e9 => ?_⟩
    obtain ⟨tt, htt, rfl⟩ := List.mem_map.mp hd
    have h4' := h4.ex e9
    have h6' := e9 q _ nqh h6
    obtain ⟨i, p, rs, a1, a2, a3, a4, a5, a6⟩ := h4'.all.at_ hp.un htt
    simp only [tabD, gT, gsCons, gN, gsNil, wNext, wBreak, wContinue, wExpr, wRet, wRetN, wSet, wAsg, wPar, wPar3, wSub, wTst, wOp, wChain, wNotT, wAndV, wOrV, wNotV, wIf, wNil, wCons, wTup, wLst, wLstM, wCall, wCall0, wVar, wC, wLc, wLcM, wYes, wiL, wiT, wiS, wiR, wiEnT, wiEnL, wiZip, wSl, woNone, woSome, wMt, wJoin, wGet, wUn, wTru, wDNew, fin, List.getElem?_cons_zero, List.getElem?_cons_succ, List.set_cons_zero, List.set_cons_succ]
    refine seq_step ?_
    simp only [wNext, wBreak, wContinue, wExpr, wRet, wRetN, wSet, wAsg, wPar, wPar3, wSub, wTst, wOp, wChain, wNotT, wAndV, wOrV, wNotV, wIf, wNil, wCons, wTup, wLst, wLstM, wCall, wCall0, wVar, wC, wLc, wLcM, wYes, wiL, wiT, wiS, wiR, wiEnT, wiEnL, wiZip, wSl, woNone, woSome, wMt, wJoin, wGet, wUn, wTru, wDNew, fin, List.getElem?_cons_zero, List.getElem?_cons_succ, List.set_cons_zero, List.set_cons_succ]
    refine r_get h4'.top a4 ?_
    have okc := hp.ok tt htt
    refine sort_keys a6 okc.ne okc.kd (by omega) a5 fun ls l1 l2 l3 l4 => ?_
    unfold wIfS wAndT
    simp only [wNext, wBreak, wContinue, wExpr, wRet, wRetN, wSet, wAsg, wPar, wPar3, wSub, wTst, wOp, wChain, wNotT, wAndV, wOrV, wNotV, wIf, wNil, wCons, wTup, wLst, wLstM, wCall, wCall0, wVar, wC, wLc, wLcM, wYes, wiL, wiT, wiS, wiR, wiEnT, wiEnL, wiZip, wSl, woNone, woSome, wMt, wJoin, wGet, wUn, wTru, wDNew, fin, List.getElem?_cons_zero, List.getElem?_cons_succ, List.set_cons_zero, List.set_cons_succ]
    refine ⟨(show 0 ≤ sizeLine by decide), eq_nil l2 l3 ?_⟩
    clear hk q1 q2 q4
    have hz2 : f.length < sizeLine := by omega
    have other : ∀ M5 x9 x10, TabsT M5 h tb (n + c) ts ps tr' → Hn M5 h (m + 1 + 10 * c + 2) → M5 q = some (.lst f) →
        wSeq (wSet 10 (wCall F_lrowC (wCons (wVar 0) (wCons (wVar 7) wNil)))) (wSeq (wPut (wOp rdGet (wVar 2) (wVar 6)) (wOp rdIx (wVar 10) (wC (D.int 0))) (wVar 10))
          (wExpr (wMt rdAppend (wVar 4) (wCons (wTup (wCons (wC (D.str (Str.ofString "put"))) (wCons (wVar 6) (wCons (wVar 10) wNil)))) wNil)))) k'
          [some (D.cel h), some (D.tup (List.map tabD ts)), some (D.cel tb), some (D.int 5), some (D.cel q), some (D.int t), some (D.str tt.fst), some (colsD tt.snd), some (D.lst ls), x9, x10] M5 := by
      intro M5 x9 x10 g1 g2 g3
      refine seq_step ?_
      simp only [wNext, wBreak, wContinue, wExpr, wRet, wRetN, wSet, wAsg, wPar, wPar3, wSub, wTst, wOp, wChain, wNotT, wAndV, wOrV, wNotV, wIf, wNil, wCons, wTup, wLst, wLstM, wCall, wCall0, wVar, wC, wLc, wLcM, wYes, wiL, wiT, wiS, wiR, wiEnT, wiEnL, wiZip, wSl, woNone, woSome, wMt, wJoin, wGet, wUn, wTru, wDNew, fin, List.getElem?_cons_zero, List.getElem?_cons_succ, List.set_cons_zero, List.set_cons_succ]
      refine ⟨h, _, tt.2, rfl, g2, by omega, okc.ne, okc.le, okc.kd, fun r M6 hr hr0 h10 e10 => ?_⟩
      have g4 := g1.ex e10
      have g6 := e10 q _ nqh g3
      obtain ⟨i, p, rs, a1, a2, a3, a4, a5, a6⟩ := g4.all.at_ hp.un htt
      have nqp' : q ≠ p := fun z => nqp (by rw [z]; exact List.mem_of_getElem? a2)
      refine seq_step ?_
      simp only [wNext, wBreak, wContinue, wExpr, wRet, wRetN, wSet, wAsg, wPar, wPar3, wSub, wTst, wOp, wChain, wNotT, wAndV, wOrV, wNotV, wIf, wNil, wCons, wTup, wLst, wLstM, wCall, wCall0, wVar, wC, wLc, wLcM, wYes, wiL, wiT, wiS, wiR, wiEnT, wiEnL, wiZip, wSl, woNone, woSome, wMt, wJoin, wGet, wUn, wTru, wDNew, fin, List.getElem?_cons_zero, List.getElem?_cons_succ, List.set_cons_zero, List.set_cons_succ, wNever, wDel, wInK, wDcK, wPut, wListV]
      cases r with
      | nil => exact absurd (List.length_eq_zero_iff.mp (by have := hr.len; simpa using this.symm)) okc.ne
      | cons x r =>
        have hx := hr0 x rfl
        have fin' : rdPut (.cel p) (woD x) (rowD (x :: r)) M6 fun M7 => wExpr (wMt rdAppend (wVar 4) (wCons (wTup (wCons (wC (D.str (Str.ofString "put"))) (wCons (wVar 6) (wCons (wVar 10) wNil)))) wNil)) k'
            [some (D.cel h), some (D.tup (List.map tabD ts)), some (D.cel tb), some (D.int 5), some (D.cel q), some (D.int t), some (D.str tt.fst), some (colsD tt.snd), some (D.lst ls), x9, some (rowD (x :: r))] M7 := by
          have hlen : (rowsK rs).length < sizeLine := by unfold rowsK; rw [List.length_map]; have := a6.ln; omega
          have go : ∀ κ, κ = keyR (x :: r) → wExpr (wMt rdAppend (wVar 4) (wCons (wTup (wCons (wC (D.str (Str.ofString "put"))) (wCons (wVar 6) (wCons (wVar 10) wNil)))) wNil)) k'
            [some (D.cel h), some (D.tup (List.map tabD ts)), some (D.cel tb), some (D.int 5), some (D.cel q), some (D.int t), some (D.str tt.fst), some (colsD tt.snd), some (D.lst ls), x9, some (rowD (x :: r))] (setM M6 p (.dct (putD (rowsK rs) κ (rowD (x :: r))))) := by
            intro κ eκ
            subst eκ
            rw [← rowsK_put]
            have g7 : TabsT (setM M6 p (.dct (rowsK (putR rs (x :: r))))) h tb (n + (c + 1)) ts ps (tr'.set i (putR rs (x :: r))) := g4.set (by omega) a1 a2 (a6.put hr hr0)
            have nph : p ≠ h := fun z => (List.nodup_cons.mp g4.un).1 (by rw [← z]; exact List.mem_cons_of_mem _ (List.mem_of_getElem? a2))
            simp only [wNext, wBreak, wContinue, wExpr, wRet, wRetN, wSet, wAsg, wPar, wPar3, wSub, wTst, wOp, wChain, wNotT, wAndV, wOrV, wNotV, wIf, wNil, wCons, wTup, wLst, wLstM, wCall, wCall0, wVar, wC, wLc, wLcM, wYes, wiL, wiT, wiS, wiR, wiEnT, wiEnL, wiZip, wSl, woNone, woSome, wMt, wJoin, wGet, wUn, wTru, wDNew, fin, List.getElem?_cons_zero, List.getElem?_cons_succ, List.set_cons_zero, List.set_cons_succ]
            have mq : setM M6 p (.dct (rowsK (putR rs (x :: r)))) q = some (.lst f) := by rw [setM_ne nqp']; exact g6
            refine ⟨isC mq, (show 3 ≤ sizeLine by decide), r_app mq hz2 ?_⟩
            exact q3 _ _ ⟨c + 1, _, f ++ [_], _, _, _, _, _, _, by omega, g7.other nqt nqp, ((h10.up (by omega)).set nph).set nqh, setM_same, by simp [h7], fun d hd => h8 d (List.mem_cons_of_mem _ hd), rfl⟩
          unfold rdPut
          cases x with
          | non => exact absurd rfl hx
          | num i0 => simp only [woD, keyD, a5]; exact ⟨hlen, go _ rfl⟩
          | txt s0 => simp only [woD, keyD, a5]; exact ⟨hlen, go _ rfl⟩
        refine r_get g4.top a4 ?_
        exact ix_tup (ds := (x :: r).map woD) (at0 _ _) fin'
    refine bb (fun hne => ?_) (fun _ => ?_)
    · refine ⟨h, _, 3, rfl, h9, by omega, by decide, by decide, fun y M5 y0 y1 h10 e10 => ?_⟩
      refine eq_int (bb (fun _ => ?_) (fun _ => other M5 _ _ (h4'.ex e10) (h10.up (by omega)) (e10 q _ nqh h6')))
      refine seq_step ?_
      simp only [wNext, wBreak, wContinue, wExpr, wRet, wRetN, wSet, wAsg, wPar, wPar3, wSub, wTst, wOp, wChain, wNotT, wAndV, wOrV, wNotV, wIf, wNil, wCons, wTup, wLst, wLstM, wCall, wCall0, wVar, wC, wLc, wLcM, wYes, wiL, wiT, wiS, wiR, wiEnT, wiEnL, wiZip, wSl, woNone, woSome, wMt, wJoin, wGet, wUn, wTru, wDNew, fin, List.getElem?_cons_zero, List.getElem?_cons_succ, List.set_cons_zero, List.set_cons_succ]
      have lp : 0 < ls.length := by cases ls with | nil => simp at hne | cons _ _ => simp
      have ll := a6.ln
      refine ⟨h, _, _, ls, rfl, h10, by omega, .inr (.inl rfl), lp, by omega, fun d M6 hd h11 e11 => ?_⟩
      obtain ⟨κ, ek, hκ⟩ := l4 d hd
      obtain ⟨z, hz'⟩ := look_rowsK hκ
      have nph : p ≠ h := fun z => (List.nodup_cons.mp h4'.un).1 (by rw [← z]; exact List.mem_cons_of_mem _ (List.mem_of_getElem? a2))
      have nqp' : q ≠ p := fun z => nqp (by rw [z]; exact List.mem_of_getElem? a2)
      have g4 := (h4'.ex e10).ex e11
      have a5' := e11 p _ nph (e10 p _ nph a5)
      have g6 := e11 q _ nqh (e10 q _ nqh h6')
      refine seq_step ?_
      simp only [wNext, wBreak, wContinue, wExpr, wRet, wRetN, wSet, wAsg, wPar, wPar3, wSub, wTst, wOp, wChain, wNotT, wAndV, wOrV, wNotV, wIf, wNil, wCons, wTup, wLst, wLstM, wCall, wCall0, wVar, wC, wLc, wLcM, wYes, wiL, wiT, wiS, wiR, wiEnT, wiEnL, wiZip, wSl, woNone, woSome, wMt, wJoin, wGet, wUn, wTru, wDNew, fin, List.getElem?_cons_zero, List.getElem?_cons_succ, List.set_cons_zero, List.set_cons_succ, wPopK, wLock, wiVals]
      refine r_get g4.top a4 ⟨⟨_, a5'⟩, ?_⟩
      unfold rdPopK
      simp only [ek, a5', hz']
      rw [← rowsK_drop]
      have g7 : TabsT (setM M6 p (.dct (rowsK (dropR rs κ)))) h tb (n + (c + 1)) ts ps (tr'.set i (dropR rs κ)) := g4.set (by omega) a1 a2 ((a6.drop κ).up (by omega))
      have mq : setM M6 p (.dct (rowsK (dropR rs κ))) q = some (.lst f) := by rw [setM_ne nqp']; exact g6
      refine ⟨isC mq, (show 3 ≤ sizeLine by decide), r_app mq hz2 ?_⟩
      exact q3 _ _ ⟨c + 1, _, f ++ [_], _, _, _, _, _, _, by omega, g7.other nqt nqp, ((h11.up (by omega)).set nph).set nqh, setM_same, by simp [h7], fun d hd => h8 d (List.mem_cons_of_mem _ hd), rfl⟩
    · exact ff (other M4 _ _ h4' (h9.up (by omega)) h6')
  · simp [rng]; omega
  · intro d hd
    unfold rng at hd
    obtain ⟨i, _, rfl⟩ := List.mem_map.mp hd
    exact ⟨_, rfl⟩
end
end K04

set_option autoImplicit false
set_option maxRecDepth 100000
set_option maxHeartbeats 4000000
namespace K04
open PySem PySem.Spec PyProof.Rows L2 DL
section
variable {P : Program} {w : World} {K : PySem.W.Frag} {mg : Str → Option Value} {base : Heap}
/-! what the law sees of its own tables -/
inductive LstQ (M : Mem) : List (Str × Cols) → List Addr → List (List Row) → Prop
  | nil : LstQ M [] [] []
  | cons {t : Str × Cols} {ts : List (Str × Cols)} {p : Addr} {ps : List Addr} {o : List Row} {os : List (List Row)} : M p = some (.lst (o.map rowD)) → LstQ M ts ps os → LstQ M (t :: ts) (p :: ps) (o :: os)
theorem LstQ.ext {M M' : Mem} (e : ExtA M M') {ts : List (Str × Cols)} {ps : List Addr} {os : List (List Row)} (h : LstQ M ts ps os) : LstQ M' ts ps os := by
  induction h with
  | nil => exact .nil
  | cons h1 _ ih => exact .cons (e _ _ h1) ih
theorem LstQ.keep {M M' : Mem} {ts : List (Str × Cols)} {ps : List Addr} {os : List (List Row)} (h : LstQ M ts ps os) : (∀ p ∈ ps, M' p = M p) → LstQ M' ts ps os := by
  induction h with
  | nil => intro _; exact .nil
  | cons h1 _ ih => intro e; exact .cons (by rw [e _ List.mem_cons_self]; exact h1) (ih fun p hp => e p (List.mem_cons_of_mem _ hp))
theorem LstQ.snoc {M : Mem} {ts : List (Str × Cols)} {ps : List Addr} {os : List (List Row)} {t : Str × Cols} {p : Addr} {o : List Row} (h : LstQ M ts ps os) (q : M p = some (.lst (o.map rowD))) : LstQ M (ts ++ [t]) (ps ++ [p]) (os ++ [o]) := by
  induction h with
  | nil => exact .cons q .nil
  | cons h1 _ ih => exact .cons h1 ih
theorem LstQ.len {M : Mem} {ts : List (Str × Cols)} {ps : List Addr} {os : List (List Row)} (h : LstQ M ts ps os) : ps.length = ts.length := by
  induction h with
  | nil => rfl
  | cons _ _ ih => simp [ih]
theorem LstQ.cell {M : Mem} {ts : List (Str × Cols)} {ps : List Addr} {os : List (List Row)} (h : LstQ M ts ps os) : ∀ p ∈ ps, ∃ c, M p = some (.lst c) := by
  induction h with
  | nil => intro p hp; cases hp
  | cons h1 _ ih =>
    intro p hp
    rcases List.mem_cons.mp hp with rfl | hp
    · exact ⟨_, h1⟩
    · exact ih p hp
theorem tabK_snoc {t : Str × Cols} {p : Addr} : ∀ {ts : List (Str × Cols)} {ps : List Addr}, ps.length = ts.length → tabK (ts ++ [t]) (ps ++ [p]) = tabK ts ps ++ [(.inr t.1, .cel p)]
  | [], [], _ => rfl
  | t0 :: ts, p0 :: ps, h => by
    have ih := tabK_snoc (t := t) (p := p) (ts := ts) (ps := ps) (by simpa using h)
    unfold tabK at ih ⊢
    rw [List.cons_append, List.cons_append, List.zipWith_cons_cons, ih, List.zipWith_cons_cons, List.cons_append]
  | [], _ :: _, h => by cases h
  | _ :: _, [], h => by cases h
theorem put_tabK {t : Str × Cols} {p : Addr} {ts : List (Str × Cols)} {ps : List Addr} (hl : ps.length = ts.length) (hn : t.1 ∉ ts.map (·.1)) : putD (tabK ts ps) (.inr t.1) (.cel p) = tabK (ts ++ [t]) (ps ++ [p]) := by
  have h : ¬ (tabK ts ps).any (fun kv => decide (kv.1 = (.inr t.1 : Key))) = true := fun z => by
    obtain ⟨kv, hm, e⟩ := List.any_eq_true.mp z
    have e := of_decide_eq_true e
    unfold tabK at hm
    obtain ⟨i, hi⟩ := List.mem_iff_getElem?.mp hm
    rw [List.getElem?_zipWith] at hi
    cases e1 : ts[i]? with
    | none => rw [e1] at hi; cases hi
    | some t' =>
      cases e2 : ps[i]? with
      | none => rw [e1, e2] at hi; cases hi
      | some p' =>
        rw [e1, e2] at hi
        cases hi
        have e : t'.1 = t.1 := Sum.inr.inj e
        exact hn (by rw [← e]; exact List.mem_map_of_mem (f := fun x : Str × Cols => x.1) (List.mem_of_getElem? e1))
  unfold putD
  rw [if_neg h, tabK_snoc hl]
def pick2 (ns : List Str) : D → D
  | .tup [.str a, w] => if a ∈ ns then w else .non
  | d => d
theorem veil_zip2 (ns : List Str) : ∀ (cs : Cols) (x : Row), (zipD ((cs.map (·.1)).map D.str) (x.map woD)).map (pick2 ns) = (veil x (cs.map fun c => decide (c.1 ∈ ns))).map woD
  | [], x => by cases x <;> simp [veil, zipD]
  | _ :: _, [] => by simp [veil, zipD]
  | c :: cs, x :: xs => by
    have ih := veil_zip2 ns cs xs
    unfold veil zipD at ih ⊢
    rw [List.map_cons, List.map_cons, List.map_cons, List.map_cons, List.zipWith_cons_cons, List.zipWith_cons_cons, List.map_cons, List.map_cons, ih]
    by_cases e : c.1 ∈ ns <;> simp [pick2, e, woD]
def F_lseenC : FD := fun ds M k => ∃ h tb n ts ps tr rts outs, ds = [.tup (ts.map tabD), .cel tb, .tup rts] ∧ TabsT M h tb n ts ps tr ∧ n ≤ 1000 ∧ ts.length ≤ 1000 ∧ (ts.map (·.1)).Nodup ∧ SeenA ts tr rts outs ∧
  ∀ f M' cs, M' f = some (.dct (tabK ts cs)) → LstQ M' ts cs outs → ExtA M M' → k (.cel f) M'
theorem ok_lseenC (T : Txt K mg) (B : DD K mg) : DFn P w K mg base 6 B.f_law_seen B.fd_law_seen p_law_seen F_lseenC := by
  have G_law_holds : DFn P w K mg base 3 B.f_law_holds B.fd_law_holds p_law_holds (F_lholdsC 2) := ok_lholdsC T B 2
  refine Fun.okD (k := 5) B.d_law_seen.F sc_law_seen (fun cdv A outer s H E hr => (dss_cons (ds_set (i := 3) sc_law_seen.nd de_dnew) (dss_cons (ds_for rfl (di_zip T.b_zip (da_cons (dv 0) (da_cons (dv 2) da_nil))) (dg_tup rfl (dgs_cons (dg_tup rfl (dgs_cons (dg_name (i := 4) sc_law_seen.nd) (dgs_cons (dg_name (i := 5) sc_law_seen.nd) dgs_nil)) (gsCons_len (gsCons_len gsNil_len))) (dgs_cons (dg_name (i := 6) sc_law_seen.nd) dgs_nil)) (gsCons_len (gsCons_len gsNil_len))) (dss_cons (ds_par (i := 7) (j := 8) rfl sc_law_seen.nd (da_cons (de_lc rfl sc_law_seen.nd (di_tup (dv 5)) (blkOk_by (own := [("column", 9), ("kind", 10)]) (N := N_law_seen) (sc := defScope s_law_seen) (by decide +kernel)) (fun _ _ _ _ _ => (dg_tup rfl (dgs_cons (dg_name (i := 9) sc_law_seen.nd) (dgs_cons (dg_name (i := 10) sc_law_seen.nd) dgs_nil)) (gsCons_len (gsCons_len gsNil_len)))) (gd_tup (gds_cons gd_name (gds_cons gd_name gds_nil)) (gsCons_len (gsCons_len gsNil_len))) (fun _ _ _ _ _ => dts_nil) (fun _ _ _ _ _ => (dv 9))) (da_cons (de_lstM da_nil) da_nil)) rfl rfl (by decide) rfl rfl (by rfl)) (dss_cons (ds_lock (ds_for rfl (di_values (de_get (hu_of hr.r) (dv 1) (dv 4))) (dg_name (i := 11) sc_law_seen.nd) (dss_one (ds_if (dw_pt (dw_and (dt_cmpA c_isn (dv 6) de_non) (dw_and1 (dw_pt (dw_or (dt_cmpA c_is (de_ix (dv 6) de_int) de_non) (dw_or1 (dt_val (de_own B.d_law_holds G_law_holds hr (by first | decide | omega) (da_cons (dv 7) (da_cons (de_ix (dv 6) de_int) (da_cons (dv 11) da_nil))))))))))) (dss_one (ds_expr (de_append (dv 8) (de_tuple T.b_tuple (de_lc rfl sc_law_seen.nd (di_zLT T.b_zip (da_cons (dv 7) (da_cons (dv 11) da_nil))) (blkOk_by (own := [("one", 12), ("worth", 13)]) (N := N_law_seen) (sc := defScope s_law_seen) (by decide +kernel)) (fun _ _ _ _ _ => (dg_tup rfl (dgs_cons (dg_name (i := 12) sc_law_seen.nd) (dgs_cons (dg_name (i := 13) sc_law_seen.nd) dgs_nil)) (gsCons_len (gsCons_len gsNil_len)))) (gd_tup (gds_cons gd_name (gds_cons gd_name gds_nil)) (gsCons_len (gsCons_len gsNil_len))) (fun _ _ _ _ _ => dts_nil) (fun _ _ _ _ _ => (de_if (dt_cmpA c_in (dv 12) (de_ix (dv 6) de_int)) (dv 13) de_non))))))) dss_nil)))) (dss_one (ds_put (hu_of hr.r) (dv 3) (dv 4) (dv 8)))))) (dss_one (ds_ret (dv 3)))))) (fun ds M k h => ?_)
  obtain ⟨h, tb, n, ts, ps, tr, rts, outs, rfl, hT, hn, hl, nd, hs, hk⟩ := h
  (refine ⟨rfl, ?_⟩; rw [show startD N_law_seen [.tup (ts.map tabD), .cel tb, .tup rts] = [some (.tup (ts.map tabD)), some (.cel tb), some (.tup rts), none, none, none, none, none, none, none, none, none, none, none] from rfl])
  have hz := sizeLine_eq
  refine seq_step ?_
  simp only [wNext, wBreak, wContinue, wExpr, wRet, wRetN, wSet, wAsg, wPar, wPar3, wSub, wTst, wOp, wChain, wNotT, wAndV, wOrV, wNotV, wIf, wNil, wCons, wTup, wLst, wLstM, wCall, wCall0, wVar, wC, wLc, wLcM, wYes, wiL, wiT, wiS, wiR, wiEnT, wiEnL, wiZip, wSl, woNone, woSome, wMt, wJoin, wGet, wUn, wTru, wDNew, fin, List.getElem?_cons_zero, List.getElem?_cons_succ, List.set_cons_zero, List.set_cons_succ]
  intro f hf
  refine seq_step ?_
  simp only [wFor, wNext, wBreak, wContinue, wExpr, wRet, wRetN, wSet, wAsg, wPar, wPar3, wSub, wTst, wOp, wChain, wNotT, wAndV, wOrV, wNotV, wIf, wNil, wCons, wTup, wLst, wLstM, wCall, wCall0, wVar, wC, wLc, wLcM, wYes, wiL, wiT, wiS, wiR, wiEnT, wiEnL, wiZip, wSl, woNone, woSome, wMt, wJoin, wGet, wUn, wTru, wDNew, fin, List.getElem?_cons_zero, List.getElem?_cons_succ, List.set_cons_zero, List.set_cons_succ]
  refine loop_inv (fun its Γ M' => ∃ (ta tz : List (Str × Cols)) (tra trz : List (List Row)) (rz : List D) (oa oz : List (List Row)) (cs : List Addr) (x4 x5 x6 x7 x8 x9 x10 x11 x12 x13 : Option D), ts = ta ++ tz ∧ outs = oa ++ oz ∧ its = zipD (tz.map tabD) rz ∧ SeenA tz trz rz oz ∧
      (∀ (i : Nat) (t : Str × Cols) (rs : List Row), tz[i]? = some t → trz[i]? = some rs → ∃ p, p ∈ ps ∧ lookD (tabK ts ps) (.inr t.1) = some (.cel p) ∧ M p = some (.dct (rowsK rs))) ∧ M' f = some (.dct (tabK ta cs)) ∧ LstQ M' ta cs oa ∧ ExtA M M' ∧
      Γ = [some (.tup (ts.map tabD)), some (.cel tb), some (.tup rts), some (.cel f), x4, x5, x6, x7, x8, x9, x10, x11, x12, x13]) (fun _ _ _ _ => trivial) ?_ ?_ _ _ _
      ⟨[], ts, [], tr, rts, [], outs, [], _, _, _, _, _, _, _, _, _, _, rfl, rfl, rfl, hs, ?_, setM_same, .nil, ExtA.new (ExtA.refl _) hf, rfl⟩
  · rintro Γ M' ⟨ta, tz, tra, trz, rz, oa, oz, cs, x4, x5, x6, x7, x8, x9, x10, x11, x12, x13, e1, e2, e3, h1, _, h3, h4, h5, rfl⟩
    cases h1 with
    | cons _ _ _ _ _ => cases e3
    | nil =>
      rw [List.append_nil] at e1 e2
      subst e1
      subst e2
      simp only [wNext, wBreak, wContinue, wExpr, wRet, wRetN, wSet, wAsg, wPar, wPar3, wSub, wTst, wOp, wChain, wNotT, wAndV, wOrV, wNotV, wIf, wNil, wCons, wTup, wLst, wLstM, wCall, wCall0, wVar, wC, wLc, wLcM, wYes, wiL, wiT, wiS, wiR, wiEnT, wiEnL, wiZip, wSl, woNone, woSome, wMt, wJoin, wGet, wUn, wTru, wDNew, fin, List.getElem?_cons_zero, List.getElem?_cons_succ, List.set_cons_zero, List.set_cons_succ]
      exact hk f M' cs h3 h4 h5
  · rintro d its Γ M' ⟨ta, tz, tra, trz, rz, oa, oz, cs, x4, x5, x6, x7, x8, x9, x10, x11, x12, x13, e1, e2, e3, h1, h2, h3, h4, h5, rfl⟩
    cases h1 with
    | nil => cases e3
    | @cons t tz b trz r rz o oz c1 c2 c3 c4 c5 =>
      have e3 : d :: its = .tup [tabD t, r] :: zipD (tz.map tabD) rz := e3
      cases e3
      refine ⟨_, rfl, fun k' q1 q2 q3 q4 => ?_⟩
      obtain ⟨p, hp0, hp1, hp2⟩ := h2 0 t b rfl rfl
      have hp3 := h5 _ _ hp2
      have pt : p ≠ tb := fun z => (List.nodup_cons.mp (List.nodup_cons.mp hT.un).2).1 (by rw [← z]; exact hp0)
      have top' := h5 _ _ hT.top
      refine seq_step ?_
      simp only [wNext, wBreak, wContinue, wExpr, wRet, wRetN, wSet, wAsg, wPar, wPar3, wSub, wTst, wOp, wChain, wNotT, wAndV, wOrV, wNotV, wIf, wNil, wCons, wTup, wLst, wLstM, wCall, wCall0, wVar, wC, wLc, wLcM, wYes, wiL, wiT, wiS, wiR, wiEnT, wiEnL, wiZip, wSl, woNone, woSome, wMt, wJoin, wGet, wUn, wTru, wDNew, fin, List.getElem?_cons_zero, List.getElem?_cons_succ, List.set_cons_zero, List.set_cons_succ, colsD]
      refine lc_map fstD (G := gAny) (M := M') trivial _ _ _ (fun d hd => ?_) (by rw [List.length_nil, List.length_map]; have := c1.le; omega) ?_
      · obtain ⟨x, hx, rfl⟩ := List.mem_map.mp hd
        exact ⟨_, rfl, fun k hk => hk⟩
      rw [List.nil_append, fst_cols]
      refine ⟨(show 0 ≤ sizeLine by decide), fun q hq => ?_⟩
      have pq : p ≠ q := neM hp3 hq
      have fq : f ≠ q := neM h3 hq
      have tq : tb ≠ q := neM top' hq
      have pf : p ≠ f := neM hp2 hf
      have tf : tb ≠ f := neM hT.top hf
      have hqM : M q = none := by cases z : M q with | none => rfl | some c => rw [h5 _ _ z] at hq; cases hq
      refine seq_step ?_
      simp only [wPopK, wLock, wiVals, wFor, wNext, wBreak, wContinue, wExpr, wRet, wRetN, wSet, wAsg, wPar, wPar3, wSub, wTst, wOp, wChain, wNotT, wAndV, wOrV, wNotV, wIf, wNil, wCons, wTup, wLst, wLstM, wCall, wCall0, wVar, wC, wLc, wLcM, wYes, wiL, wiT, wiS, wiR, wiEnT, wiEnL, wiZip, wSl, woNone, woSome, wMt, wJoin, wGet, wUn, wTru, wDNew, fin, List.getElem?_cons_zero, List.getElem?_cons_succ, List.set_cons_zero, List.set_cons_succ]
      refine ⟨p, rowsK b, by rw [setM_ne pq]; exact hp3, fun ob kvs => ?_⟩
      refine r_get (kvs := tabK ts ps) (by rw [setM_ne pt.symm, setM_ne tq]; exact top') hp1 ?_
      refine ⟨p, ob, kvs, rowsK b, rfl, setM_same, ?_⟩
      rw [rowsK_snd]
      have fin2 : ∀ (M2 : Mem) (y9 y10 y11 y12 y13 : Option D), M2 q = some (.lst (o.map rowD)) → M2 p = some (.dcf ob kvs (rowsK b)) → (∀ a, a ≠ p → a ≠ q → M2 a = M' a) →
          wPut (wVar 3) (wVar 4) (wVar 8) k' [some (.tup (ts.map tabD)), some (.cel tb), some (.tup rts), some (.cel f), some (.str t.1), some (.tup (t.2.map colD)), some r, some (.lst ((t.2.map (·.1)).map D.str)), some (.cel q), y9, y10, y11, y12, y13] (setM M2 p (.dct (rowsK b))) := by
        intro M2 y9 y10 y11 y12 y13 m1 m2 m3
        simp only [wNever, wDel, wInK, wDcK, wPut, wListV, wNext, wBreak, wContinue, wExpr, wRet, wRetN, wSet, wAsg, wPar, wPar3, wSub, wTst, wOp, wChain, wNotT, wAndV, wOrV, wNotV, wIf, wNil, wCons, wTup, wLst, wLstM, wCall, wCall0, wVar, wC, wLc, wLcM, wYes, wiL, wiT, wiS, wiR, wiEnT, wiEnL, wiZip, wSl, woNone, woSome, wMt, wJoin, wGet, wUn, wTru, wDNew, fin, List.getElem?_cons_zero, List.getElem?_cons_succ, List.set_cons_zero, List.set_cons_succ]
        have mf : setM M2 p (.dct (rowsK b)) f = some (.dct (tabK ta cs)) := by rw [setM_ne pf.symm, m3 f pf.symm fq]; exact h3
        have tn : t.1 ∉ ta.map (·.1) := fun z => by
          rw [e1, List.map_append, List.nodup_append] at nd
          exact nd.2.2 _ z _ (by simp) rfl
        have cl : (tabK ta cs).length < sizeLine := by
          unfold tabK; rw [List.length_zipWith]
          have : ts.length = ta.length + (tz.length + 1) := by rw [e1]; simp
          omega
        unfold rdPut
        simp only [keyD, mf]
        refine ⟨cl, ?_⟩
        rw [put_tabK h4.len tn]
        have same : ∀ a, a ≠ f → a ≠ q → setM (setM M2 p (.dct (rowsK b))) f (.dct (tabK (ta ++ [t]) (cs ++ [q]))) a = M' a := fun a af aq => by
          rw [setM_ne af]
          by_cases ap : a = p
          · subst ap; rw [setM_same]; exact hp3.symm
          · rw [setM_ne ap]; exact m3 a ap aq
        refine q3 _ _ ⟨ta ++ [t], tz, tra ++ [b], trz, rz, oa ++ [o], oz, cs ++ [q], _, _, _, _, _, _, _, _, _, _, by rw [e1]; simp, by rw [e2]; simp, rfl, c5, fun i t' rs' z1 z2 => h2 (i + 1) t' rs' z1 z2, setM_same, ?_, ?_, rfl⟩
        · refine (h4.keep fun c hc => ?_).snoc (by rw [setM_ne fq.symm, setM_ne pq.symm]; exact m1)
          obtain ⟨l, hl'⟩ := h4.cell c hc
          exact same c (fun z => by rw [z, h3] at hl'; cases hl') (fun z => by rw [z, hq] at hl'; cases hl')
        · intro a c ha
          rw [same a (fun z => by rw [z, hf] at ha; cases ha) fun z => by rw [z, hqM] at ha; cases ha]
          exact h5 a c ha
      have u0 : setM (setM M' q (.lst [])) p (.dcf ob kvs (rowsK b)) q = some (.lst []) := by rw [setM_ne pq.symm]; exact setM_same
      have u1 : ∀ a, a ≠ p → a ≠ q → setM (setM M' q (.lst [])) p (.dcf ob kvs (rowsK b)) a = M' a := fun a ap aq => by rw [setM_ne ap, setM_ne aq]
      cases c4 with
      | non =>
        refine loop_inv (fun its Γ M2 => ∃ y11 y12 y13 : Option D, M2 q = some (.lst []) ∧ M2 p = some (.dcf ob kvs (rowsK b)) ∧ (∀ a, a ≠ p → a ≠ q → M2 a = M' a) ∧ Γ = [some (.tup (ts.map tabD)), some (.cel tb), some (.tup rts), some (.cel f), some (.str t.1), some (.tup (t.2.map colD)), some .non, some (.lst ((t.2.map (·.1)).map D.str)), some (.cel q), x9, x10, y11, y12, y13]) (fun _ _ _ ⟨_, _, _, _, m2, _⟩ => m2) ?_ ?_ _ _ _ ⟨_, _, _, u0, setM_same, u1, rfl⟩
        · rintro Γ M2 ⟨y11, y12, y13, m1, m2, m3, rfl⟩
          exact ⟨m2, fin2 M2 _ _ _ _ _ m1 m2 m3⟩
        · rintro d its Γ M2 ⟨y11, y12, y13, m1, m2, m3, rfl⟩
          refine ⟨_, rfl, fun k2 v1 v2 v3 v4 => ?_⟩
          unfold wIfS wAndT wOrT
          simp only [wNext, wBreak, wContinue, wExpr, wRet, wRetN, wSet, wAsg, wPar, wPar3, wSub, wTst, wOp, wChain, wNotT, wAndV, wOrV, wNotV, wIf, wNil, wCons, wTup, wLst, wLstM, wCall, wCall0, wVar, wC, wLc, wLcM, wYes, wiL, wiT, wiS, wiR, wiEnT, wiEnL, wiZip, wSl, woNone, woSome, wMt, wJoin, wGet, wUn, wTru, wDNew, fin, List.getElem?_cons_zero, List.getElem?_cons_succ, List.set_cons_zero, List.set_cons_succ]
          exact r_isN (ff (ff (v3 _ _ ⟨_, _, _, m1, m2, m3, rfl⟩)))
      | mk c ns hb hc hns =>
        refine loop_inv (fun its Γ M2 => ∃ (b1 b2 : List Row) (y11 y12 y13 : Option D), b = b1 ++ b2 ∧ its = b2.map rowD ∧ M2 q = some (.lst (((b1.filter hb).map fun x => veil x (t.2.map fun c => decide (c.1 ∈ ns))).map rowD)) ∧ M2 p = some (.dcf ob kvs (rowsK b)) ∧ (∀ a, a ≠ p → a ≠ q → M2 a = M' a) ∧
            Γ = [some (.tup (ts.map tabD)), some (.cel tb), some (.tup rts), some (.cel f), some (.str t.1), some (.tup (t.2.map colD)), some (.tup [c, .tup (ns.map D.str)]), some (.lst ((t.2.map (·.1)).map D.str)), some (.cel q), x9, x10, y11, y12, y13]) (fun _ _ _ ⟨_, _, _, _, _, _, _, _, m2, _⟩ => m2) ?_ ?_ _ _ _ ⟨[], b, _, _, _, rfl, rfl, u0, setM_same, u1, rfl⟩
        · rintro Γ M2 ⟨b1, b2, y11, y12, y13, z1, z2, m1, m2, m3, rfl⟩
          have : b2 = [] := List.map_eq_nil_iff.mp z2.symm
          subst this
          rw [List.append_nil] at z1
          subst z1
          exact ⟨m2, fin2 M2 _ _ _ _ _ m1 m2 m3⟩
        · rintro d its Γ M2 ⟨b1, b2, y11, y12, y13, z1, z2, m1, m2, m3, rfl⟩
          cases b2 with
          | nil => cases z2
          | cons x b2 =>
            rw [List.map_cons] at z2
            cases z2
            have hx : x ∈ b := by rw [z1]; simp
            have fx := c2 x hx
            refine ⟨_, rfl, fun k2 v1 v2 v3 v4 => ?_⟩
            have no : hb x = false → k2.nx [some (.tup (ts.map tabD)), some (.cel tb), some (.tup rts), some (.cel f), some (.str t.1), some (.tup (t.2.map colD)), some (.tup [c, .tup (ns.map D.str)]), some (.lst ((t.2.map (·.1)).map D.str)), some (.cel q), x9, x10, some (rowD x), y12, y13] M2 := fun hf => v3 _ _ ⟨b1 ++ [x], b2, _, _, _, by rw [z1]; simp, rfl, by rw [List.filter_append, List.filter_cons_of_neg (by simp [hf])]; simpa using m1, m2, m3, rfl⟩
            have app : hb x = true → wExpr (wMt rdAppend (wVar 8) (wCons (wCall rdTuple (wCons (wLc (wiZLT (wCons (wVar 7) (wCons (wVar 11) wNil))) (gT (gsCons (gN 12) (gsCons (gN 13) gsNil))) wYes
                (wIf (wTst (wOp (rdIn id) (wVar 12) (wOp rdIx (wVar 6) (wC (D.int 1))))) (wVar 13) (wC D.non)) (List.map (fun x => x.snd) [(Str.ofString "one", 12), (Str.ofString "worth", 13)])) wNil)) wNil)) k2 [some (.tup (ts.map tabD)), some (.cel tb), some (.tup rts), some (.cel f), some (.str t.1), some (.tup (t.2.map colD)), some (.tup [c, .tup (ns.map D.str)]), some (.lst ((t.2.map (·.1)).map D.str)), some (.cel q), x9, x10, some (rowD x), y12, y13] M2 := by
              intro ht
              simp only [wNext, wBreak, wContinue, wExpr, wRet, wRetN, wSet, wAsg, wPar, wPar3, wSub, wTst, wOp, wChain, wNotT, wAndV, wOrV, wNotV, wIf, wNil, wCons, wTup, wLst, wLstM, wCall, wCall0, wVar, wC, wLc, wLcM, wYes, wiL, wiT, wiS, wiR, wiEnT, wiEnL, wiZip, wSl, woNone, woSome, wMt, wJoin, wGet, wUn, wTru, wDNew, fin, List.getElem?_cons_zero, List.getElem?_cons_succ, List.set_cons_zero, List.set_cons_succ, wiZLT, rowD, asR]
              refine ⟨isC m1, ?_⟩
              refine lc_map (G := gAt (.lst ((t.2.map (fun c : Str × Str => c.1)).map D.str)) ((t.2.map (fun c : Str × Str => c.1)).map D.str)) (M := M2) (pick2 ns) rfl _ _ _ (fun d hd => ?_) (by rw [List.length_nil, zipD_len, List.length_map, List.length_map]; have := c1.le; omega) ?_
              · unfold zipD at hd
                obtain ⟨i, hi⟩ := List.mem_iff_getElem?.mp hd
                rw [List.getElem?_zipWith, List.getElem?_map, List.getElem?_map, List.getElem?_map] at hi
                cases g1 : t.2[i]? with
                | none => rw [g1] at hi; cases hi
                | some a =>
                  cases g2 : x[i]? with
                  | none => rw [g1, g2] at hi; cases hi
                  | some y =>
                    rw [g1, g2] at hi
                    cases hi
                    refine ⟨_, rfl, fun k3 hk3 => ?_⟩
                    simp only [wNext, wSeq, wBreak, wContinue, wExpr, wRet, wRetN, wIfS, wSet, wAsg, wPar, wPar3, wFor, wSub, wTst, wOp, wChain, wNotT, wAndT, wOrT, wAndV, wOrV, wNotV, wIf, wNil, wCons, wTup, wLst, wLstM, wCall, wCall0, wVar, wC, wLc, wLcM, wYes, wiL, wiT, wiS, wiR, wiEnT, wiEnL, wiZip, wSl, woNone, woSome, wMt, wJoin, wGet, wUn, wTru, wDNew, fin, List.getElem?_cons_zero, List.getElem?_cons_succ, List.set_cons_zero, List.set_cons_succ, wipeD, List.map]
                    refine ix_tup (at1 _ _ _) (r_inS ?_)
                    by_cases e : a.1 ∈ ns
                    · simp only [pick2, e, if_true] at hk3
                      exact tt' (by simp [e]) hk3
                    · simp only [pick2, e, if_false] at hk3
                      exact ff' (by simp [e]) hk3
              · rw [List.nil_append, veil_zip2]
                have lz : ((b1.filter hb).map fun x => veil x (t.2.map fun c => decide (c.1 ∈ ns))).length ≤ 1000 := by
                  rw [List.length_map]
                  have := List.length_filter_le hb b1
                  have : b.length = b1.length + (b2.length + 1) := by rw [z1]; simp
                  omega
                refine r_tupL (r_app m1 (by rw [List.length_map]; omega) ?_)
                refine v3 _ _ ⟨b1 ++ [x], b2, _, _, _, by rw [z1]; simp, rfl, ?_, by rw [setM_ne pq]; exact m2, fun a ap aq => by rw [setM_ne aq]; exact m3 a ap aq, rfl⟩
                rw [setM_same, List.filter_append, List.filter_cons_of_pos (by simp [ht])]
                simp [rowD]
            unfold wIfS wAndT wOrT
            simp only [wNext, wBreak, wContinue, wExpr, wRet, wRetN, wSet, wAsg, wPar, wPar3, wSub, wTst, wOp, wChain, wNotT, wAndV, wOrV, wNotV, wIf, wNil, wCons, wTup, wLst, wLstM, wCall, wCall0, wVar, wC, wLc, wLcM, wYes, wiL, wiT, wiS, wiR, wiEnT, wiEnL, wiZip, wSl, woNone, woSome, wMt, wJoin, wGet, wUn, wTru, wDNew, fin, List.getElem?_cons_zero, List.getElem?_cons_succ, List.set_cons_zero, List.set_cons_succ]
            refine r_isT (tt (ix_tup (at0 _ _) ?_))
            rcases hc with ⟨rfl, hall⟩ | ⟨⟨xs, rfl⟩, hall⟩
            · exact r_isN (tt (app (hall x hx)))
            · exact r_isT (ff (ix_tup (at0 _ _) ⟨t.2, x.map woD, _, _, rfl, c1.le, c1.nd, fx, hall x hx, bb app no⟩))
  · intro i t rs e1 e2
    obtain ⟨j, p, rs', a1, a2, a3, a4, a5, _⟩ := hT.all.at_ nd (List.mem_of_getElem? e1)
    have ej : j = i := by
      have hj := (List.getElem?_eq_some_iff.mp a1)
      have hi := (List.getElem?_eq_some_iff.mp e1)
      have pw := List.pairwise_iff_getElem.mp nd
      obtain ⟨hj1, hj2⟩ := hj
      obtain ⟨hi1, hi2⟩ := hi
      have e1 : (ts.map (·.1))[j]'(by simpa using hj1) = (ts.map (·.1))[i]'(by simpa using hi1) := by simp [hj2, hi2]
      rcases Nat.lt_trichotomy j i with z | z | z
      · exact absurd e1 (pw _ _ _ _ z)
      · exact z
      · exact absurd e1.symm (pw _ _ _ _ z)
    subst ej
    rw [a3] at e2
    cases e2
    exact ⟨p, List.mem_of_getElem? a2, a4, a5⟩
end
end K04

set_option autoImplicit false
set_option maxRecDepth 100000
set_option maxHeartbeats 4000000
namespace K04
open PySem PySem.Spec PyProof.Rows L2 DL
/-! what the law needs: both ways to see come to the same, and how great things are -/
theorem sort_permS {a b : List Row} (h : a.Perm b) : a.mergeSort leR = b.mergeSort leR := srt_eq (srt_sort a) (srt_sort b) fun r => by rw [count_sort, count_sort]; exact (List.perm_iff_count.mp h) r
theorem Chk.tup {cs : Cols} {n : Nat} {d : D} (h : Chk cs n d) : ∃ xs, d = .tup xs := by cases h <;> exact ⟨_, rfl⟩
theorem seen_both {cs : Cols} {rs : List Row} {r : D} (hc : ColsN 4 cs) (h : RightN cs r) : ∃ o1 o2, SeenR cs (rs.mergeSort leR) r o1 ∧ SeenR cs rs r o2 ∧ o1.mergeSort leR = o2.mergeSort leR ∧ o1.length ≤ rs.length ∧ (∀ x ∈ o1, ∃ y ∈ rs, x = y ∨ ∃ bs : List Bool, bs.length = cs.length ∧ x = veil y bs) := by
  cases h with
  | non => exact ⟨[], [], .non, .non, rfl, Nat.zero_le _, fun x hx => by cases hx⟩
  | mk c ns h1 h2 =>
    have hl : ns.length ≤ 1000 := by have := h2.length_le; rw [List.length_map] at this; have := hc.le; omega
    have mem : ∀ x, x ∈ rs.mergeSort leR ↔ x ∈ rs := fun x => (List.mergeSort_perm rs leR).mem_iff
    have go : ∀ hb : Row → Bool, (c = .non ∧ (∀ x ∈ rs, hb x = true) ∨ (∃ xs, c = .tup xs) ∧ ∀ x ∈ rs, SemC cs (x.map woD) 2 c (hb x)) → ∃ o1 o2, SeenR cs (rs.mergeSort leR) (.tup [c, .tup (ns.map D.str)]) o1 ∧ SeenR cs rs (.tup [c, .tup (ns.map D.str)]) o2 ∧ o1.mergeSort leR = o2.mergeSort leR ∧ o1.length ≤ rs.length ∧
        (∀ x ∈ o1, ∃ y ∈ rs, x = y ∨ ∃ bs : List Bool, bs.length = cs.length ∧ x = veil y bs) := fun hb hx => by
      refine ⟨_, _, .mk c ns hb ?_ hl, .mk c ns hb hx hl, sort_permS (((List.mergeSort_perm rs leR).filter hb).map _), ?_, fun x hx => ?_⟩
      · exact hx.imp (fun ⟨a, b⟩ => ⟨a, fun x q => b x ((mem x).mp q)⟩) fun ⟨a, b⟩ => ⟨a, fun x q => b x ((mem x).mp q)⟩
      · rw [List.length_map]
        have := List.length_filter_le hb (rs.mergeSort leR)
        rw [List.length_mergeSort] at this
        exact this
      · obtain ⟨y, hy, rfl⟩ := List.mem_map.mp hx
        exact ⟨y, (mem y).mp (List.mem_filter.mp hy).1, .inr ⟨_, by rw [List.length_map], rfl⟩⟩
    rcases h1 with rfl | h1
    · exact go (fun _ => true) (.inl ⟨rfl, fun _ _ => rfl⟩)
    · exact go (fun x => (SemC.of (x.map woD) h1).choose) (.inr ⟨h1.tup, fun x _ => (SemC.of (x.map woD) h1).choose_spec⟩)
theorem row_pu {cs : Cols} {r : Row} (h : RowG cs r) (hl : cs.length ≤ 4) : Pu 168 1 (rowD r) := by
  refine pu_many (a := 41) (b := 0) (n := 4) (fun x hx => ?_) (by rw [List.length_map, h.len]; exact hl)
  obtain ⟨kd, hw⟩ := rowF_wo h x hx
  exact hw.pu
theorem veil_pu {cs : Cols} {r : Row} {bs : List Bool} (h : RowG cs r) (hl : cs.length ≤ 4) (hb : bs.length = cs.length) : Pu 168 1 (rowD (veil r bs)) := by
  refine pu_many (a := 41) (b := 0) (n := 4) (fun x hx => ?_) (by rw [List.length_map, veil_len r bs (by rw [h.len, hb]), h.len]; exact hl)
  obtain ⟨y, hy, rfl⟩ := List.mem_map.mp hx
  rcases veil_mem hy with z | rfl
  · obtain ⟨kd, hw⟩ := rowF_wo h (woD y) (List.mem_map_of_mem z)
    exact hw.pu
  · exact pu_non
theorem bag_pu {b : List Row} (h : ∀ r ∈ b, Pu 168 1 (rowD r)) (hl : b.length ≤ 60) : Pu 10140 2 (bagD (b.mergeSort leR)) := by
  refine pu_many (a := 168) (b := 1) (n := 60) (fun x hx => ?_) (by rw [List.length_map, List.length_mergeSort]; exact hl)
  obtain ⟨y, hy, rfl⟩ := List.mem_map.mp hx
  exact h y ((List.mergeSort_perm b leR).mem_iff.mp hy)
/-- all of them -/
theorem seen_all {M : Mem} {ts : List (Str × Cols)} {ps : List Addr} {tr : List (List Row)} (h : TabsQ M 60 ts ps tr) : ∀ {rts : List D}, Rts ts rts → (∀ t ∈ ts, ColsN 4 t.2 ∧ (t.2.map (·.1)).Nodup) →
    ∃ oa ob, SeenA ts (tr.map (·.mergeSort leR)) rts oa ∧ SeenA ts tr rts ob ∧ oa.map (·.mergeSort leR) = ob.map (·.mergeSort leR) ∧ (∀ b ∈ tr, Pu 10140 2 (bagD (b.mergeSort leR))) ∧ (∀ o ∈ oa, Pu 10140 2 (bagD (o.mergeSort leR))) := by
  induction h with
  | nil =>
    intro rts hr _
    cases hr
    exact ⟨[], [], .nil, .nil, rfl, fun _ h => (by cases h), fun _ h => (by cases h)⟩
  | @cons t ts p ps rs tr h1 h2 h3 ih =>
    intro rts hr hc
    cases hr with
    | cons hr1 hr2 =>
      obtain ⟨c1, c2⟩ := hc t List.mem_cons_self
      obtain ⟨oa, ob, a1, a2, a3, a4, a5⟩ := ih hr2 fun t ht => hc t (List.mem_cons_of_mem _ ht)
      obtain ⟨o1, o2, b1, b2, b3, b4, b5⟩ := seen_both (rs := rs) c1 hr1
      have cn : CsN t.2 := ⟨c1.ne, by have := c1.le; omega, c1.nm, c2⟩
      have ln := h2.ln
      refine ⟨o1 :: oa, o2 :: ob, .cons cn (fun x hx => h2.fit x ((List.mergeSort_perm rs leR).mem_iff.mp hx)) (by rw [List.length_mergeSort]; omega) b1 a1, .cons cn h2.fit (by omega) b2 a2, by rw [List.map_cons, List.map_cons, b3, a3], fun b hb => ?_, fun o ho => ?_⟩
      · rcases List.mem_cons.mp hb with rfl | hb
        · exact bag_pu (fun r hr => row_pu (h2.fit r hr) c1.le) ln
        · exact a4 b hb
      · rcases List.mem_cons.mp ho with rfl | ho
        · refine bag_pu (fun r hr => ?_) (by omega)
          obtain ⟨y, hy, z | ⟨bs, hb, z⟩⟩ := b5 r hr
          · rw [z]; exact row_pu (h2.fit y hy) c1.le
          · rw [z]; exact veil_pu (h2.fit y hy) c1.le hb
        · exact a5 o ho
theorem merge_tabK : ∀ {tz : List (Str × Cols)} {qs : List Addr} {ta : List (Str × Cols)} {cs : List Addr}, cs.length = ta.length → qs.length = tz.length → ((ta ++ tz).map (·.1)).Nodup → mergeD (tabK ta cs) (tabK tz qs) = tabK (ta ++ tz) (cs ++ qs)
  | [], [], ta, cs, _, _, _ => by rw [List.append_nil, List.append_nil]; rfl
  | t :: tz, q :: qs, ta, cs, h1, h2, nd => by
    have tn : t.1 ∉ ta.map (·.1) := fun z => by
      rw [List.map_append, List.nodup_append] at nd
      exact nd.2.2 _ z _ (by simp) rfl
    have e : mergeD (tabK ta cs) (tabK (t :: tz) (q :: qs)) = mergeD (putD (tabK ta cs) (.inr t.1) (.cel q)) (tabK tz qs) := rfl
    rw [e, put_tabK h1 tn, merge_tabK (tz := tz) (qs := qs) (ta := ta ++ [t]) (cs := cs ++ [q]) (by simp [h1]) (by simpa using h2) (by rw [List.append_assoc]; exact nd), List.append_assoc, List.append_assoc]
    rfl
  | [], _ :: _, _, _, _, h, _ => by cases h
  | _ :: _, [], _, _, _, h, _ => by cases h
end K04

set_option autoImplicit false
set_option maxRecDepth 100000
set_option maxHeartbeats 4000000
namespace K04
open PySem PySem.Spec PyProof.Rows L2 DL
section
variable {P : Program} {w : World} {K : PySem.W.Frag} {mg : Str → Option Value} {base : Heap}
/-! the law -/
theorem rng_at {n : Nat} {d : D} (h : d ∈ rng 0 n) : ∃ t : Nat, d = .int (t : Nat) ∧ t < n := by
  unfold rng at h
  obtain ⟨i, hi, rfl⟩ := List.mem_map.mp h
  exact ⟨i, by simp, List.mem_range.mp hi⟩
theorem r_sameT {s : Str} {M : Mem} {k : KD} (hk : k (.bl false) M) : rdEq not (.str s) (.str s) M k := eq_strA (by rw [decide_eq_true rfl]; exact hk)
theorem pairs_tab : ∀ {ts : List (Str × Cols)} {qs : List Addr}, qs.length = ts.length → pairsD (List.zipWith (fun t q => D.tup [.str t.1, .cel q]) ts qs) = some (tabK ts qs)
  | [], [], _ => rfl
  | t :: ts, q :: qs, h => by
    have ih := pairs_tab (ts := ts) (qs := qs) (by simpa using h)
    unfold tabK at ih ⊢
    rw [List.zipWith_cons_cons, List.zipWith_cons_cons, pairsD, ih]
    rfl
  | [], _ :: _, h => by cases h
  | _ :: _, [], h => by cases h
theorem SeenR.rows {cs : Cols} {rs o : List Row} {r : D} (h : SeenR cs rs r o) (hc : CsN cs) (hr : ∀ x ∈ rs, RowG cs x) (hl : rs.length ≤ 1000) : RowsN 1000 o := by
  cases h with
  | non => exact ⟨fun _ h => (by cases h), fun _ h => (by cases h), Nat.zero_le _⟩
  | mk c ns hb _ _ =>
    have lf := List.length_filter_le hb rs
    refine ⟨fun r hr' => ?_, fun r hr' => ?_, by rw [List.length_map]; omega⟩
    · obtain ⟨x, hx, rfl⟩ := List.mem_map.mp hr'
      exact (hr x (List.mem_filter.mp hx).1).veil hc.ne (by rw [List.length_map])
    · obtain ⟨x, hx, rfl⟩ := List.mem_map.mp hr'
      have g := hr x (List.mem_filter.mp hx).1
      rw [veil_len _ _ (by rw [g.len, List.length_map]), g.len]
      exact hc.le
theorem lst_at {M : Mem} {ts : List (Str × Cols)} {cs : List Addr} {os : List (List Row)} (h : LstQ M ts cs os) : (ts.map (·.1)).Nodup → ∀ {tr : List (List Row)} {rs : List D}, SeenA ts tr rs os → ∀ (i : Nat) (t : Str × Cols), ts[i]? = some t →
    ∃ (c : Addr) (o : List Row), os[i]? = some o ∧ lookD (tabK ts cs) (.inr t.1) = some (.cel c) ∧ M c = some (.lst (o.map rowD)) ∧ RowsN 1000 o := by
  induction h with
  | nil => intro _ tr rs _ i t e; cases e
  | @cons t0 ts p ps o os h1 h2 ih =>
    intro nd tr rs hs i t e
    have nd' := List.nodup_cons.mp nd
    cases hs with
    | cons c1 c2 c3 c4 c5 =>
      cases i with
      | zero =>
        simp only [List.getElem?_cons_zero, Option.some.injEq] at e
        subst e
        refine ⟨p, o, rfl, ?_, h1, c4.rows c1 c2 c3⟩
        unfold tabK lookD
        rw [List.zipWith_cons_cons, List.find?_cons]; simp
      | succ i =>
        simp only [List.getElem?_cons_succ] at e
        obtain ⟨c, o', b1, b2, b3, b4⟩ := ih nd'.2 c5 i t e
        refine ⟨c, o', by simpa using b1, ?_, b3, b4⟩
        have ne : t0.1 ≠ t.1 := fun z => nd'.1 (by show t0.1 ∈ _; rw [z]; exact List.mem_map_of_mem (f := fun x : Str × Cols => x.1) (List.mem_of_getElem? e))
        have ne' : ¬ (Sum.inr t0.1 : Key) = Sum.inr t.1 := fun z => ne (Sum.inr.inj z)
        unfold tabK lookD at b2 ⊢
        rw [List.zipWith_cons_cons, List.find?_cons]
        simp only [ne', decide_false]
        exact b2
theorem tabs_new {M : Mem} : ∀ {ts : List (Str × Cols)} {qs : List Addr}, qs.length = ts.length → (∀ q ∈ qs, M q = some (.dct [])) → TabsQ M 0 ts qs (ts.map fun _ => [])
  | [], [], _, _ => .nil
  | t :: ts, q :: qs, h, e => .cons (e q List.mem_cons_self) ⟨fun _ h => (by cases h), fun _ h => (by cases h), List.nodup_nil, Nat.le_refl _⟩ (tabs_new (by simpa using h) fun x hx => e x (List.mem_cons_of_mem _ hx))
  | [], _ :: _, h, _ => by cases h
  | _ :: _, [], h, _ => by cases h
theorem zip_snoc {t : Str × Cols} {q : Addr} : ∀ {ts : List (Str × Cols)} {qs : List Addr}, qs.length = ts.length → List.zipWith (fun t q => D.tup [.str t.1, .cel q]) (ts ++ [t]) (qs ++ [q]) = List.zipWith (fun t q => D.tup [.str t.1, .cel q]) ts qs ++ [.tup [.str t.1, .cel q]]
  | [], [], _ => rfl
  | _ :: ts, _ :: qs, h => by
    rw [List.cons_append, List.cons_append, List.zipWith_cons_cons, zip_snoc (ts := ts) (qs := qs) (by simpa using h), List.zipWith_cons_cons, List.cons_append]
  | [], _ :: _, h => by cases h
  | _ :: _, [], h => by cases h
theorem Rts.pu {ts : List (Str × Cols)} {rs : List D} (h : Rts ts rs) (hp : ∀ t ∈ ts, ColsN 4 t.2) : ∀ r ∈ rs, Pu 300 3 r := by
  induction h with
  | nil => intro r hr; cases hr
  | cons q _ ih =>
    intro r hr
    rcases List.mem_cons.mp hr with rfl | hr
    · exact q.pu (hp _ List.mem_cons_self)
    · exact ih (fun t ht => hp t (List.mem_cons_of_mem _ ht)) r hr
def F_law : FD := fun ds M k => ∃ ns : List Int, ds = [.scr (ns.map D.int)] ∧ ns.length ≤ 63 ∧ ∀ M', k (.bl true) M'
theorem ok_law (T : Txt K mg) (B : DD K mg) (L : Lams K mg base B) : DFn P w K mg base 40 B.f_law B.fd_law p_law F_law := by
  have G_law_take : DFn P w K mg base 1 B.f_law_take B.fd_law_take p_law_take F_take := ok_take T B
  have G_law_hand : DFn P w K mg base 1 B.f_law_hand B.fd_law_hand p_law_hand F_lhand := ok_lhand T B
  have G_law_plan : DFn P w K mg base 4 B.f_law_plan B.fd_law_plan p_law_plan F_plan := ok_plan T B
  have G_law_dealing : DFn P w K mg base 6 B.f_law_dealing B.fd_law_dealing p_law_dealing F_dealC := ok_dealC T B
  have G_law_store : DFn P w K mg base 9 B.f_law_store B.fd_law_store p_law_store F_lstoreC := ok_lstoreC T B L
  have G_law_rights : DFn P w K mg base 8 B.f_law_rights B.fd_law_rights p_law_rights F_rights := ok_rights T B
  have G_law_seen : DFn P w K mg base 6 B.f_law_seen B.fd_law_seen p_law_seen F_lseenC := ok_lseenC T B
  have G_law_bag : DFn P w K mg base 8 B.f_law_bag B.fd_law_bag p_law_bag F_lbagW := ok_lbagW T B L
  have G_seen : DFn P w K mg base 10 B.f_seen B.fd_seen p_seen F_seen := ok_seen T B
  refine Fun.okD (k := 39) B.d_law.F sc_law (fun cdv A outer s H E hr => (dss_cons (ds_for rfl (di_range T.b_range (da_cons (de_add de_int (de_min2 rfl T.b_min de_int (de_len T.b_len (dv 0)))) da_nil)) (dg_name (i := 1) sc_law.nd) (dss_cons (ds_set (i := 2) sc_law.nd (de_own B.d_law_hand G_law_hand hr (by first | decide | omega) (da_cons (dv 0) (da_cons (dv 1) da_nil)))) (dss_cons (ds_set (i := 3) sc_law.nd (de_own B.d_law_plan G_law_plan hr (by first | decide | omega) (da_cons (dv 2) (da_cons (de_add de_int (de_own B.d_law_take G_law_take hr (by first | decide | omega) (da_cons (dv 2) (da_cons de_int da_nil)))) da_nil)))) (dss_cons (ds_set (i := 4) sc_law.nd (de_dict rfl T.b_dict (de_lc rfl sc_law.nd (di_tup (dv 3)) (blkOk_by (own := [("name", 5), ("columns", 6)]) (N := N_law) (sc := defScope s_law) (by decide +kernel)) (fun _ _ _ _ _ => (dg_tup rfl (dgs_cons (dg_name (i := 5) sc_law.nd) (dgs_cons (dg_name (i := 6) sc_law.nd) dgs_nil)) (gsCons_len (gsCons_len gsNil_len)))) (gd_tup (gds_cons gd_name (gds_cons gd_name gds_nil)) (gsCons_len (gsCons_len gsNil_len))) (fun _ _ _ _ _ => dts_nil) (fun _ _ _ _ _ => (de_tup (da_cons (dv 5) (da_cons de_dnew da_nil))))))) (dss_one (ds_for rfl (di_range T.b_range (da_cons de_int da_nil)) (dg_name (i := 7) sc_law.nd) (dss_cons (ds_expr (de_own B.d_law_dealing G_law_dealing hr (by first | decide | omega) (da_cons (dv 2) (da_cons (dv 3) (da_cons (dv 4) (da_cons de_int da_nil)))))) (dss_cons (ds_par (i := 8) (j := 9) rfl sc_law.nd (da_cons (de_own B.d_law_store G_law_store hr (by first | decide | omega) (da_cons (dv 3) (da_cons (dv 4) da_nil))) (da_cons (de_own B.d_law_rights G_law_rights hr (by first | decide | omega) (da_cons (dv 2) (da_cons (dv 3) da_nil))) da_nil)) rfl rfl (by decide) rfl rfl (by rfl)) (dss_cons (ds_asg (dg_tup rfl (dgs_cons (dg_name (i := 10) sc_law.nd) (dgs_cons (dg_name (i := 11) sc_law.nd) dgs_nil)) (gsCons_len (gsCons_len gsNil_len))) (de_tup (da_cons (de_repr hr T.b_repr (de_tup (da_cons (dv 8) (da_cons (dv 9) da_nil)))) (da_cons (de_own B.d_law_seen G_law_seen hr (by first | decide | omega) (da_cons (dv 3) (da_cons (dv 4) (da_cons (dv 9) da_nil)))) da_nil)))) (dss_cons (ds_set (i := 12) sc_law.nd (de_tuple T.b_tuple (de_lc rfl sc_law.nd (di_tup (dv 3)) (blkOk_by (own := [("name", 5), ("columns", 6)]) (N := N_law) (sc := defScope s_law) (by decide +kernel)) (fun _ _ _ _ _ => (dg_tup rfl (dgs_cons (dg_name (i := 5) sc_law.nd) (dgs_cons (dg_name (i := 6) sc_law.nd) dgs_nil)) (gsCons_len (gsCons_len gsNil_len)))) (gd_tup (gds_cons gd_name (gds_cons gd_name gds_nil)) (gsCons_len (gsCons_len gsNil_len))) (fun _ _ _ _ _ => dts_nil) (fun _ _ _ _ _ => (de_own B.d_law_bag G_law_bag hr (by first | decide | omega) (da_cons (de_get (hu_of hr.r) (dv 11) (dv 5)) da_nil)))))) (dss_one (ds_if (dw_pt (dw_or (dt_cmpA (c_ne hr) (de_repr hr T.b_repr (de_own B.d_seen G_seen hr (by first | decide | omega) (da_cons (dv 3) (da_cons (dv 8) (da_cons (dv 9) da_nil))))) (de_repr hr T.b_repr (dv 12))) (dw_or1 (dt_cmpA (c_ne hr) (de_repr hr T.b_repr (de_tup (da_cons (dv 8) (da_cons (dv 9) da_nil)))) (dv 10))))) (dss_one (ds_ret de_bl)) dss_nil)))))))))))) (dss_one (ds_ret de_bl)))) (fun ds M k h => ?_)
  obtain ⟨ns, rfl, hn, hk⟩ := h
  (refine ⟨rfl, ?_⟩; rw [show startD N_law [.scr (ns.map D.int)] = [some (.scr (ns.map D.int)), none, none, none, none, none, none, none, none, none, none, none, none] from rfl])
  have hz := sizeLine_eq
  refine seq_step ?_
  simp only [wFor, wNext, wBreak, wContinue, wExpr, wRet, wRetN, wSet, wAsg, wPar, wPar3, wSub, wTst, wOp, wChain, wNotT, wAndV, wOrV, wNotV, wIf, wNil, wCons, wTup, wLst, wLstM, wCall, wCall0, wVar, wC, wLc, wLcM, wYes, wiL, wiT, wiS, wiR, wiEnT, wiEnL, wiZip, wSl, woNone, woSome, wMt, wJoin, wGet, wUn, wTru, wDNew, fin, List.getElem?_cons_zero, List.getElem?_cons_succ, List.set_cons_zero, List.set_cons_succ]
  refine r_lenR (r_min2 (r_add ⟨⟨by split <;> omega, by split <;> omega⟩, ?_⟩))
  refine loop_inv (fun its Γ M' => (∀ d ∈ its, ∃ i : Nat, d = D.int (i : Nat) ∧ i ≤ 1000) ∧ ∃ x1 x2 x3 x4 x5 x6 x7 x8 x9 x10 x11 x12, Γ = [some (.scr (ns.map D.int)), x1, x2, x3, x4, x5, x6, x7, x8, x9, x10, x11, x12]) (fun _ _ _ _ => trivial) ?_ ?_ _ _ _
    ⟨fun d hd => ?_, _, _, _, _, _, _, _, _, _, _, _, _, rfl⟩
  · rintro Γ M1 ⟨_, x1, x2, x3, x4, x5, x6, x7, x8, x9, x10, x11, x12, rfl⟩
    exact hk M1
  · rintro d its Γ M1 ⟨hi, x1, x2, x3, x4, x5, x6, x7, x8, x9, x10, x11, x12, rfl⟩
    obtain ⟨i, rfl, hi1⟩ := hi d List.mem_cons_self
    refine ⟨_, rfl, fun k' v1 v2 v3 v4 => ?_⟩
    refine seq_step ?_
    simp only [wNext, wBreak, wContinue, wExpr, wRet, wRetN, wSet, wAsg, wPar, wPar3, wSub, wTst, wOp, wChain, wNotT, wAndV, wOrV, wNotV, wIf, wNil, wCons, wTup, wLst, wLstM, wCall, wCall0, wVar, wC, wLc, wLcM, wYes, wiL, wiT, wiS, wiR, wiEnT, wiEnL, wiZip, wSl, woNone, woSome, wMt, wJoin, wGet, wUn, wTru, wDNew, fin, List.getElem?_cons_zero, List.getElem?_cons_succ, List.set_cons_zero, List.set_cons_succ]
    refine ⟨ns, i, rfl, hn, hi1, fun h M2 hM hh e2 => ?_⟩
    refine seq_step ?_
    simp only [wNext, wBreak, wContinue, wExpr, wRet, wRetN, wSet, wAsg, wPar, wPar3, wSub, wTst, wOp, wChain, wNotT, wAndV, wOrV, wNotV, wIf, wNil, wCons, wTup, wLst, wLstM, wCall, wCall0, wVar, wC, wLc, wLcM, wYes, wiL, wiT, wiS, wiR, wiEnT, wiEnL, wiZip, wSl, woNone, woSome, wMt, wJoin, wGet, wUn, wTru, wDNew, fin, List.getElem?_cons_zero, List.getElem?_cons_succ, List.set_cons_zero, List.set_cons_succ]
    refine ⟨h, 0, 3, rfl, hh, by decide, by decide, by decide, fun r M3 r0 r1 h3 e3 => r_add ?_⟩
    obtain ⟨j, rfl⟩ : ∃ j : Nat, r = (j : Int) := ⟨r.toNat, by omega⟩
    have e1j : (1 : Int) + (j : Int) = ((j + 1 : Nat) : Int) := by omega
    rw [e1j]
    refine ⟨h, _, j + 1, rfl, h3, by decide, by omega, by omega, fun ts M4 okp h4 e4 => ?_⟩
    have tl := okp.le
    refine seq_step ?_
    simp only [wNext, wBreak, wContinue, wExpr, wRet, wRetN, wSet, wAsg, wPar, wPar3, wSub, wTst, wOp, wChain, wNotT, wAndV, wOrV, wNotV, wIf, wNil, wCons, wTup, wLst, wLstM, wCall, wCall0, wVar, wC, wLc, wLcM, wYes, wiL, wiT, wiS, wiR, wiEnT, wiEnL, wiZip, wSl, woNone, woSome, wMt, wJoin, wGet, wUn, wTru, wDNew, fin, List.getElem?_cons_zero, List.getElem?_cons_succ, List.set_cons_zero, List.set_cons_succ]
    refine lc_inv (G := gAny) (fun its acc M' => ∃ (ta tz : List (Str × Cols)) (qs : List Addr), ts = ta ++ tz ∧ its = tz.map tabD ∧ qs.length = ta.length ∧ acc = List.zipWith (fun t q => D.tup [.str t.1, .cel q]) ta qs ∧ (∀ q ∈ qs, M' q = some (.dct [])) ∧ qs.Nodup ∧ h ∉ qs ∧ Hn M' h 17)
      (fun _ _ _ _ => trivial) ?_ ?_ ?_ _ _ _ ⟨[], ts, [], rfl, rfl, rfl, rfl, fun q hq => (by cases hq), List.nodup_nil, List.not_mem_nil, h4⟩
    · rintro acc M5 ⟨ta, tz, qs, e1, e2, e3, rfl, q1, q2, q3, h5⟩
      have : tz = [] := List.map_eq_nil_iff.mp e2.symm
      subst this
      rw [List.append_nil] at e1
      subst e1
      unfold rdDict
      simp only [asR, pairs_tab e3]
      intro p hp
      have em : mergeD [] (tabK ts qs) = tabK ts qs := merge_tabK (ta := []) (cs := []) rfl e3 okp.un
      rw [em]
      have ph := h5.fresh hp
      have pq : p ∉ qs := fun z => by rw [q1 p z] at hp; cases hp
      have T0 : TabsT (setM M5 p (.dct (tabK ts qs))) h p 0 ts qs (ts.map fun _ => []) := by
        refine ⟨setM_same, tabs_new e3 fun q hq => ?_, List.nodup_cons.mpr ⟨fun z => ?_, List.nodup_cons.mpr ⟨pq, q2⟩⟩⟩
        · rw [setM_ne fun z => pq (by rw [← z]; exact hq)]; exact q1 q hq
        · rcases List.mem_cons.mp z with z | z
          · exact ph z.symm
          · exact q3 z
      simp only [wFor, wNext, wBreak, wContinue, wExpr, wRet, wRetN, wSet, wAsg, wPar, wPar3, wSub, wTst, wOp, wChain, wNotT, wAndV, wOrV, wNotV, wIf, wNil, wCons, wTup, wLst, wLstM, wCall, wCall0, wVar, wC, wLc, wLcM, wYes, wiL, wiT, wiS, wiR, wiEnT, wiEnL, wiZip, wSl, woNone, woSome, wMt, wJoin, wGet, wUn, wTru, wDNew, fin, List.getElem?_cons_zero, List.getElem?_cons_succ, List.set_cons_zero, List.set_cons_succ]
      refine ⟨⟨by decide, by decide⟩, ?_⟩
      refine loop_inv (fun its' Γ M' => ∃ (c : Nat) (tr : List (List Row)) (x1 x5 x6 x7 x8 x9 x10 x11 x12 : Option D), c + its'.length ≤ 6 ∧ TabsT M' h p (5 * c) ts qs tr ∧ Hn M' h (20 + 200 * c) ∧
          Γ = [some (.scr (ns.map D.int)), x1, some (.cel h), some (.tup (ts.map tabD)), some (.cel p), x5, x6, x7, x8, x9, x10, x11, x12]) (fun _ _ _ _ => trivial) ?_ ?_ _ _ _
        ⟨0, _, _, _, _, _, _, _, _, _, _, by simp [rng], T0, (h5.up (by omega)).set ph, rfl⟩
      · rintro Γ M6 ⟨c, tr, x1, x5, x6, x7, x8, x9, x10, x11, x12, _, _, _, rfl⟩
        exact v3 _ _ ⟨fun d hd => hi d (List.mem_cons_of_mem _ hd), _, _, _, _, _, _, _, _, _, _, _, _, rfl⟩
      · rintro d' its' Γ M6 ⟨c, tr, x1, x5, x6, x7, x8, x9, x10, x11, x12, hc, hT, h6, rfl⟩
        simp only [List.length_cons] at hc
        refine ⟨_, rfl, fun k'' u1 u2 u3 u4 => ?_⟩
        refine seq_step ?_
        simp only [wNext, wBreak, wContinue, wExpr, wRet, wRetN, wSet, wAsg, wPar, wPar3, wSub, wTst, wOp, wChain, wNotT, wAndV, wOrV, wNotV, wIf, wNil, wCons, wTup, wLst, wLstM, wCall, wCall0, wVar, wC, wLc, wLcM, wYes, wiL, wiT, wiS, wiR, wiEnT, wiEnL, wiZip, wSl, woNone, woSome, wMt, wJoin, wGet, wUn, wTru, wDNew, fin, List.getElem?_cons_zero, List.getElem?_cons_succ, List.set_cons_zero, List.set_cons_succ]
        refine ⟨h, _, p, _, ts, qs, tr, rfl, okp, hT, by omega, h6, by omega, fun x M7 tr2 hT2 h7 => ?_⟩
        refine seq_step ?_
        simp only [wNext, wBreak, wContinue, wExpr, wRet, wRetN, wSet, wAsg, wPar, wPar3, wSub, wTst, wOp, wChain, wNotT, wAndV, wOrV, wNotV, wIf, wNil, wCons, wTup, wLst, wLstM, wCall, wCall0, wVar, wC, wLc, wLcM, wYes, wiL, wiT, wiS, wiR, wiEnT, wiEnL, wiZip, wSl, woNone, woSome, wMt, wJoin, wGet, wUn, wTru, wDNew, fin, List.getElem?_cons_zero, List.getElem?_cons_succ, List.set_cons_zero, List.set_cons_succ]
        refine ⟨h, p, _, ts, qs, tr2, rfl, hT2, by omega, by omega, okp.un, fun t ht => ⟨(okp.ok t ht).ne, by have := (okp.ok t ht).le; omega⟩, ?_⟩
        refine ⟨h, _, ts, rfl, h7, by omega, okp, fun rs M8 hr h8 e8 => ?_⟩
        have hT8 := hT2.ex e8
        have cq : ∀ t ∈ ts, ColsN 4 t.2 ∧ (t.2.map (·.1)).Nodup := fun t ht => ⟨okp.ok t ht, okp.nd t ht⟩
        obtain ⟨oa, ob, a1, a2, a3, a4, a5⟩ := seen_all (hT8.all.up (by omega) fun _ _ => rfl) hr cq
        have lb := a2.len
        have la := a1.len
        have rl := hr.length
        have gs : Pu 30423 3 (.tup (tr2.map fun rs => bagD (rs.mergeSort leR))) := pu_many (a := 10140) (b := 2) (n := 3) (fun x hx => by obtain ⟨b, hb, rfl⟩ := List.mem_map.mp hx; exact a4 b hb) (by rw [List.length_map]; omega)
        have gw : Pu 30423 3 (.tup (oa.map fun o => bagD (o.mergeSort leR))) := pu_many (a := 10140) (b := 2) (n := 3) (fun x hx => by obtain ⟨b, hb, rfl⟩ := List.mem_map.mp hx; exact a5 b hb) (by rw [List.length_map]; omega)
        have gr : Pu 903 4 (.tup rs) := pu_many (a := 300) (b := 3) (n := 3) (hr.pu okp.ok) (by omega)
        have gb := pu2 (gs.up (Nat.le_refl _) (show 3 ≤ 4 by decide)) gr
        refine seq_step ?_
        simp only [wNext, wBreak, wContinue, wExpr, wRet, wRetN, wSet, wAsg, wPar, wPar3, wSub, wTst, wOp, wChain, wNotT, wAndV, wOrV, wNotV, wIf, wNil, wCons, wTup, wLst, wLstM, wCall, wCall0, wVar, wC, wLc, wLcM, wYes, wiL, wiT, wiS, wiR, wiEnT, wiEnL, wiZip, wSl, woNone, woSome, wMt, wJoin, wGet, wUn, wTru, wDNew, fin, List.getElem?_cons_zero, List.getElem?_cons_succ, List.set_cons_zero, List.set_cons_succ]
        refine ⟨(show 2 ≤ sizeLine by decide), r_reprP gb (by decide) (by decide) ?_⟩
        refine ⟨h, p, _, ts, qs, tr2, rs, ob, rfl, hT8, by omega, by omega, okp.un, a2, fun f M9 cs m1 m2 m3 => ⟨(show 2 ≤ sizeLine by decide), ?_⟩⟩
        simp only [gT, gsCons, gN, gsNil, wNext, wBreak, wContinue, wExpr, wRet, wRetN, wSet, wAsg, wPar, wPar3, wSub, wTst, wOp, wChain, wNotT, wAndV, wOrV, wNotV, wIf, wNil, wCons, wTup, wLst, wLstM, wCall, wCall0, wVar, wC, wLc, wLcM, wYes, wiL, wiT, wiS, wiR, wiEnT, wiEnL, wiZip, wSl, woNone, woSome, wMt, wJoin, wGet, wUn, wTru, wDNew, fin, List.getElem?_cons_zero, List.getElem?_cons_succ, List.set_cons_zero, List.set_cons_succ]
        refine seq_step ?_
        simp only [wNext, wBreak, wContinue, wExpr, wRet, wRetN, wSet, wAsg, wPar, wPar3, wSub, wTst, wOp, wChain, wNotT, wAndV, wOrV, wNotV, wIf, wNil, wCons, wTup, wLst, wLstM, wCall, wCall0, wVar, wC, wLc, wLcM, wYes, wiL, wiT, wiS, wiR, wiEnT, wiEnL, wiZip, wSl, woNone, woSome, wMt, wJoin, wGet, wUn, wTru, wDNew, fin, List.getElem?_cons_zero, List.getElem?_cons_succ, List.set_cons_zero, List.set_cons_succ]
        have ew : ob.map (fun o => bagD (o.mergeSort leR)) = oa.map (fun o => bagD (o.mergeSort leR)) := by
          have z := congrArg (List.map bagD) a3
          rw [List.map_map, List.map_map] at z
          exact z.symm
        refine lc_inv (G := gAny) (fun its acc M' => ∃ i : Nat, its = (ts.drop i).map tabD ∧ acc = (ob.take i).map (fun o => bagD (o.mergeSort leR)) ∧ i ≤ ts.length ∧ M' = M9)
          (fun _ _ _ _ => trivial) ?_ ?_ ?_ _ _ _ ⟨0, rfl, by simp, Nat.zero_le _, rfl⟩
        · rintro acc M10 ⟨i', e, rfl, hi', rfl⟩
          have hle : ts.length ≤ i' := by
            have := congrArg List.length e
            simp at this
            omega
          rw [List.take_of_length_le (by omega), ew]
          refine r_tupL ?_
          unfold wIfS wOrT
          simp only [wNext, wBreak, wContinue, wExpr, wRet, wRetN, wSet, wAsg, wPar, wPar3, wSub, wTst, wOp, wChain, wNotT, wAndV, wOrV, wNotV, wIf, wNil, wCons, wTup, wLst, wLstM, wCall, wCall0, wVar, wC, wLc, wLcM, wYes, wiL, wiT, wiS, wiR, wiEnT, wiEnL, wiZip, wSl, woNone, woSome, wMt, wJoin, wGet, wUn, wTru, wDNew, fin, List.getElem?_cons_zero, List.getElem?_cons_succ, List.set_cons_zero, List.set_cons_succ]
          refine ⟨ts, tr2.map (·.mergeSort leR), rs, oa, by rw [List.map_map]; rfl, by omega, a1, r_reprP gw (by decide) (by decide) ?_⟩
          refine r_reprP gw (by decide) (by decide) (r_sameT (ff ?_))
          refine ⟨(show 2 ≤ sizeLine by decide), r_reprP gb (by decide) (by decide) (r_sameT (ff ?_))⟩
          have hT9 : TabsT M10 h p (5 * (c + 1)) ts qs tr2 := hT8.frame (by omega) fun a ha => by
            obtain ⟨cc, hcc⟩ : ∃ cc, M8 a = some cc := by
              rcases ha with rfl | ha
              · exact ⟨_, hT8.top⟩
              · exact hT8.all.cell a ha
            rw [hcc]; exact m3 a cc hcc
          have h9 : Hn M10 h (20 + 200 * (c + 1)) := by
            obtain ⟨a0, b0, c0, g0, g1⟩ := h8.up (m := 20 + 200 * (c + 1)) (by omega)
            exact ⟨a0, b0, c0, m3 _ _ g0, g1⟩
          exact u3 _ _ ⟨c + 1, tr2, _, _, _, _, _, _, _, _, _, by omega, hT9, h9, rfl⟩
        · rintro d its acc M10 ⟨i', e, rfl, hi', rfl⟩
          have hlt : i' < ts.length := by
            have := congrArg List.length e
            simp at this
            omega
          rw [List.drop_eq_getElem_cons hlt, List.map_cons] at e
          cases e
          refine ⟨_, rfl, fun ky kn hy hn' => ?_⟩
          simp only [wNext, wSeq, wBreak, wContinue, wExpr, wRet, wRetN, wIfS, wSet, wAsg, wPar, wPar3, wFor, wSub, wTst, wOp, wChain, wNotT, wAndT, wOrT, wAndV, wOrV, wNotV, wIf, wNil, wCons, wTup, wLst, wLstM, wCall, wCall0, wVar, wC, wLc, wLcM, wYes, wiL, wiT, wiS, wiR, wiEnT, wiEnL, wiZip, wSl, woNone, woSome, wMt, wJoin, wGet, wUn, wTru, wDNew, fin, List.getElem?_cons_zero, List.getElem?_cons_succ, List.set_cons_zero, List.set_cons_succ, wipeD, List.map]
          rw [if_pos trivial]
          obtain ⟨c', o, b1, b2, b3, b4⟩ := lst_at m2 okp.un a2 i' _ (List.getElem?_eq_getElem hlt)
          refine r_get m1 b2 ⟨o, .cel c', 1000, rfl, (by simp only [asR, b3]), b4, by decide, hy _ _ (by rw [List.length_map, List.length_take]; omega) ⟨i' + 1, rfl, ?_, by omega, rfl⟩⟩
          rw [List.take_add_one, b1, List.map_append]
          rfl
        · rintro its acc M10 ⟨i', rfl, rfl, hi', rfl⟩
          simp
          omega
    · rintro d its acc M' ⟨ta, tz, qs, e1, e2, e3, rfl, q1, q2, q3, h5⟩
      cases tz with
      | nil => cases e2
      | cons t tz =>
        rw [List.map_cons] at e2
        cases e2
        have lt : ts.length = ta.length + (tz.length + 1) := by rw [e1]; simp
        refine ⟨_, rfl, fun ky kn hy hn' => ?_⟩
        simp only [wNext, wSeq, wBreak, wContinue, wExpr, wRet, wRetN, wIfS, wSet, wAsg, wPar, wPar3, wFor, wSub, wTst, wOp, wChain, wNotT, wAndT, wOrT, wAndV, wOrV, wNotV, wIf, wNil, wCons, wTup, wLst, wLstM, wCall, wCall0, wVar, wC, wLc, wLcM, wYes, wiL, wiT, wiS, wiR, wiEnT, wiEnL, wiZip, wSl, woNone, woSome, wMt, wJoin, wGet, wUn, wTru, wDNew, fin, List.getElem?_cons_zero, List.getElem?_cons_succ, List.set_cons_zero, List.set_cons_succ, wipeD, List.map]
        rw [if_pos trivial]
        intro p hp
        refine ⟨(show 2 ≤ sizeLine by decide), hy _ _ (by rw [List.length_zipWith]; omega) ⟨ta ++ [t], tz, qs ++ [p], by rw [e1]; simp, rfl, by simp [e3], (zip_snoc e3).symm, fun q hq => ?_, ?_, fun z => ?_, h5.set (h5.fresh hp)⟩⟩
        · by_cases e : q = p
          · subst e; exact setM_same
          · rw [setM_ne e]
            rcases List.mem_append.mp hq with z | z
            · exact q1 q z
            · exact absurd (List.mem_singleton.mp z) e
        · rw [List.nodup_append]
          refine ⟨q2, List.nodup_cons.mpr ⟨List.not_mem_nil, List.nodup_nil⟩, fun a ha b hb e => ?_⟩
          rw [List.mem_singleton.mp hb] at e
          rw [e] at ha
          rw [q1 p ha] at hp
          cases hp
        · rcases List.mem_append.mp z with z | z
          · exact q3 z
          · exact h5.fresh hp (List.mem_singleton.mp z).symm
    · rintro its acc M' ⟨ta, tz, qs, e1, rfl, e3, rfl, _⟩
      have lt : ts.length = ta.length + tz.length := by rw [e1]; simp
      rw [List.length_zipWith, List.length_map]
      omega
  · obtain ⟨t, rfl, ht⟩ := rng_at hd
    refine ⟨t, rfl, ?_⟩
    simp only [List.length_map] at ht
    split at ht <;> omega
end
end K04

set_option autoImplicit false
set_option maxRecDepth 100000
set_option maxHeartbeats 4000000
namespace K04
open PySem L2 DL
theorem law_flaw : FLaw F_law := fun ns M k hl hk => ⟨ns, rfl, hl, hk⟩
theorem all_mk {l : PySem.W.OpenLaw} {w : World} {K : PySem.W.Frag} {h : Heap} {mg mb : Str → Option Value} {fa f0 f1 f2 f3 f4 f5 f6 f7 f8 f9 f10 f11 f12 f13 f14 f15 f16 f17 f18 f19 f20 f21 f22 f23 f24 f25 f26 : Addr} {q : Program} {loose : List Str} {mean : ExcName → Option Value} (X : K.In h) (T0 : PyProof.Rows.Top q loose mean mg mb h) (hfa : mg "law" = some (.ref fa))
    {od0 an0 od1 an1 od2 an2 od3 an3 od4 an4 od5 an5 od6 an6 od7 an7 od8 an8 od9 an9 od10 an10 od11 an11 od12 an12 od13 an13 od14 an14 od15 an15 od16 an16 od17 an17 od18 an18 od19 an19 od20 an20 od21 an21 od22 an22 od23 an23 od24 an24 od25 an25 od26 an26 : Option Addr} {sl0 sl1 sl2 sl3 sl4 sl5 sl6 sl7 sl8 sl9 sl10 sl11 sl12 sl13 sl14 sl15 sl16 sl17 sl18 sl19 sl20 sl21 sl22 sl23 sl24 sl25 sl26 : Array (Option Value)} {oc0 kV0 dc0 pm0 cd0 ct0 oc1 kV1 dc1 pm1 cd1 ct1 oc2 kV2 dc2 pm2 cd2 ct2 oc3 kV3 dc3 pm3 cd3 ct3 oc4 kV4 dc4 pm4 cd4 ct4 oc5 kV5 dc5 pm5 cd5 ct5 oc6 kV6 dc6 pm6 cd6 ct6 oc7 kV7 dc7 pm7 cd7 ct7 oc8 kV8 dc8 pm8 cd8 ct8 oc9 kV9 dc9 pm9 cd9 ct9 oc10 kV10 dc10 pm10 cd10 ct10 oc11 kV11 dc11 pm11 cd11 ct11 oc12 kV12 dc12 pm12 cd12 ct12 oc13 kV13 dc13 pm13 cd13 ct13 oc14 kV14 dc14 pm14 cd14 ct14 oc15 kV15 dc15 pm15 cd15 ct15 oc16 kV16 dc16 pm16 cd16 ct16 oc17 kV17 dc17 pm17 cd17 ct17 oc18 kV18 dc18 pm18 cd18 ct18 oc19 kV19 dc19 pm19 cd19 ct19 oc20 kV20 dc20 pm20 cd20 ct20 oc21 kV21 dc21 pm21 cd21 ct21 oc22 kV22 dc22 pm22 cd22 ct22 oc23 kV23 dc23 pm23 cd23 ct23 oc24 kV24 dc24 pm24 cd24 ct24 oc25 kV25 dc25 pm25 cd25 ct25 oc26 kV26 dc26 pm26 cd26 ct26 : Value}
    (a0 : PySem.W.nsIn K mainGlobals "is_whole" = some (some (.ref f0))) (l0 : K.lookup f0 = some ⟨oc0, od0, .func (PySem.W.fnOf "is_whole" "is_whole" (defArgs s_is_whole) (defBody s_is_whole) (defScope s_is_whole) .none kV0 dc0 pm0 an0 cd0 ct0), sl0⟩) (c0 : PySem.W.codeIn K cd0 "is_whole" = true) (k0 : PySem.W.keepIn K (.ref f0) = true)
    (a1 : PySem.W.nsIn K mainGlobals "is_name" = some (some (.ref f1))) (l1 : K.lookup f1 = some ⟨oc1, od1, .func (PySem.W.fnOf "is_name" "is_name" (defArgs s_is_name) (defBody s_is_name) (defScope s_is_name) .none kV1 dc1 pm1 an1 cd1 ct1), sl1⟩) (c1 : PySem.W.codeIn K cd1 "is_name" = true) (k1 : PySem.W.keepIn K (.ref f1) = true)
    (a2 : PySem.W.nsIn K mainGlobals "worth_place" = some (some (.ref f2))) (l2 : K.lookup f2 = some ⟨oc2, od2, .func (PySem.W.fnOf "worth_place" "worth_place" (defArgs s_worth_place) (defBody s_worth_place) (defScope s_worth_place) .none kV2 dc2 pm2 an2 cd2 ct2), sl2⟩) (c2 : PySem.W.codeIn K cd2 "worth_place" = true) (k2 : PySem.W.keepIn K (.ref f2) = true)
    (a3 : PySem.W.nsIn K mainGlobals "row_place" = some (some (.ref f3))) (l3 : K.lookup f3 = some ⟨oc3, od3, .func (PySem.W.fnOf "row_place" "row_place" (defArgs s_row_place) (defBody s_row_place) (defScope s_row_place) .none kV3 dc3 pm3 an3 cd3 ct3), sl3⟩) (c3 : PySem.W.codeIn K cd3 "row_place" = true) (k3 : PySem.W.keepIn K (.ref f3) = true)
    (a4 : PySem.W.nsIn K mainGlobals "bag_of" = some (some (.ref f4))) (l4 : K.lookup f4 = some ⟨oc4, od4, .func (PySem.W.fnOf "bag_of" "bag_of" (defArgs s_bag_of) (defBody s_bag_of) (defScope s_bag_of) .none kV4 dc4 pm4 an4 cd4 ct4), sl4⟩) (c4 : PySem.W.codeIn K cd4 "bag_of" = true) (k4 : PySem.W.keepIn K (.ref f4) = true)
    (a5 : PySem.W.nsIn K mainGlobals "place_of" = some (some (.ref f5))) (l5 : K.lookup f5 = some ⟨oc5, od5, .func (PySem.W.fnOf "place_of" "place_of" (defArgs s_place_of) (defBody s_place_of) (defScope s_place_of) .none kV5 dc5 pm5 an5 cd5 ct5), sl5⟩) (c5 : PySem.W.codeIn K cd5 "place_of" = true) (k5 : PySem.W.keepIn K (.ref f5) = true)
    (a6 : PySem.W.nsIn K mainGlobals "holds" = some (some (.ref f6))) (l6 : K.lookup f6 = some ⟨oc6, od6, .func (PySem.W.fnOf "holds" "holds" (defArgs s_holds) (defBody s_holds) (defScope s_holds) .none kV6 dc6 pm6 an6 cd6 ct6), sl6⟩) (c6 : PySem.W.codeIn K cd6 "holds" = true) (k6 : PySem.W.keepIn K (.ref f6) = true)
    (a7 : PySem.W.nsIn K mainGlobals "veiled" = some (some (.ref f7))) (l7 : K.lookup f7 = some ⟨oc7, od7, .func (PySem.W.fnOf "veiled" "veiled" (defArgs s_veiled) (defBody s_veiled) (defScope s_veiled) .none kV7 dc7 pm7 an7 cd7 ct7), sl7⟩) (c7 : PySem.W.codeIn K cd7 "veiled" = true) (k7 : PySem.W.keepIn K (.ref f7) = true)
    (a8 : PySem.W.nsIn K mainGlobals "seen_rows" = some (some (.ref f8))) (l8 : K.lookup f8 = some ⟨oc8, od8, .func (PySem.W.fnOf "seen_rows" "seen_rows" (defArgs s_seen_rows) (defBody s_seen_rows) (defScope s_seen_rows) .none kV8 dc8 pm8 an8 cd8 ct8), sl8⟩) (c8 : PySem.W.codeIn K cd8 "seen_rows" = true) (k8 : PySem.W.keepIn K (.ref f8) = true)
    (a9 : PySem.W.nsIn K mainGlobals "seen" = some (some (.ref f9))) (l9 : K.lookup f9 = some ⟨oc9, od9, .func (PySem.W.fnOf "seen" "seen" (defArgs s_seen) (defBody s_seen) (defScope s_seen) .none kV9 dc9 pm9 an9 cd9 ct9), sl9⟩) (c9 : PySem.W.codeIn K cd9 "seen" = true) (k9 : PySem.W.keepIn K (.ref f9) = true)
    (a10 : PySem.W.nsIn K mainGlobals "_law_hand" = some (some (.ref f10))) (l10 : K.lookup f10 = some ⟨oc10, od10, .func (PySem.W.fnOf "_law_hand" "_law_hand" (defArgs s_law_hand) (defBody s_law_hand) (defScope s_law_hand) .none kV10 dc10 pm10 an10 cd10 ct10), sl10⟩) (c10 : PySem.W.codeIn K cd10 "_law_hand" = true) (k10 : PySem.W.keepIn K (.ref f10) = true)
    (a11 : PySem.W.nsIn K mainGlobals "_law_take" = some (some (.ref f11))) (l11 : K.lookup f11 = some ⟨oc11, od11, .func (PySem.W.fnOf "_law_take" "_law_take" (defArgs s_law_take) (defBody s_law_take) (defScope s_law_take) .none kV11 dc11 pm11 an11 cd11 ct11), sl11⟩) (c11 : PySem.W.codeIn K cd11 "_law_take" = true) (k11 : PySem.W.keepIn K (.ref f11) = true)
    (a12 : PySem.W.nsIn K mainGlobals "_law_pick" = some (some (.ref f12))) (l12 : K.lookup f12 = some ⟨oc12, od12, .func (PySem.W.fnOf "_law_pick" "_law_pick" (defArgs s_law_pick) (defBody s_law_pick) (defScope s_law_pick) .none kV12 dc12 pm12 an12 cd12 ct12), sl12⟩) (c12 : PySem.W.codeIn K cd12 "_law_pick" = true) (k12 : PySem.W.keepIn K (.ref f12) = true)
    (a13 : PySem.W.nsIn K mainGlobals "_law_columns" = some (some (.ref f13))) (l13 : K.lookup f13 = some ⟨oc13, od13, .func (PySem.W.fnOf "_law_columns" "_law_columns" (defArgs s_law_columns) (defBody s_law_columns) (defScope s_law_columns) .none kV13 dc13 pm13 an13 cd13 ct13), sl13⟩) (c13 : PySem.W.codeIn K cd13 "_law_columns" = true) (k13 : PySem.W.keepIn K (.ref f13) = true)
    (a14 : PySem.W.nsIn K mainGlobals "_law_plan" = some (some (.ref f14))) (l14 : K.lookup f14 = some ⟨oc14, od14, .func (PySem.W.fnOf "_law_plan" "_law_plan" (defArgs s_law_plan) (defBody s_law_plan) (defScope s_law_plan) .none kV14 dc14 pm14 an14 cd14 ct14), sl14⟩) (c14 : PySem.W.codeIn K cd14 "_law_plan" = true) (k14 : PySem.W.keepIn K (.ref f14) = true)
    (a15 : PySem.W.nsIn K mainGlobals "_law_worth" = some (some (.ref f15))) (l15 : K.lookup f15 = some ⟨oc15, od15, .func (PySem.W.fnOf "_law_worth" "_law_worth" (defArgs s_law_worth) (defBody s_law_worth) (defScope s_law_worth) .none kV15 dc15 pm15 an15 cd15 ct15), sl15⟩) (c15 : PySem.W.codeIn K cd15 "_law_worth" = true) (k15 : PySem.W.keepIn K (.ref f15) = true)
    (a16 : PySem.W.nsIn K mainGlobals "_law_row" = some (some (.ref f16))) (l16 : K.lookup f16 = some ⟨oc16, od16, .func (PySem.W.fnOf "_law_row" "_law_row" (defArgs s_law_row) (defBody s_law_row) (defScope s_law_row) .none kV16 dc16 pm16 an16 cd16 ct16), sl16⟩) (c16 : PySem.W.codeIn K cd16 "_law_row" = true) (k16 : PySem.W.keepIn K (.ref f16) = true)
    (a17 : PySem.W.nsIn K mainGlobals "_law_dealing" = some (some (.ref f17))) (l17 : K.lookup f17 = some ⟨oc17, od17, .func (PySem.W.fnOf "_law_dealing" "_law_dealing" (defArgs s_law_dealing) (defBody s_law_dealing) (defScope s_law_dealing) .none kV17 dc17 pm17 an17 cd17 ct17), sl17⟩) (c17 : PySem.W.codeIn K cd17 "_law_dealing" = true) (k17 : PySem.W.keepIn K (.ref f17) = true)
    (a18 : PySem.W.nsIn K mainGlobals "_law_rank" = some (some (.ref f18))) (l18 : K.lookup f18 = some ⟨oc18, od18, .func (PySem.W.fnOf "_law_rank" "_law_rank" (defArgs s_law_rank) (defBody s_law_rank) (defScope s_law_rank) .none kV18 dc18 pm18 an18 cd18 ct18), sl18⟩) (c18 : PySem.W.codeIn K cd18 "_law_rank" = true) (k18 : PySem.W.keepIn K (.ref f18) = true)
    (a19 : PySem.W.nsIn K mainGlobals "_law_bag" = some (some (.ref f19))) (l19 : K.lookup f19 = some ⟨oc19, od19, .func (PySem.W.fnOf "_law_bag" "_law_bag" (defArgs s_law_bag) (defBody s_law_bag) (defScope s_law_bag) .none kV19 dc19 pm19 an19 cd19 ct19), sl19⟩) (c19 : PySem.W.codeIn K cd19 "_law_bag" = true) (k19 : PySem.W.keepIn K (.ref f19) = true)
    (a20 : PySem.W.nsIn K mainGlobals "_law_store" = some (some (.ref f20))) (l20 : K.lookup f20 = some ⟨oc20, od20, .func (PySem.W.fnOf "_law_store" "_law_store" (defArgs s_law_store) (defBody s_law_store) (defScope s_law_store) .none kV20 dc20 pm20 an20 cd20 ct20), sl20⟩) (c20 : PySem.W.codeIn K cd20 "_law_store" = true) (k20 : PySem.W.keepIn K (.ref f20) = true)
    (a21 : PySem.W.nsIn K mainGlobals "_law_check" = some (some (.ref f21))) (l21 : K.lookup f21 = some ⟨oc21, od21, .func (PySem.W.fnOf "_law_check" "_law_check" (defArgs s_law_check) (defBody s_law_check) (defScope s_law_check) .none kV21 dc21 pm21 an21 cd21 ct21), sl21⟩) (c21 : PySem.W.codeIn K cd21 "_law_check" = true) (k21 : PySem.W.keepIn K (.ref f21) = true)
    (a22 : PySem.W.nsIn K mainGlobals "_law_holds" = some (some (.ref f22))) (l22 : K.lookup f22 = some ⟨oc22, od22, .func (PySem.W.fnOf "_law_holds" "_law_holds" (defArgs s_law_holds) (defBody s_law_holds) (defScope s_law_holds) .none kV22 dc22 pm22 an22 cd22 ct22), sl22⟩) (c22 : PySem.W.codeIn K cd22 "_law_holds" = true) (k22 : PySem.W.keepIn K (.ref f22) = true)
    (a23 : PySem.W.nsIn K mainGlobals "_law_right" = some (some (.ref f23))) (l23 : K.lookup f23 = some ⟨oc23, od23, .func (PySem.W.fnOf "_law_right" "_law_right" (defArgs s_law_right) (defBody s_law_right) (defScope s_law_right) .none kV23 dc23 pm23 an23 cd23 ct23), sl23⟩) (c23 : PySem.W.codeIn K cd23 "_law_right" = true) (k23 : PySem.W.keepIn K (.ref f23) = true)
    (a24 : PySem.W.nsIn K mainGlobals "_law_rights" = some (some (.ref f24))) (l24 : K.lookup f24 = some ⟨oc24, od24, .func (PySem.W.fnOf "_law_rights" "_law_rights" (defArgs s_law_rights) (defBody s_law_rights) (defScope s_law_rights) .none kV24 dc24 pm24 an24 cd24 ct24), sl24⟩) (c24 : PySem.W.codeIn K cd24 "_law_rights" = true) (k24 : PySem.W.keepIn K (.ref f24) = true)
    (a25 : PySem.W.nsIn K mainGlobals "_law_seen" = some (some (.ref f25))) (l25 : K.lookup f25 = some ⟨oc25, od25, .func (PySem.W.fnOf "_law_seen" "_law_seen" (defArgs s_law_seen) (defBody s_law_seen) (defScope s_law_seen) .none kV25 dc25 pm25 an25 cd25 ct25), sl25⟩) (c25 : PySem.W.codeIn K cd25 "_law_seen" = true) (k25 : PySem.W.keepIn K (.ref f25) = true)
    (a26 : PySem.W.nsIn K mainGlobals "law" = some (some (.ref f26))) (l26 : K.lookup f26 = some ⟨oc26, od26, .func (PySem.W.fnOf "law" "law" (defArgs s_law) (defBody s_law) (defScope s_law) .none kV26 dc26 pm26 an26 cd26 ct26), sl26⟩) (c26 : PySem.W.codeIn K cd26 "law" = true) (k26 : PySem.W.keepIn K (.ref f26) = true)
    (z_abs : PySem.W.nsIn K mainGlobals "abs" = some none)
    (z_all : PySem.W.nsIn K mainGlobals "all" = some none)
    (z_any : PySem.W.nsIn K mainGlobals "any" = some none)
    (z_dict : PySem.W.nsIn K mainGlobals "dict" = some none)
    (z_enumerate : PySem.W.nsIn K mainGlobals "enumerate" = some none)
    (z_int : PySem.W.nsIn K mainGlobals "int" = some none)
    (z_isinstance : PySem.W.nsIn K mainGlobals "isinstance" = some none)
    (z_len : PySem.W.nsIn K mainGlobals "len" = some none)
    (z_list : PySem.W.nsIn K mainGlobals "list" = some none)
    (z_min : PySem.W.nsIn K mainGlobals "min" = some none)
    (z_range : PySem.W.nsIn K mainGlobals "range" = some none)
    (z_repr : PySem.W.nsIn K mainGlobals "repr" = some none)
    (z_sorted : PySem.W.nsIn K mainGlobals "sorted" = some none)
    (z_str : PySem.W.nsIn K mainGlobals "str" = some none)
    (z_tuple : PySem.W.nsIn K mainGlobals "tuple" = some none)
    (z_type : PySem.W.nsIn K mainGlobals "type" = some none)
    (z_zip : PySem.W.nsIn K mainGlobals "zip" = some none)
    {t_LONGEST : Tok} (y_LONGEST : PySem.W.nsIn K mainGlobals "LONGEST" = some (some (.int 8 t_LONGEST)))
    {rc0 : DefRec} {tc0 tp0 : Addr} {cv0 : Value} {dd0 : Option Addr} {us0 : Array Value} {ss0 : Array (Option Value)} (r_0 : (PyProof.Rows.recsOf q).find? (fun e => e.name == ("_law_bag" : Str)) = some rc0) (e_0 : cd19 = .ref tc0) (u_0 : K.lookup tc0 = some ⟨cv0, dd0, .fields us0, ss0⟩) (v_0 : (us0[11]? : Option Value) = some (.ref tp0)) (n_0 : K.lookup tp0 = none)
    : ∃ K' : PySem.W.Frag, K'.In h ∧ TabsH K' h ∧ ∃ fd : FuncData, (∀ (s : Shared) (v : Value), BindsTo s fd ⟨[v], []⟩ [("script", v)]) ∧ ∀ base : Heap, K'.In base → base.Ns mainGlobals mg → (∀ x c P, x ∈ lamNames K' → PySem.W.tabIn K' x = some (c, P) → LamX.TabB base mg c P) → DG.FnG l.prog w K' mg base CX0 40 fa fd ["script"] (spLaw K') := by
  have G := T0.g
  have e := hfa.symm.trans (PySem.W.mg_of X G a26)
  cases e
  have hm := has_main a26
  have es : lamNames (marked K (["_law_bag"] : List Str)) = (["_law_bag"] : List Str) := lamNames_marked K _
  have t_0 := tab_mk a19 l19 e_0 u_0 v_0
  generalize hK : marked K (["_law_bag"] : List Str) = K' at es
  replace k0 : PySem.W.keepIn K' (.ref f0) = true := by rw [← hK]; exact app_kp hm l0
  replace a0 := (app_ns (xs := (["_law_bag"] : List Str)) hm).trans a0
  replace l0 := (app_lk (xs := (["_law_bag"] : List Str)) hm _).trans l0
  replace c0 := (app_cd (xs := (["_law_bag"] : List Str)) hm).trans c0
  replace k1 : PySem.W.keepIn K' (.ref f1) = true := by rw [← hK]; exact app_kp hm l1
  replace a1 := (app_ns (xs := (["_law_bag"] : List Str)) hm).trans a1
  replace l1 := (app_lk (xs := (["_law_bag"] : List Str)) hm _).trans l1
  replace c1 := (app_cd (xs := (["_law_bag"] : List Str)) hm).trans c1
  replace k2 : PySem.W.keepIn K' (.ref f2) = true := by rw [← hK]; exact app_kp hm l2
  replace a2 := (app_ns (xs := (["_law_bag"] : List Str)) hm).trans a2
  replace l2 := (app_lk (xs := (["_law_bag"] : List Str)) hm _).trans l2
  replace c2 := (app_cd (xs := (["_law_bag"] : List Str)) hm).trans c2
  replace k3 : PySem.W.keepIn K' (.ref f3) = true := by rw [← hK]; exact app_kp hm l3
  replace a3 := (app_ns (xs := (["_law_bag"] : List Str)) hm).trans a3
  replace l3 := (app_lk (xs := (["_law_bag"] : List Str)) hm _).trans l3
  replace c3 := (app_cd (xs := (["_law_bag"] : List Str)) hm).trans c3
  replace k4 : PySem.W.keepIn K' (.ref f4) = true := by rw [← hK]; exact app_kp hm l4
  replace a4 := (app_ns (xs := (["_law_bag"] : List Str)) hm).trans a4
  replace l4 := (app_lk (xs := (["_law_bag"] : List Str)) hm _).trans l4
  replace c4 := (app_cd (xs := (["_law_bag"] : List Str)) hm).trans c4
  replace k5 : PySem.W.keepIn K' (.ref f5) = true := by rw [← hK]; exact app_kp hm l5
  replace a5 := (app_ns (xs := (["_law_bag"] : List Str)) hm).trans a5
  replace l5 := (app_lk (xs := (["_law_bag"] : List Str)) hm _).trans l5
  replace c5 := (app_cd (xs := (["_law_bag"] : List Str)) hm).trans c5
  replace k6 : PySem.W.keepIn K' (.ref f6) = true := by rw [← hK]; exact app_kp hm l6
  replace a6 := (app_ns (xs := (["_law_bag"] : List Str)) hm).trans a6
  replace l6 := (app_lk (xs := (["_law_bag"] : List Str)) hm _).trans l6
  replace c6 := (app_cd (xs := (["_law_bag"] : List Str)) hm).trans c6
  replace k7 : PySem.W.keepIn K' (.ref f7) = true := by rw [← hK]; exact app_kp hm l7
  replace a7 := (app_ns (xs := (["_law_bag"] : List Str)) hm).trans a7
  replace l7 := (app_lk (xs := (["_law_bag"] : List Str)) hm _).trans l7
  replace c7 := (app_cd (xs := (["_law_bag"] : List Str)) hm).trans c7
  replace k8 : PySem.W.keepIn K' (.ref f8) = true := by rw [← hK]; exact app_kp hm l8
  replace a8 := (app_ns (xs := (["_law_bag"] : List Str)) hm).trans a8
  replace l8 := (app_lk (xs := (["_law_bag"] : List Str)) hm _).trans l8
  replace c8 := (app_cd (xs := (["_law_bag"] : List Str)) hm).trans c8
  replace k9 : PySem.W.keepIn K' (.ref f9) = true := by rw [← hK]; exact app_kp hm l9
  replace a9 := (app_ns (xs := (["_law_bag"] : List Str)) hm).trans a9
  replace l9 := (app_lk (xs := (["_law_bag"] : List Str)) hm _).trans l9
  replace c9 := (app_cd (xs := (["_law_bag"] : List Str)) hm).trans c9
  replace k10 : PySem.W.keepIn K' (.ref f10) = true := by rw [← hK]; exact app_kp hm l10
  replace a10 := (app_ns (xs := (["_law_bag"] : List Str)) hm).trans a10
  replace l10 := (app_lk (xs := (["_law_bag"] : List Str)) hm _).trans l10
  replace c10 := (app_cd (xs := (["_law_bag"] : List Str)) hm).trans c10
  replace k11 : PySem.W.keepIn K' (.ref f11) = true := by rw [← hK]; exact app_kp hm l11
  replace a11 := (app_ns (xs := (["_law_bag"] : List Str)) hm).trans a11
  replace l11 := (app_lk (xs := (["_law_bag"] : List Str)) hm _).trans l11
  replace c11 := (app_cd (xs := (["_law_bag"] : List Str)) hm).trans c11
  replace k12 : PySem.W.keepIn K' (.ref f12) = true := by rw [← hK]; exact app_kp hm l12
  replace a12 := (app_ns (xs := (["_law_bag"] : List Str)) hm).trans a12
  replace l12 := (app_lk (xs := (["_law_bag"] : List Str)) hm _).trans l12
  replace c12 := (app_cd (xs := (["_law_bag"] : List Str)) hm).trans c12
  replace k13 : PySem.W.keepIn K' (.ref f13) = true := by rw [← hK]; exact app_kp hm l13
  replace a13 := (app_ns (xs := (["_law_bag"] : List Str)) hm).trans a13
  replace l13 := (app_lk (xs := (["_law_bag"] : List Str)) hm _).trans l13
  replace c13 := (app_cd (xs := (["_law_bag"] : List Str)) hm).trans c13
  replace k14 : PySem.W.keepIn K' (.ref f14) = true := by rw [← hK]; exact app_kp hm l14
  replace a14 := (app_ns (xs := (["_law_bag"] : List Str)) hm).trans a14
  replace l14 := (app_lk (xs := (["_law_bag"] : List Str)) hm _).trans l14
  replace c14 := (app_cd (xs := (["_law_bag"] : List Str)) hm).trans c14
  replace k15 : PySem.W.keepIn K' (.ref f15) = true := by rw [← hK]; exact app_kp hm l15
  replace a15 := (app_ns (xs := (["_law_bag"] : List Str)) hm).trans a15
  replace l15 := (app_lk (xs := (["_law_bag"] : List Str)) hm _).trans l15
  replace c15 := (app_cd (xs := (["_law_bag"] : List Str)) hm).trans c15
  replace k16 : PySem.W.keepIn K' (.ref f16) = true := by rw [← hK]; exact app_kp hm l16
  replace a16 := (app_ns (xs := (["_law_bag"] : List Str)) hm).trans a16
  replace l16 := (app_lk (xs := (["_law_bag"] : List Str)) hm _).trans l16
  replace c16 := (app_cd (xs := (["_law_bag"] : List Str)) hm).trans c16
  replace k17 : PySem.W.keepIn K' (.ref f17) = true := by rw [← hK]; exact app_kp hm l17
  replace a17 := (app_ns (xs := (["_law_bag"] : List Str)) hm).trans a17
  replace l17 := (app_lk (xs := (["_law_bag"] : List Str)) hm _).trans l17
  replace c17 := (app_cd (xs := (["_law_bag"] : List Str)) hm).trans c17
  replace k18 : PySem.W.keepIn K' (.ref f18) = true := by rw [← hK]; exact app_kp hm l18
  replace a18 := (app_ns (xs := (["_law_bag"] : List Str)) hm).trans a18
  replace l18 := (app_lk (xs := (["_law_bag"] : List Str)) hm _).trans l18
  replace c18 := (app_cd (xs := (["_law_bag"] : List Str)) hm).trans c18
  replace k19 : PySem.W.keepIn K' (.ref f19) = true := by rw [← hK]; exact app_kp hm l19
  replace a19 := (app_ns (xs := (["_law_bag"] : List Str)) hm).trans a19
  replace l19 := (app_lk (xs := (["_law_bag"] : List Str)) hm _).trans l19
  replace c19 := (app_cd (xs := (["_law_bag"] : List Str)) hm).trans c19
  replace k20 : PySem.W.keepIn K' (.ref f20) = true := by rw [← hK]; exact app_kp hm l20
  replace a20 := (app_ns (xs := (["_law_bag"] : List Str)) hm).trans a20
  replace l20 := (app_lk (xs := (["_law_bag"] : List Str)) hm _).trans l20
  replace c20 := (app_cd (xs := (["_law_bag"] : List Str)) hm).trans c20
  replace k21 : PySem.W.keepIn K' (.ref f21) = true := by rw [← hK]; exact app_kp hm l21
  replace a21 := (app_ns (xs := (["_law_bag"] : List Str)) hm).trans a21
  replace l21 := (app_lk (xs := (["_law_bag"] : List Str)) hm _).trans l21
  replace c21 := (app_cd (xs := (["_law_bag"] : List Str)) hm).trans c21
  replace k22 : PySem.W.keepIn K' (.ref f22) = true := by rw [← hK]; exact app_kp hm l22
  replace a22 := (app_ns (xs := (["_law_bag"] : List Str)) hm).trans a22
  replace l22 := (app_lk (xs := (["_law_bag"] : List Str)) hm _).trans l22
  replace c22 := (app_cd (xs := (["_law_bag"] : List Str)) hm).trans c22
  replace k23 : PySem.W.keepIn K' (.ref f23) = true := by rw [← hK]; exact app_kp hm l23
  replace a23 := (app_ns (xs := (["_law_bag"] : List Str)) hm).trans a23
  replace l23 := (app_lk (xs := (["_law_bag"] : List Str)) hm _).trans l23
  replace c23 := (app_cd (xs := (["_law_bag"] : List Str)) hm).trans c23
  replace k24 : PySem.W.keepIn K' (.ref f24) = true := by rw [← hK]; exact app_kp hm l24
  replace a24 := (app_ns (xs := (["_law_bag"] : List Str)) hm).trans a24
  replace l24 := (app_lk (xs := (["_law_bag"] : List Str)) hm _).trans l24
  replace c24 := (app_cd (xs := (["_law_bag"] : List Str)) hm).trans c24
  replace k25 : PySem.W.keepIn K' (.ref f25) = true := by rw [← hK]; exact app_kp hm l25
  replace a25 := (app_ns (xs := (["_law_bag"] : List Str)) hm).trans a25
  replace l25 := (app_lk (xs := (["_law_bag"] : List Str)) hm _).trans l25
  replace c25 := (app_cd (xs := (["_law_bag"] : List Str)) hm).trans c25
  replace k26 : PySem.W.keepIn K' (.ref fa) = true := by rw [← hK]; exact app_kp hm l26
  replace a26 := (app_ns (xs := (["_law_bag"] : List Str)) hm).trans a26
  replace l26 := (app_lk (xs := (["_law_bag"] : List Str)) hm _).trans l26
  replace c26 := (app_cd (xs := (["_law_bag"] : List Str)) hm).trans c26
  replace z_abs := (app_ns (xs := (["_law_bag"] : List Str)) hm).trans z_abs
  replace z_all := (app_ns (xs := (["_law_bag"] : List Str)) hm).trans z_all
  replace z_any := (app_ns (xs := (["_law_bag"] : List Str)) hm).trans z_any
  replace z_dict := (app_ns (xs := (["_law_bag"] : List Str)) hm).trans z_dict
  replace z_enumerate := (app_ns (xs := (["_law_bag"] : List Str)) hm).trans z_enumerate
  replace z_int := (app_ns (xs := (["_law_bag"] : List Str)) hm).trans z_int
  replace z_isinstance := (app_ns (xs := (["_law_bag"] : List Str)) hm).trans z_isinstance
  replace z_len := (app_ns (xs := (["_law_bag"] : List Str)) hm).trans z_len
  replace z_list := (app_ns (xs := (["_law_bag"] : List Str)) hm).trans z_list
  replace z_min := (app_ns (xs := (["_law_bag"] : List Str)) hm).trans z_min
  replace z_range := (app_ns (xs := (["_law_bag"] : List Str)) hm).trans z_range
  replace z_repr := (app_ns (xs := (["_law_bag"] : List Str)) hm).trans z_repr
  replace z_sorted := (app_ns (xs := (["_law_bag"] : List Str)) hm).trans z_sorted
  replace z_str := (app_ns (xs := (["_law_bag"] : List Str)) hm).trans z_str
  replace z_tuple := (app_ns (xs := (["_law_bag"] : List Str)) hm).trans z_tuple
  replace z_type := (app_ns (xs := (["_law_bag"] : List Str)) hm).trans z_type
  replace z_zip := (app_ns (xs := (["_law_bag"] : List Str)) hm).trans z_zip
  replace y_LONGEST := (app_ns (xs := (["_law_bag"] : List Str)) hm).trans y_LONGEST
  replace t_0 := (app_tab (xs := (["_law_bag"] : List Str)) hm).trans t_0
  replace n_0 := (app_lk (xs := (["_law_bag"] : List Str)) hm _).trans n_0
  replace X := app_in (xs := (["_law_bag"] : List Str)) hm X
  rw [hK] at a0 l0 c0 a1 l1 c1 a2 l2 c2 a3 l3 c3 a4 l4 c4 a5 l5 c5 a6 l6 c6 a7 l7 c7 a8 l8 c8 a9 l9 c9 a10 l10 c10 a11 l11 c11 a12 l12 c12 a13 l13 c13 a14 l14 c14 a15 l15 c15 a16 l16 c16 a17 l17 c17 a18 l18 c18 a19 l19 c19 a20 l20 c20 a21 l21 c21 a22 l22 c22 a23 l23 c23 a24 l24 c24 a25 l25 c25 a26 l26 c26 z_abs z_all z_any z_dict z_enumerate z_int z_isinstance z_len z_list z_min z_range z_repr z_sorted z_str z_tuple z_type z_zip y_LONGEST t_0 n_0 X
  clear hK hm
  have TH : TabsH K' h := by
    refine ⟨fun P x hx => ?_, fun P x y hx hy => ?_, fun x c P hx ht => ?_⟩
    · obtain ⟨hx, c, ht⟩ := hx
      rw [es] at hx
      simp only [List.mem_cons, List.not_mem_nil, or_false] at hx
      rcases hx with rfl
      · rw [t_0] at ht; cases ht; exact ⟨(PySem.W.tab_of T0 X r_0 t_0).2, n_0⟩
    · obtain ⟨hx, c, ht⟩ := hx
      obtain ⟨hy, c', ht'⟩ := hy
      rw [es] at hx hy
      simp only [List.mem_cons, List.not_mem_nil, or_false] at hx hy
      rcases hx with rfl
      · rcases hy with rfl
        · rfl
    · rw [es] at hx
      simp only [List.mem_cons, List.not_mem_nil, or_false] at hx
      rcases hx with rfl
      · rw [t_0] at ht; cases ht; exact ⟨(PySem.W.tab_of T0 X r_0 t_0).1, (tab_code t_0 a19 l19).2⟩
  have T : Txt K' mg := { b_abs := PySem.W.mg_none_of X G z_abs, b_all := PySem.W.mg_none_of X G z_all, b_any := PySem.W.mg_none_of X G z_any, b_dict := PySem.W.mg_none_of X G z_dict, b_enumerate := PySem.W.mg_none_of X G z_enumerate, b_int := PySem.W.mg_none_of X G z_int, b_isinstance := PySem.W.mg_none_of X G z_isinstance, b_len := PySem.W.mg_none_of X G z_len, b_list := PySem.W.mg_none_of X G z_list, b_min := PySem.W.mg_none_of X G z_min, b_range := PySem.W.mg_none_of X G z_range, b_repr := PySem.W.mg_none_of X G z_repr, b_sorted := PySem.W.mg_none_of X G z_sorted, b_str := PySem.W.mg_none_of X G z_str, b_tuple := PySem.W.mg_none_of X G z_tuple, b_type := PySem.W.mg_none_of X G z_type, b_zip := PySem.W.mg_none_of X G z_zip, c_LONGEST := ⟨_, PySem.W.mg_of X G y_LONGEST⟩ }
  have F0 := fun_mk (st := s_is_whole) l0 c0 k0
  have D0 : Def K' mg "is_whole" s_is_whole p_is_whole f0 _ := ⟨F0, PySem.W.mg_of X G a0, F0.binds (ps := p_is_whole) fun _ _ _ _ _ _ us hl => match us, hl with | [_], _ => rfl⟩
  have F1 := fun_mk (st := s_is_name) l1 c1 k1
  have D1 : Def K' mg "is_name" s_is_name p_is_name f1 _ := ⟨F1, PySem.W.mg_of X G a1, F1.binds (ps := p_is_name) fun _ _ _ _ _ _ us hl => match us, hl with | [_], _ => rfl⟩
  have F2 := fun_mk (st := s_worth_place) l2 c2 k2
  have D2 : Def K' mg "worth_place" s_worth_place p_worth_place f2 _ := ⟨F2, PySem.W.mg_of X G a2, F2.binds (ps := p_worth_place) fun _ _ _ _ _ _ us hl => match us, hl with | [_], _ => rfl⟩
  have F3 := fun_mk (st := s_row_place) l3 c3 k3
  have D3 : Def K' mg "row_place" s_row_place p_row_place f3 _ := ⟨F3, PySem.W.mg_of X G a3, F3.binds (ps := p_row_place) fun _ _ _ _ _ _ us hl => match us, hl with | [_], _ => rfl⟩
  have F4 := fun_mk (st := s_bag_of) l4 c4 k4
  have D4 : Def K' mg "bag_of" s_bag_of p_bag_of f4 _ := ⟨F4, PySem.W.mg_of X G a4, F4.binds (ps := p_bag_of) fun _ _ _ _ _ _ us hl => match us, hl with | [_], _ => rfl⟩
  have F5 := fun_mk (st := s_place_of) l5 c5 k5
  have D5 : Def K' mg "place_of" s_place_of p_place_of f5 _ := ⟨F5, PySem.W.mg_of X G a5, F5.binds (ps := p_place_of) fun _ _ _ _ _ _ us hl => match us, hl with | [_, _], _ => rfl⟩
  have F6 := fun_mk (st := s_holds) l6 c6 k6
  have D6 : Def K' mg "holds" s_holds p_holds f6 _ := ⟨F6, PySem.W.mg_of X G a6, F6.binds (ps := p_holds) fun _ _ _ _ _ _ us hl => match us, hl with | [_, _, _], _ => rfl⟩
  have F7 := fun_mk (st := s_veiled) l7 c7 k7
  have D7 : Def K' mg "veiled" s_veiled p_veiled f7 _ := ⟨F7, PySem.W.mg_of X G a7, F7.binds (ps := p_veiled) fun _ _ _ _ _ _ us hl => match us, hl with | [_, _], _ => rfl⟩
  have F8 := fun_mk (st := s_seen_rows) l8 c8 k8
  have D8 : Def K' mg "seen_rows" s_seen_rows p_seen_rows f8 _ := ⟨F8, PySem.W.mg_of X G a8, F8.binds (ps := p_seen_rows) fun _ _ _ _ _ _ us hl => match us, hl with | [_, _, _], _ => rfl⟩
  have F9 := fun_mk (st := s_seen) l9 c9 k9
  have D9 : Def K' mg "seen" s_seen p_seen f9 _ := ⟨F9, PySem.W.mg_of X G a9, F9.binds (ps := p_seen) fun _ _ _ _ _ _ us hl => match us, hl with | [_, _, _], _ => rfl⟩
  have F10 := fun_mk (st := s_law_hand) l10 c10 k10
  have D10 : Def K' mg "_law_hand" s_law_hand p_law_hand f10 _ := ⟨F10, PySem.W.mg_of X G a10, F10.binds (ps := p_law_hand) fun _ _ _ _ _ _ us hl => match us, hl with | [_, _], _ => rfl⟩
  have F11 := fun_mk (st := s_law_take) l11 c11 k11
  have D11 : Def K' mg "_law_take" s_law_take p_law_take f11 _ := ⟨F11, PySem.W.mg_of X G a11, F11.binds (ps := p_law_take) fun _ _ _ _ _ _ us hl => match us, hl with | [_, _], _ => rfl⟩
  have F12 := fun_mk (st := s_law_pick) l12 c12 k12
  have D12 : Def K' mg "_law_pick" s_law_pick p_law_pick f12 _ := ⟨F12, PySem.W.mg_of X G a12, F12.binds (ps := p_law_pick) fun _ _ _ _ _ _ us hl => match us, hl with | [_, _], _ => rfl⟩
  have F13 := fun_mk (st := s_law_columns) l13 c13 k13
  have D13 : Def K' mg "_law_columns" s_law_columns p_law_columns f13 _ := ⟨F13, PySem.W.mg_of X G a13, F13.binds (ps := p_law_columns) fun _ _ _ _ _ _ us hl => match us, hl with | [_], _ => rfl⟩
  have F14 := fun_mk (st := s_law_plan) l14 c14 k14
  have D14 : Def K' mg "_law_plan" s_law_plan p_law_plan f14 _ := ⟨F14, PySem.W.mg_of X G a14, F14.binds (ps := p_law_plan) fun _ _ _ _ _ _ us hl => match us, hl with | [_, _], _ => rfl⟩
  have F15 := fun_mk (st := s_law_worth) l15 c15 k15
  have D15 : Def K' mg "_law_worth" s_law_worth p_law_worth f15 _ := ⟨F15, PySem.W.mg_of X G a15, F15.binds (ps := p_law_worth) fun _ _ _ _ _ _ us hl => match us, hl with | [_, _, _], _ => rfl⟩
  have F16 := fun_mk (st := s_law_row) l16 c16 k16
  have D16 : Def K' mg "_law_row" s_law_row p_law_row f16 _ := ⟨F16, PySem.W.mg_of X G a16, F16.binds (ps := p_law_row) fun _ _ _ _ _ _ us hl => match us, hl with | [_, _], _ => rfl⟩
  have F17 := fun_mk (st := s_law_dealing) l17 c17 k17
  have D17 : Def K' mg "_law_dealing" s_law_dealing p_law_dealing f17 _ := ⟨F17, PySem.W.mg_of X G a17, F17.binds (ps := p_law_dealing) fun _ _ _ _ _ _ us hl => match us, hl with | [_, _, _, _], _ => rfl⟩
  have F18 := fun_mk (st := s_law_rank) l18 c18 k18
  have D18 : Def K' mg "_law_rank" s_law_rank p_law_rank f18 _ := ⟨F18, PySem.W.mg_of X G a18, F18.binds (ps := p_law_rank) fun _ _ _ _ _ _ us hl => match us, hl with | [_], _ => rfl⟩
  have F19 := fun_mk (st := s_law_bag) l19 c19 k19
  have D19 : Def K' mg "_law_bag" s_law_bag p_law_bag f19 _ := ⟨F19, PySem.W.mg_of X G a19, F19.binds (ps := p_law_bag) fun _ _ _ _ _ _ us hl => match us, hl with | [_], _ => rfl⟩
  have F20 := fun_mk (st := s_law_store) l20 c20 k20
  have D20 : Def K' mg "_law_store" s_law_store p_law_store f20 _ := ⟨F20, PySem.W.mg_of X G a20, F20.binds (ps := p_law_store) fun _ _ _ _ _ _ us hl => match us, hl with | [_, _], _ => rfl⟩
  have F21 := fun_mk (st := s_law_check) l21 c21 k21
  have D21 : Def K' mg "_law_check" s_law_check p_law_check f21 _ := ⟨F21, PySem.W.mg_of X G a21, F21.binds (ps := p_law_check) fun _ _ _ _ _ _ us hl => match us, hl with | [_, _, _], _ => rfl⟩
  have F22 := fun_mk (st := s_law_holds) l22 c22 k22
  have D22 : Def K' mg "_law_holds" s_law_holds p_law_holds f22 _ := ⟨F22, PySem.W.mg_of X G a22, F22.binds (ps := p_law_holds) fun _ _ _ _ _ _ us hl => match us, hl with | [_, _, _], _ => rfl⟩
  have F23 := fun_mk (st := s_law_right) l23 c23 k23
  have D23 : Def K' mg "_law_right" s_law_right p_law_right f23 _ := ⟨F23, PySem.W.mg_of X G a23, F23.binds (ps := p_law_right) fun _ _ _ _ _ _ us hl => match us, hl with | [_, _], _ => rfl⟩
  have F24 := fun_mk (st := s_law_rights) l24 c24 k24
  have D24 : Def K' mg "_law_rights" s_law_rights p_law_rights f24 _ := ⟨F24, PySem.W.mg_of X G a24, F24.binds (ps := p_law_rights) fun _ _ _ _ _ _ us hl => match us, hl with | [_, _], _ => rfl⟩
  have F25 := fun_mk (st := s_law_seen) l25 c25 k25
  have D25 : Def K' mg "_law_seen" s_law_seen p_law_seen f25 _ := ⟨F25, PySem.W.mg_of X G a25, F25.binds (ps := p_law_seen) fun _ _ _ _ _ _ us hl => match us, hl with | [_, _, _], _ => rfl⟩
  have F26 := fun_mk (st := s_law) l26 c26 k26
  have D26 : Def K' mg "law" s_law p_law fa _ := ⟨F26, PySem.W.mg_of X G a26, F26.binds (ps := p_law) fun _ _ _ _ _ _ us hl => match us, hl with | [_], _ => rfl⟩
  let B : DD K' mg := { f_is_whole := f0, fd_is_whole := _, d_is_whole := D0, f_is_name := f1, fd_is_name := _, d_is_name := D1, f_worth_place := f2, fd_worth_place := _, d_worth_place := D2, f_row_place := f3, fd_row_place := _, d_row_place := D3, f_bag_of := f4, fd_bag_of := _, d_bag_of := D4, f_place_of := f5, fd_place_of := _, d_place_of := D5, f_holds := f6, fd_holds := _, d_holds := D6, f_veiled := f7, fd_veiled := _, d_veiled := D7, f_seen_rows := f8, fd_seen_rows := _, d_seen_rows := D8, f_seen := f9, fd_seen := _, d_seen := D9, f_law_hand := f10, fd_law_hand := _, d_law_hand := D10, f_law_take := f11, fd_law_take := _, d_law_take := D11, f_law_pick := f12, fd_law_pick := _, d_law_pick := D12, f_law_columns := f13, fd_law_columns := _, d_law_columns := D13, f_law_plan := f14, fd_law_plan := _, d_law_plan := D14, f_law_worth := f15, fd_law_worth := _, d_law_worth := D15, f_law_row := f16, fd_law_row := _, d_law_row := D16, f_law_dealing := f17, fd_law_dealing := _, d_law_dealing := D17, f_law_rank := f18, fd_law_rank := _, d_law_rank := D18, f_law_bag := f19, fd_law_bag := _, d_law_bag := D19, f_law_store := f20, fd_law_store := _, d_law_store := D20, f_law_check := f21, fd_law_check := _, d_law_check := D21, f_law_holds := f22, fd_law_holds := _, d_law_holds := D22, f_law_right := f23, fd_law_right := _, d_law_right := D23, f_law_rights := f24, fd_law_rights := _, d_law_rights := D24, f_law_seen := f25, fd_law_seen := _, d_law_seen := D25, f_law := fa, fd_law := _, d_law := D26 }
  refine ⟨K', X, TH, PySem.W.fnOf "law" "law" (defArgs s_law) (defBody s_law) (defScope s_law) .none kV26 dc26 pm26 an26 cd26 ct26, fun s v => .of_eq rfl, fun base _ _ TB => ?_⟩
  have L : Lams K' mg base B := { l_law_bag := ⟨tc0, tp0, by rw [es]; simp, t_0, TB _ _ _ (by rw [es]; simp) t_0, fun _ _ _ _ lk => (tab_code t_0 a19 lk).1⟩ }
  exact law_sp (ok_law T B L) law_flaw
end K04

open PySem PySem.W PyProof.Rows in
set_option maxRecDepth 100000 in
set_option maxHeartbeats 0 in
theorem PySem.Challenge.cw_standviews_k16_what_is_seen_holds : PySem.Challenge.rw_standviews_k16_what_is_seen.Holds := by
  w_on; o_law; k_head; (case hw => w_witness2)
  k_fill
  refine DL.walkT (l := PySem.Challenge.rw_standviews_k16_what_is_seen) (k := 40) rfl rfl ⟨rfl, by decide, by decide⟩ (fun w h Y => by first | exact PySem.W.kIn_of Y | exact PySem.W.km_in_of Y) ?F
  case F =>
    intro w mg mb mean fa h KX T0 hmg
    refine' K04.all_mk KX T0 hmg ?a0 ?l0 ?c0 ?k0 ?a1 ?l1 ?c1 ?k1 ?a2 ?l2 ?c2 ?k2 ?a3 ?l3 ?c3 ?k3 ?a4 ?l4 ?c4 ?k4 ?a5 ?l5 ?c5 ?k5 ?a6 ?l6 ?c6 ?k6 ?a7 ?l7 ?c7 ?k7 ?a8 ?l8 ?c8 ?k8 ?a9 ?l9 ?c9 ?k9 ?a10 ?l10 ?c10 ?k10 ?a11 ?l11 ?c11 ?k11 ?a12 ?l12 ?c12 ?k12 ?a13 ?l13 ?c13 ?k13 ?a14 ?l14 ?c14 ?k14 ?a15 ?l15 ?c15 ?k15 ?a16 ?l16 ?c16 ?k16 ?a17 ?l17 ?c17 ?k17 ?a18 ?l18 ?c18 ?k18 ?a19 ?l19 ?c19 ?k19 ?a20 ?l20 ?c20 ?k20 ?a21 ?l21 ?c21 ?k21 ?a22 ?l22 ?c22 ?k22 ?a23 ?l23 ?c23 ?k23 ?a24 ?l24 ?c24 ?k24 ?a25 ?l25 ?c25 ?k25 ?a26 ?l26 ?c26 ?k26 ?z_abs ?z_all ?z_any ?z_dict ?z_enumerate ?z_int ?z_isinstance ?z_len ?z_list ?z_min ?z_range ?z_repr ?z_sorted ?z_str ?z_tuple ?z_type ?z_zip ?y_LONGEST ?r_0 ?e_0 ?u_0 ?v_0 ?n_0
    (case a0 => k_is)
    (case l0 => k_is)
    (case c0 => k_is)
    (case k0 => k_is)
    (case a1 => k_is)
    (case l1 => k_is)
    (case c1 => k_is)
    (case k1 => k_is)
    (case a2 => k_is)
    (case l2 => k_is)
    (case c2 => k_is)
    (case k2 => k_is)
    (case a3 => k_is)
    (case l3 => k_is)
    (case c3 => k_is)
    (case k3 => k_is)
    (case a4 => k_is)
    (case l4 => k_is)
    (case c4 => k_is)
    (case k4 => k_is)
    (case a5 => k_is)
    (case l5 => k_is)
    (case c5 => k_is)
    (case k5 => k_is)
    (case a6 => k_is)
    (case l6 => k_is)
    (case c6 => k_is)
    (case k6 => k_is)
    (case a7 => k_is)
    (case l7 => k_is)
    (case c7 => k_is)
    (case k7 => k_is)
    (case a8 => k_is)
    (case l8 => k_is)
    (case c8 => k_is)
    (case k8 => k_is)
    (case a9 => k_is)
    (case l9 => k_is)
    (case c9 => k_is)
    (case k9 => k_is)
    (case a10 => k_is)
    (case l10 => k_is)
    (case c10 => k_is)
    (case k10 => k_is)
    (case a11 => k_is)
    (case l11 => k_is)
    (case c11 => k_is)
    (case k11 => k_is)
    (case a12 => k_is)
    (case l12 => k_is)
    (case c12 => k_is)
    (case k12 => k_is)
    (case a13 => k_is)
    (case l13 => k_is)
    (case c13 => k_is)
    (case k13 => k_is)
    (case a14 => k_is)
    (case l14 => k_is)
    (case c14 => k_is)
    (case k14 => k_is)
    (case a15 => k_is)
    (case l15 => k_is)
    (case c15 => k_is)
    (case k15 => k_is)
    (case a16 => k_is)
    (case l16 => k_is)
    (case c16 => k_is)
    (case k16 => k_is)
    (case a17 => k_is)
    (case l17 => k_is)
    (case c17 => k_is)
    (case k17 => k_is)
    (case a18 => k_is)
    (case l18 => k_is)
    (case c18 => k_is)
    (case k18 => k_is)
    (case a19 => k_is)
    (case l19 => k_is)
    (case c19 => k_is)
    (case k19 => k_is)
    (case a20 => k_is)
    (case l20 => k_is)
    (case c20 => k_is)
    (case k20 => k_is)
    (case a21 => k_is)
    (case l21 => k_is)
    (case c21 => k_is)
    (case k21 => k_is)
    (case a22 => k_is)
    (case l22 => k_is)
    (case c22 => k_is)
    (case k22 => k_is)
    (case a23 => k_is)
    (case l23 => k_is)
    (case c23 => k_is)
    (case k23 => k_is)
    (case a24 => k_is)
    (case l24 => k_is)
    (case c24 => k_is)
    (case k24 => k_is)
    (case a25 => k_is)
    (case l25 => k_is)
    (case c25 => k_is)
    (case k25 => k_is)
    (case a26 => k_is)
    (case l26 => k_is)
    (case c26 => k_is)
    (case k26 => k_is)
    (case z_abs => k_is)
    (case z_all => k_is)
    (case z_any => k_is)
    (case z_dict => k_is)
    (case z_enumerate => k_is)
    (case z_int => k_is)
    (case z_isinstance => k_is)
    (case z_len => k_is)
    (case z_list => k_is)
    (case z_min => k_is)
    (case z_range => k_is)
    (case z_repr => k_is)
    (case z_sorted => k_is)
    (case z_str => k_is)
    (case z_tuple => k_is)
    (case z_type => k_is)
    (case z_zip => k_is)
    (case y_LONGEST => k_is)
    (case r_0 => rfl)
    (case e_0 => rfl)
    (case u_0 => k_is)
    (case v_0 => rfl)
    (case n_0 => rfl)
