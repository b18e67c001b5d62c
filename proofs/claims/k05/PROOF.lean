import PyProof.Rows.All
import Wide.All
import OpenK.AllK
import Wide.FinOn
import HandS.Words
import HandS.Ends
import HandS.ForMost
import HandS.More
import HandS.Walk
import HandS.TupAny
import HandS.Style
import HandS.IsInst
import HandS.Zip
import HandS.Conv
import HandS.Deep
import KE.GoesEnum
import HandS.Iter
import HandS.Set
import HandS.SetFor
import HandS.SetTxt0
import HandS.Strs
import PyProof.Rows.SortShellAny
import HandS.List
import PyProof.ReprRoads
import PyProof.ReprDict
import PyProof.CallFns
import PyProof.CallStr
import PyProof.EqAt
import PyProof.EqKinds
import PyProof.NeKinds
import PyProof.Rows.IntBool
import PyProof.TwoTypesSub
import PyProof.ReprLen
import PyProof.ReprRoom
import PyProof.Rows.ReprOcc
import PyProof.Rows.StrCase
import HandS.CallLocal
import PyProof.WalksMore
import KE.GoesZip
import PyProof.P3Eq
import PySem.Challenge.RW_standviews_k05_questions_and_their_colum
set_option Elab.async false
set_option linter.all false
set_option autoImplicit false
set_option maxRecDepth 100000
set_option maxHeartbeats 4000000
/-! promises of defs where nothing is being shown (no guard stands): repr may be asked -/
namespace DG
open PySem PySem.Spec PyProof.Rows L2
structure RoomG (k : Nat) (A : Around) : Prop where
  r : Room k A
  g : A.guards = some []
theorem RoomG.mono {j k : Nat} {A : Around} (r : RoomG k A) (h : j ≤ k) : RoomG j A := ⟨r.r.mono h, r.g⟩
structure FnG (P : Program) (w : World) (K : PySem.W.Frag) (mg : Str → Option Value) (base : Heap) (CX : CXT) (k : Nat) (f : Addr) (fd : FuncData) (ps : List Str) (sp : Sp) : Prop where
  len : ∀ vs H Q E, sp vs H Q E → vs.length = ps.length
  run : ∀ (A : Around) (outer : List Env) (s : Shared) (H : Hp) (args : Args) (us : List Value) (vs : List V) (Q : VK) (E : XK), RoomG k A → Env0 P w K mg base A outer s H → BindsTo s fd args (ps.zip us) →
    Vals vs us → sp vs H Q E → codeAny (model P w) A (.call (.ref f) args) (CR CX outer P w H s Q E) s
section
variable {P : Program} {w : World} {K : PySem.W.Frag} {mg : Str → Option Value} {base : Heap} {CX : CXT} {j k : Nat} {f : Addr} {fd : FuncData} {ps : List Str} {sp sp' : Sp}
theorem FnG.mono (F : FnG P w K mg base CX j f fd ps sp) (h : j ≤ k) : FnG P w K mg base CX k f fd ps sp := ⟨F.len, fun A o s H a us vs Q E r => F.run A o s H a us vs Q E (r.mono h)⟩
theorem FnG.imp (F : FnG P w K mg base CX k f fd ps sp) (h : ∀ vs H Q E, sp' vs H Q E → sp vs H Q E) : FnG P w K mg base CX k f fd ps sp' :=
  ⟨fun vs H Q E q => F.len vs H Q E (h _ _ _ _ q), fun A o s H a us vs Q E r e b v q => F.run A o s H a us vs Q E r e b v (h _ _ _ _ q)⟩
/-- a def by its body -/
theorem fnG {x qual : Str} {st : Stmt} {N : List Str} (D : Fun K x qual st f fd) (S : FnScope N ps (defScope st)) (len : ∀ vs H Q E, sp vs H Q E → vs.length = ps.length)
    (body : ∀ (cdv : Value) (A : Around) (outer : List Env) (s : Shared) (H : Hp) (vs : List V) (Q : VK) (E : XK), RoomG k (A.deeper (envOfC qual (defScope st) s.heap.objs.size f cdv)) → sp vs H Q E →
      ∃ t, PSs (cxOf CX P w K mg base N qual (defScope st) f cdv A outer s H E) (defBody st) t ∧ t { nx := fun _ H' => Q .non H', rt := Q } (start N vs) H) : FnG P w K mg base CX (k + 1) f fd ps sp := by
  obtain ⟨oc, od, kV, doc, pm, an, cdv, ct, osl, rfl, lk, hcd⟩ := D.ex
  refine ⟨len, fun A outer s H args us vs Q E hr e0 hb r hsp => ?_⟩
  have hl := len vs H Q E hsp
  have KX : K.In s.heap := e0.mod.kin.keeps fun b o e => (e0.bs b o e).1
  have lim := e0.mod.nolimit.keeps fun b o e => (e0.bs b o e).1
  have kinds : ∀ y ∈ ps.zip us, (defScope st).names.lookup y.1 = some .local ∨ ((defScope st).names.lookup y.1 = some .cell ∧ ((cellsFrom (s.heap.objs.size + 1) (defScope st).names []).lookup y.1).isSome = true) := by
    intro y hy
    have hm := (List.of_mem_zip (a := y.1) (b := y.2) hy).1
    exact (S.par y.1 hm).imp id fun q => ⟨q, PySem.W.cellsFrom_some _ _ _ (.inl q)⟩
  apply codeAny_call_function hr.r.depth (KX _ _ lk) rfl S.co S.gen rfl (PySem.W.codeRec_of KX hcd)
  refine hb _ _ _ _ (wpAny_newFunctionEnv_cells S.kind kinds fun env he s1 x => ?_)
  subst he
  refine ⟨lim.keeps x.toInCall.keep, ?_⟩
  apply codeAny_func
  obtain ⟨t, ht, q⟩ := body cdv A outer s H vs Q E ⟨hr.r.deeper _, hr.g⟩ hsp
  have I := inv_start (CX := CX) (E := E) S hr.r.hd e0 hl r x
  refine wpAny_mono (ht.run [] s1 (start N vs) H _ I q) (fun fl s' z => ?_) fun e s' z => z
  match fl, z with
  | .ret u, ⟨v, σ', H', J, rv, q⟩ => exact ⟨v, H', J.os, J.bare, J.base, J.hok, rv, q⟩
  | .next, ⟨σ', H', J, q⟩ => exact ⟨V.non, H', J.os, J.bare, J.base, J.hok, rfl, q⟩
  | .brk, ⟨_, _, _, q⟩ => exact q.elim
  | .cont, ⟨_, _, _, q⟩ => exact q.elim
end
/-- a call of one -/
theorem pe_callG {X : Cx} {CX : CXT} {k : Nat} {f : Addr} {fd : FuncData} {ps : List Str} {sp : Sp} {E : XK} {x : Str} {p pos : Pos} {e : Expr} {es : List Expr} {t : TA} (F : FnG X.prog X.w X.K X.mg X.base CX k f fd ps sp) (hr : RoomG k X.A) (hg : Gl X x) (hm : X.mg x = some (.ref f))
    (hk : PySem.W.keepIn X.K (.ref f) = true) (hb : Binds X.K fd ps []) (hx : Passes CX X E) (ha : PA X (e :: es) t) (hdb : (x == ("__debug__" : Str)) = false := by decide)
    (he : starEach (e :: es) X.env = (false, eval e X.env) :: starEach es X.env := by rfl) (hpl : (backTo pos (starEach es X.env)).any (·.1) = false := by rfl) : PE X (.Call (.Name x p) (e :: es) [] pos) (tCall sp [] E t) := by
  refine ⟨fun pins s σ H Q I h => wpAny_Call_Name_kw (ld_glob I hg hm ?_ hdb)⟩
  refine PySem.W.callWith_K (h₀ := X.base) I.ok.mod.kin hk (thn (ha.run pos pins s σ H _ I h) fun us s1 ⟨vs, H1, I1, r, q⟩ => ⟨I1.kIn, wpAny_call ?_⟩) he hpl
  have q : sp (vs ++ []) H1 Q E := q
  rw [List.append_nil] at q
  have hl : (us ++ []).length = ps.length := by rw [List.append_nil, ← r.length]; exact F.len _ _ _ _ q
  have b := hb s1 us I1.kIn hl
  rw [List.append_nil] at b
  refine codeAny_mono (F.run X.A X.stack s1 H1 ⟨us, []⟩ us vs Q E hr I1.env0 b r q) fun r s' z => ?_
  match r, z with
  | .error e, z => exact hx pins σ H1 s1 e s' I1 z
  | .ok (.ret u), z => exact I1.after z
  | .ok .next, z => exact z.elim
  | .ok .brk, z => exact z.elim
  | .ok .cont, z => exact z.elim
end DG

set_option autoImplicit false
set_option maxRecDepth 100000
set_option maxHeartbeats 4000000
namespace DG
open PySem PySem.Spec PyProof.Rows L2
section
variable {P : Program} {w : World} {K : PySem.W.Frag} {mg mb : Str → Option Value} {CX : CXT} {k : Nat} {fa a : Addr} {fd : FuncData} {x : Str} {sp : Sp} {s : Shared} {vs : List Value} {ns : List Int}
/-- what the head wants of the law's call -/
abbrev Told (s : Shared) : Result → Shared → Prop := fun r s' => r = .ok (.ret (.bool true)) ∧ OldK s.heap s'.heap ∧ s'.os = s.os ∧ AllBare s'.gens
/-- the call at an abstract heap in which the script's place alone may be tracked -/
theorem call_at {H : Hp} (hA : ∀ b, H b ≠ none → b = a) (hK : H a ≠ none → K.lookup a = none) (hO : Only H) (hl : s.heap.get? a = some { cls := .type "list", data := .seq vs.toArray }) (hok : HOk P w H s.heap)
    (KX : K.In s.heap) (n1 : s.heap.Ns mainGlobals mg) (n2 : s.heap.Ns builtinsNs mb) (n3 : ∀ x : Str, x ≠ "__name__" → mb x = bootBuiltins x) (lim : s.heap.NoLimit) (gn : s.gens = #[]) (hr : Room k callerA)
    (F : ∀ base : Heap, K.In base → base.Ns mainGlobals mg → FnG P w K mg base CX k fa fd [x] sp) (bind : ∀ (s : Shared) (u : Value), BindsTo s fd ⟨[u], []⟩ [(x, u)])
    (hsp : sp [.ref a] H (fun v _ => v = .bl true) fun _ _ _ => False) (hCX : ∀ e s', CX [] H s (fun _ _ _ => False) e s' → False) : codeAny (model P w) callerA (.call (.ref fa) ⟨[.ref a], []⟩) (Told s) s := by
  have keep : ∀ {b : Addr} {o : Obj}, s.heap.get? b = some o → H b = none → (hidT s.heap H).get? b = some o := fun e n => hidT_get e n
  have free : ∀ {b : Addr} {o : Obj}, s.heap.get? b = some o → (∀ d n, o.data = .dict d n → H b = none) := fun {b o} e d n hd => by
    cases q : H b with
    | none => rfl
    | some u =>
      have eb := hA b (by rw [q]; intro z; cases z)
      rw [eb, hl] at e
      cases e
      cases hd
  have ns : ∀ {b : Addr} {m : Str → Option Value}, s.heap.Ns b m → (hidT s.heap H).Ns b m := fun ⟨o, d, n, e, hd, r⟩ => ⟨o, d, n, keep e (free e d n hd), hd, r⟩
  have KB : K.In (hidT s.heap H) := fun b o e => keep (KX b o e) (by
    cases q : H b with
    | none => rfl
    | some u =>
      have eb := hA b (by rw [q]; intro z; cases z)
      have := hK (by rw [← eb, q]; intro z; cases z)
      rw [eb, this] at e
      cases e)
  have M : Mod K mg (hidT s.heap H) := by
    refine ⟨KB, ns n1, ⟨mb, ns n2, n3⟩, ?_⟩
    obtain ⟨c, l1, l2⟩ := lim
    exact ⟨c, ns l1, l2⟩
  have E0 : Env0 P w K mg (hidT s.heap H) callerA [] s H := ⟨rfl, M, fun b o e => of_hidT e, Nat.le_of_eq (hidT_size _ _), trivial, fun b z => (by cases z), hok, .of_eq gn⟩
  have run := (F (hidT s.heap H) KB (ns n1)).run callerA [] s H ⟨[.ref a], []⟩ [.ref a] [.ref a] (fun v _ => v = .bl true) (fun _ _ _ => False) ⟨hr, rfl⟩ E0 (bind s _) (.cons rfl .nil) hsp
  refine codeAny_mono run fun r s' z => ?_
  match r, z with
  | .error e, z => exact (hCX e s' z).elim
  | .ok .next, z => exact z.elim
  | .ok .brk, z => exact z.elim
  | .ok .cont, z => exact z.elim
  | .ok (.ret u), ⟨v, H', os, br, un, ok', rv, q⟩ =>
    have q : v = .bl true := q
    subst q
    have eu : u = Value.bool true := rv
    refine ⟨by rw [eu], OldK.of_keep fun b o e => ?_, os, br⟩
    cases q : H b with
    | none => exact un.keep b o e q (fun z => by cases z) (fun z => by cases z)
    | some t =>
      rcases hO b with z | ⟨ob, ys, z⟩
      · rw [z] at q; cases q
      · have f1 := (hok b _ z).1
        have f2 := (ok' b _ (un.frzs b ob _ z)).1
        rw [e] at f1
        cases f1
        exact f2
theorem law_callG (KX : K.In s.heap) (n1 : s.heap.Ns mainGlobals mg) (n2 : s.heap.Ns builtinsNs mb) (n3 : ∀ x : Str, x ≠ "__name__" → mb x = bootBuiltins x) (lim : s.heap.NoLimit) (gn : s.gens = #[])
    (hl : s.heap.get? a = some { cls := .type "list", data := .seq vs.toArray }) (hi : IntsAre vs ns) (hz : ns.length ≤ sizeLine) (hr : Room k callerA)
    (F : ∀ base : Heap, K.In base → base.Ns mainGlobals mg → FnG P w K mg base CX k fa fd [x] sp) (bind : ∀ (s : Shared) (u : Value), BindsTo s fd ⟨[u], []⟩ [(x, u)])
    (hsp : ∀ H : Hp, Only H → SqL K H a (ns.map V.int) → sp [.ref a] H (fun v _ => v = .bl true) fun _ _ _ => False) (hCX : ∀ H e s', CX [] H s (fun _ _ _ => False) e s' → False) :
    codeAny (model P w) callerA (.call (.ref fa) ⟨[.ref a], []⟩) (Told s) s := by
  have vi := vals_ints hi
  have len := hi.length
  cases hk : K.lookup a with
  | some o =>
    have e := KX a o hk
    rw [hl] at e
    cases e
    have sq : SqL K (fun _ => none) a (ns.map V.int) := .inr ⟨_, vs.toArray, _, hk, rfl, rfl, rfl, (by rw [List.size_toArray]; omega), by simpa using vi⟩
    exact call_at (H := fun _ => none) (fun b z => absurd rfl z) (fun z => absurd rfl z) (fun _ => .inl rfl) hl (fun b u z => by cases z) KX n1 n2 n3 lim gn hr F bind (hsp _ (fun _ => .inl rfl) sq) fun e s' => hCX _ e s'
  | none =>
    let O : HO := .frz { cls := .type "list", data := .seq vs.toArray } (.lst (ns.map V.int))
    have h1 : ∀ b, b = a → (fun b => if b = a then some O else none) b = some O := fun b e => if_pos e
    have h2 : ∀ b, b ≠ a → (fun b => if b = a then some O else none) b = none := fun b e => if_neg e
    generalize eH : (fun b => if b = a then some O else none) = H at h1 h2
    have on : Only H := fun b => by
      by_cases e : b = a
      · exact .inr ⟨_, _, h1 b e⟩
      · exact .inl (h2 b e)
    refine call_at (H := H) (fun b z => ?_) (fun _ => hk) on hl (fun b u z => ?_) KX n1 n2 n3 lim gn hr F bind (hsp _ on (.inl (.inr ⟨_, h1 a rfl⟩))) fun e s' => hCX _ e s'
    · by_cases e : b = a
      · exact e
      · exact absurd (h2 b e) z
    · by_cases e : b = a
      · rw [h1 b e] at z
        cases z
        subst e
        exact ⟨hl, (by rw [List.length_map]; exact hz), vs, _, vi, hl⟩
      · rw [h2 b e] at z
        cases z
end
/-- the head's goal -/
theorem walkG {l : PySem.W.OpenLaw} {n k : Nat} {q : Program} {loose : List Str} {XP : (Str → Option Value) → Heap → Prop} {YP : World → Heap → Prop} {d : DefRec} {K : Params → PySem.W.Frag} {CX : World → CXT} {sp : World → Sp} {x : Str}
    (hn : l.most = some n) (hn2 : n ≤ sizeLine) (hdf : d.params.defaults = []) (hr : Room k callerA) (hY : ∀ (w : World) (h : Heap), YP w h → (K w.params).In h)
    (F : ∀ (w : World) (mg : Str → Option Value) (fa : Addr) (h : Heap), (K w.params).In h → h.Ns mainGlobals mg → mg d.name = some (.ref fa) →
      ∃ fd : FuncData, (∀ (s : Shared) (u : Value), BindsTo s fd ⟨[u], []⟩ [(x, u)]) ∧ ∀ base : Heap, (K w.params).In base → base.Ns mainGlobals mg → FnG l.prog w (K w.params) mg base (CX w) k fa fd [x] (sp w))
    (hsp : ∀ (w : World) (H : Hp) (a : Addr) (ns : List Int), ns.length ≤ n → Only H → SqL (K w.params) H a (ns.map V.int) → sp w [.ref a] H (fun v _ => v = .bl true) fun _ _ _ => False)
    (hCX : ∀ (w : World) (H : Hp) (s : Shared) (e : Value) (s' : Shared), CX w [] H s (fun _ _ _ => False) e s' → False) : PySem.W.WalkO q loose XP YP l.row.toRowW d [] (fun f vs => PySem.call f vs) := by
  apply Att.attach_call hn hdf
  intro w s0 s1 mg mb fa o pm cd doc a vs ns G Y ho hd hcd hmg hobj hints hlen hg
  have KX := hY w _ Y
  obtain ⟨fd, hb, hF⟩ := F w mg fa _ KX G.T.g hmg
  exact law_callG KX G.T.g G.T.b G.T.builtins G.T.nolimit hg hobj hints (by omega) hr hF hb (fun H hO hS => hsp w H a ns hlen hO hS) fun H e s' => hCX w H s1 e s'
end DG

set_option autoImplicit false
set_option maxRecDepth 100000
set_option maxHeartbeats 2000000
namespace DL
open PySem L2

/-! ### data -/
inductive D where
  | non | bl (b : Bool) | int (i : Int) | str (s : Str)
  | tup (xs : List D) | lst (xs : List D) | scr (xs : List D) | cel (a : Addr) | ty (n : String)

mutual
inductive Dat (K : PySem.W.Frag) (H : Hp) : V → D → Prop
  | non : Dat K H .non .non
  | bl (b : Bool) : Dat K H (.bl b) (.bl b)
  | int (i : Int) : Dat K H (.int i) (.int i)
  | str (s : Str) : Dat K H (.str s) (.str s)
  | tup {a : Addr} {vs : List V} {ds : List D} : SqT K H a vs → Dats K H vs ds → Dat K H (.ref a) (.tup ds)
  | lst {a : Addr} {vs : List V} {ds : List D} : H a = some (.lst vs) → Dats K H vs ds → Dat K H (.ref a) (.lst ds)
  | scr {a : Addr} {vs : List V} {ds : List D} : SqL K H a vs → Dats K H vs ds → Dat K H (.ref a) (.scr ds)
  | cel (a : Addr) : Dat K H (.ref a) (.cel a)
  | ty (n : String) : Dat K H (.ty n) (.ty n)
inductive Dats (K : PySem.W.Frag) (H : Hp) : List V → List D → Prop
  | nil : Dats K H [] []
  | cons {v : V} {vs : List V} {d : D} {ds : List D} : Dat K H v d → Dats K H vs ds → Dats K H (v :: vs) (d :: ds)
end

theorem same_l {K : PySem.W.Frag} {H H' : Hp} {a : Addr} {xs : List V} (e : Same H H') (h : SqL K H a xs) : SqL K H' a xs := e.seq h
theorem same_t {K : PySem.W.Frag} {H H' : Hp} {a : Addr} {xs : List V} (e : Same H H') (h : SqT K H a xs) : SqT K H' a xs := by
  rcases h with (h | ⟨o, h⟩) | h
  · exact .inl (.inl (e _ _ h))
  · exact .inl (.inr ⟨o, e _ _ h⟩)
  · exact .inr h

mutual
theorem Dat.mono {K : PySem.W.Frag} {H H' : Hp} (e : Same H H') : ∀ (d : D) (v : V), Dat K H v d → Dat K H' v d
  | .non, _, .non => .non
  | .bl _, _, .bl b => .bl b
  | .int _, _, .int i => .int i
  | .str _, _, .str s => .str s
  | .tup ds, _, .tup h hs => .tup (same_t e h) (Dats.mono e ds _ hs)
  | .lst ds, _, .lst h hs => .lst (e _ _ h) (Dats.mono e ds _ hs)
  | .scr ds, _, .scr h hs => .scr (same_l e h) (Dats.mono e ds _ hs)
  | .cel _, _, .cel a => .cel a
  | .ty _, _, .ty n => .ty n
theorem Dats.mono {K : PySem.W.Frag} {H H' : Hp} (e : Same H H') : ∀ (ds : List D) (vs : List V), Dats K H vs ds → Dats K H' vs ds
  | [], _, .nil => .nil
  | d :: ds, _, .cons h hs => .cons (Dat.mono e d _ h) (Dats.mono e ds _ hs)
end
theorem Dats.length {K : PySem.W.Frag} {H : Hp} : ∀ {vs : List V} {ds : List D}, Dats K H vs ds → vs.length = ds.length
  | _, _, .nil => rfl
  | _, _, .cons _ t => congrArg (· + 1) (Dats.length t)
theorem Dats.get {K : PySem.W.Frag} {H : Hp} : ∀ {vs : List V} {ds : List D} {i : Nat} {d : D}, Dats K H vs ds → ds[i]? = some d → ∃ v, vs[i]? = some v ∧ Dat K H v d
  | _, _, _, _, .nil, e => by simp at e
  | _, _, 0, _, .cons h _, e => by simp at e; subst e; exact ⟨_, rfl, h⟩
  | _, _, i + 1, _, .cons _ t, e => by
    obtain ⟨v, h1, h2⟩ := Dats.get (i := i) t (by simpa using e)
    exact ⟨v, by simpa using h1, h2⟩
theorem Dats.getV {K : PySem.W.Frag} {H : Hp} : ∀ {vs : List V} {ds : List D} {i : Nat} {v : V}, Dats K H vs ds → vs[i]? = some v → ∃ d, ds[i]? = some d ∧ Dat K H v d
  | _, _, _, _, .nil, e => by simp at e
  | _, _, 0, _, .cons h _, e => by simp at e; subst e; exact ⟨_, rfl, h⟩
  | _, _, i + 1, _, .cons _ t, e => by
    obtain ⟨v, h1, h2⟩ := Dats.getV (i := i) t (by simpa using e)
    exact ⟨v, by simpa using h1, h2⟩
theorem Dats.append {K : PySem.W.Frag} {H : Hp} : ∀ {vs ws : List V} {ds es : List D}, Dats K H vs ds → Dats K H ws es → Dats K H (vs ++ ws) (ds ++ es)
  | _, _, _, _, .nil, s => s
  | _, _, _, _, .cons h t, s => .cons h (Dats.append t s)
theorem Dats.one {K : PySem.W.Frag} {H : Hp} {v : V} {d : D} (h : Dat K H v d) : Dats K H [v] [d] := .cons h .nil
theorem Dats.take {K : PySem.W.Frag} {H : Hp} : ∀ {vs : List V} {ds : List D} (n : Nat), Dats K H vs ds → Dats K H (vs.take n) (ds.take n)
  | _, _, 0, _ => .nil
  | _, _, _ + 1, .nil => .nil
  | _, _, n + 1, .cons h t => .cons h (Dats.take n t)
theorem Dats.drop {K : PySem.W.Frag} {H : Hp} : ∀ {vs : List V} {ds : List D} (n : Nat), Dats K H vs ds → Dats K H (vs.drop n) (ds.drop n)
  | _, _, 0, h => h
  | _, _, _ + 1, .nil => .nil
  | _, _, n + 1, .cons _ t => Dats.drop n t
theorem Dats.set {K : PySem.W.Frag} {H : Hp} {v : V} {d : D} (h : Dat K H v d) : ∀ {vs : List V} {ds : List D} (i : Nat), Dats K H vs ds → Dats K H (vs.set i v) (ds.set i d)
  | _, _, _, .nil => .nil
  | _, _, 0, .cons _ t => .cons h t
  | _, _, i + 1, .cons q t => .cons q (Dats.set h i t)
theorem Dats.eraseIdx {K : PySem.W.Frag} {H : Hp} : ∀ {vs : List V} {ds : List D} (i : Nat), Dats K H vs ds → Dats K H (vs.eraseIdx i) (ds.eraseIdx i)
  | _, _, _, .nil => .nil
  | _, _, 0, .cons _ t => t
  | _, _, i + 1, .cons q t => .cons q (Dats.eraseIdx i t)
theorem Dats.dropLast {K : PySem.W.Frag} {H : Hp} {vs : List V} {ds : List D} (h : Dats K H vs ds) : Dats K H vs.dropLast ds.dropLast := by
  rw [List.dropLast_eq_take, List.dropLast_eq_take, h.length]; exact h.take _

/-! ### mutable cells -/
inductive Cell where
  | lst (ds : List D)
  | dct (kvs : List (Key × D))
abbrev Mem := Addr → Option Cell
def setM (M : Mem) (a : Addr) (c : Cell) : Mem := fun b => if b = a then some c else M b
theorem setM_same {M : Mem} {a : Addr} {c : Cell} : setM M a c a = some c := by unfold setM; rw [if_pos rfl]
theorem setM_ne {M : Mem} {a b : Addr} {c : Cell} (h : b ≠ a) : setM M a c b = M b := by unfold setM; rw [if_neg h]
theorem setM_setM {M : Mem} {a : Addr} {c c' : Cell} : setM (setM M a c) a c' = setM M a c' := by
  funext b; unfold setM; split <;> rfl
theorem setM_comm {M : Mem} {a b : Addr} {c c' : Cell} (h : a ≠ b) : setM (setM M a c) b c' = setM (setM M b c') a c := by
  funext x; unfold setM; by_cases h1 : x = b <;> by_cases h2 : x = a <;> simp [h1, h2]
  · exact absurd (h2.symm.trans h1) h
  · intro e; exact absurd e.symm h
  · intro e; exact absurd e h
theorem neM {M : Mem} {a b : Addr} {c : Cell} (h : M a = some c) (h' : M b = none) : a ≠ b := by
  intro e; subst e; rw [h] at h'; cases h'

abbrev DKs (K : PySem.W.Frag) (H : Hp) : List (Key × V) → List (Key × D) → Prop := Paired fun p q => p.1 = q.1 ∧ Dat K H p.2 q.2
inductive CellOk (K : PySem.W.Frag) (H : Hp) : HO → Cell → Prop
  | lst {vs : List V} {ds : List D} : Dats K H vs ds → CellOk K H (.lst vs) (.lst ds)
  | dct {kvs : List (Key × V)} {kds : List (Key × D)} : DKs K H kvs kds → CellOk K H (.dK kvs) (.dct kds)
theorem CellOk.mono {K : PySem.W.Frag} {H H' : Hp} (e : Same H H') {o : HO} {c : Cell} (h : CellOk K H o c) : CellOk K H' o c := by
  cases h with
  | lst h => exact .lst (h.mono e)
  | dct h => exact .dct (Paired.mapP h fun _ _ q => ⟨q.1, q.2.mono e⟩)

/-- the persistent part H0 within H, the mutable cells M beside it -/
structure Wd (K : PySem.W.Frag) (Fr : Hp) (H0 : Hp) (M : Mem) (H : Hp) : Prop where
  ex : Same H0 H
  mem : ∀ a c, M a = some c → H0 a = none ∧ ∃ o, H a = some o ∧ CellOk K H0 o c
  fr : ∀ a o, Fr a = some o → H0 a = none ∧ M a = none ∧ H a = some o
theorem same_new {H : Hp} {p : Addr} {o : HO} (h : H p = none) : Same H (upd H p o) := fun a u e => by
  rw [upd_ne (ne_of_none e h)]; exact e
section
variable {K : PySem.W.Frag} {Fr H0 H : Hp} {M : Mem} {p a : Addr} {o : HO} {c : Cell}
theorem Wd.fresh (w : Wd K Fr H0 M H) (h : H p = none) : H0 p = none := w.ex.free h
theorem Wd.freshM (w : Wd K Fr H0 M H) (h : H p = none) : M p = none := by
  cases q : M p with
  | none => rfl
  | some c => obtain ⟨_, o, e, _⟩ := w.mem p c q; rw [h] at e; cases e
theorem Wd.freshF (w : Wd K Fr H0 M H) (h : H p = none) : Fr p = none := by
  cases q : Fr p with
  | none => rfl
  | some c => have e := (w.fr p c q).2.2; rw [h] at e; cases e
theorem neF {Fr : Hp} {a b : Addr} {u : HO} (h : Fr a = some u) (h' : Fr b = none) : a ≠ b := by
  intro e; subst e; rw [h] at h'; cases h'
/-- such an object becomes persistent -/
theorem Wd.adopt (w : Wd K Fr H0 M H) (h0 : H0 p = none) (hM : M p = none) (hF : Fr p = none) (h : H p = some o) : Wd K Fr (upd H0 p o) M H :=
  ⟨fun b u e => by
    by_cases hb : b = p
    · subst hb; rw [upd_same] at e; rw [h]; exact e
    · rw [upd_ne hb] at e; exact w.ex b u e, fun b c e => by
    obtain ⟨h1, o', h2, h3⟩ := w.mem b c e
    exact ⟨by rw [upd_ne (neM e hM)]; exact h1, o', h2, h3.mono (same_new h0)⟩, fun b u e => by
    obtain ⟨h1, h2, h3⟩ := w.fr b u e
    exact ⟨by rw [upd_ne (neF e hF)]; exact h1, h2, h3⟩⟩
/-- an object that nobody tells of is changed, or is new -/
theorem Wd.tmpSet (w : Wd K Fr H0 M H) (h0 : H0 p = none) (hM : M p = none) (hF : Fr p = none) : Wd K Fr H0 M (upd H p o) :=
  ⟨fun b u e => by rw [upd_ne (ne_of_none e h0)]; exact w.ex b u e, fun b c e => by
    obtain ⟨h1, o', h2, h3⟩ := w.mem b c e
    exact ⟨h1, o', by rw [upd_ne (neM e hM)]; exact h2, h3⟩, fun b u e => by
    obtain ⟨h1, h2, h3⟩ := w.fr b u e
    exact ⟨h1, h2, by rw [upd_ne (neF e hF)]; exact h3⟩⟩
theorem Wd.tmp (w : Wd K Fr H0 M H) (h : H p = none) : Wd K Fr H0 M (upd H p o) := w.tmpSet (w.fresh h) (w.freshM h) (w.freshF h)
/-- a new persistent object -/
theorem Wd.new (w : Wd K Fr H0 M H) (h : H p = none) : Wd K Fr (upd H0 p o) M (upd H p o) := (w.tmp h).adopt (w.fresh h) (w.freshM h) (w.freshF h) upd_same
/-- such an object becomes a cell -/
theorem Wd.adoptM (w : Wd K Fr H0 M H) (h0 : H0 p = none) (hF : Fr p = none) (h : H p = some o) (k : CellOk K H0 o c) : Wd K Fr H0 (setM M p c) H :=
  ⟨w.ex, fun b c' e => by
    by_cases hb : b = p
    · subst hb; rw [setM_same] at e; cases e; exact ⟨h0, o, h, k⟩
    · rw [setM_ne hb] at e; exact w.mem b c' e, fun b u e => by
    obtain ⟨h1, h2, h3⟩ := w.fr b u e
    exact ⟨h1, by rw [setM_ne (neF e hF)]; exact h2, h3⟩⟩
/-- a new cell -/
theorem Wd.newM (w : Wd K Fr H0 M H) (h : H p = none) (k : CellOk K H0 o c) : Wd K Fr H0 (setM M p c) (upd H p o) :=
  (w.tmp h).adoptM (w.fresh h) (w.freshF h) upd_same k
/-- a cell is changed -/
theorem Wd.set {c' : Cell} (w : Wd K Fr H0 M H) (h : M a = some c') (k : CellOk K H0 o c) : Wd K Fr H0 (setM M a c) (upd H a o) := by
  refine ⟨fun b u e => ?_, fun b c2 e => ?_, fun b u e => ?_⟩
  · rw [upd_ne (ne_of_none e (w.mem a c' h).1)]; exact w.ex b u e
  · by_cases hb : b = a
    · subst hb; rw [setM_same] at e; cases e; exact ⟨(w.mem b c' h).1, o, upd_same, k⟩
    · rw [setM_ne hb] at e
      obtain ⟨h1, o', h2, h3⟩ := w.mem b c2 e
      exact ⟨h1, o', by rw [upd_ne hb]; exact h2, h3⟩
  · obtain ⟨h1, h2, h3⟩ := w.fr b u e
    have hb : b ≠ a := fun z => by rw [z, h] at h2; cases h2
    exact ⟨h1, by rw [setM_ne hb]; exact h2, by rw [upd_ne hb]; exact h3⟩
/-- what is told of no more goes into the frame: it comes back as it is -/
theorem Wd.frame (w : Wd K Fr H0 M H) (h0 : H0 p = none) (hM : M p = none) (h : H p = some o) : Wd K (upd Fr p o) H0 M H :=
  ⟨w.ex, w.mem, fun b u e => by
    by_cases hb : b = p
    · subst hb; rw [upd_same] at e; cases e; exact ⟨h0, hM, h⟩
    · rw [upd_ne hb] at e; exact w.fr b u e⟩
theorem Wd.unframe (w : Wd K (upd Fr p o) H0 M H) (hF : Fr p = none) : Wd K Fr H0 M H ∧ H0 p = none ∧ M p = none ∧ H p = some o :=
  ⟨⟨w.ex, w.mem, fun b u e => w.fr b u (by rw [upd_ne (neF e hF)]; exact e)⟩, w.fr p o upd_same⟩
end

/-! ### slots -/
abbrev Env := List (Option D)
structure Slots (K : PySem.W.Frag) (H : Hp) (σ : St) (Γ : Env) : Prop where
  len : σ.length = Γ.length
  get : ∀ (i : Nat) (d : D), Γ[i]? = some (some d) → ∃ v, σ[i]? = some (some v) ∧ Dat K H v d
theorem Slots.mono {K : PySem.W.Frag} {H H' : Hp} {σ : St} {Γ : Env} (e : Same H H') (h : Slots K H σ Γ) : Slots K H' σ Γ :=
  ⟨h.len, fun i d q => let ⟨v, h1, h2⟩ := h.get i d q; ⟨v, h1, h2.mono e⟩⟩
theorem Slots.set {K : PySem.W.Frag} {H : Hp} {σ : St} {Γ : Env} (h : Slots K H σ Γ) (i : Nat) {v : V} {d : D} (r : Dat K H v d) : Slots K H (σ.set i (some v)) (Γ.set i (some d)) := by
  refine ⟨by simp [h.len], fun j e q => ?_⟩
  by_cases hj : i = j
  · subst hj
    by_cases hl : i < Γ.length
    · rw [List.getElem?_set_self hl] at q; cases q
      exact ⟨v, List.getElem?_set_self (by rw [h.len]; exact hl), r⟩
    · rw [List.getElem?_eq_none (by simpa using hl)] at q; cases q
  · rw [List.getElem?_set_ne hj] at q ⊢; exact h.get j e q
def wipeD (Γ : Env) : List Nat → Env
  | [] => Γ
  | v :: vs => (wipeD Γ vs).set v none
theorem Slots.none {K : PySem.W.Frag} {H : Hp} {σ : St} {Γ : Env} (h : Slots K H σ Γ) (i : Nat) : Slots K H (σ.set i none) (Γ.set i none) := by
  refine ⟨by simp [h.len], fun j e q => ?_⟩
  by_cases hj : i = j
  · subst hj
    by_cases hl : i < Γ.length
    · rw [List.getElem?_set_self hl] at q; cases q
    · rw [List.getElem?_eq_none (by simpa using hl)] at q; cases q
  · rw [List.getElem?_set_ne hj] at q ⊢; exact h.get j e q
theorem Slots.wipe {K : PySem.W.Frag} {H : Hp} {σ : St} {Γ : Env} (h : Slots K H σ Γ) : ∀ vs : List Nat, Slots K H (wipe σ vs) (wipeD Γ vs)
  | [] => h
  | v :: vs => (Slots.wipe h vs).none v
theorem wipe_get (σ : St) : ∀ (vs : List Nat) (i : Nat), (wipe σ vs)[i]? = if i ∈ vs then (σ[i]?).map (fun _ => none) else σ[i]?
  | [], i => by simp [wipe]
  | v :: vs, i => by
    unfold wipe
    by_cases hi : v = i
    · subst hi
      by_cases hl : v < σ.length
      · rw [List.getElem?_set_self (by rw [wipe_length]; exact hl)]; simp [hl]
      · rw [List.getElem?_eq_none (by rw [List.length_set, wipe_length]; omega)]; simp [hl]
    · rw [List.getElem?_set_ne hi, wipe_get σ vs i]
      have : (i ∈ v :: vs) ↔ i ∈ vs := by simp [Ne.symm hi]
      by_cases h2 : i ∈ vs <;> simp [h2, Ne.symm hi]
theorem wipe_eq {σ σ' : St} {vs : List Nat} (hl : σ'.length = σ.length) (h : ∀ i, i ∉ vs → σ'[i]? = σ[i]?) : wipe σ' vs = wipe σ vs := by
  refine List.ext_getElem? fun i => ?_
  rw [wipe_get, wipe_get]
  by_cases hi : i ∈ vs
  · simp only [hi, if_true]
    by_cases hlt : i < σ.length
    · rw [List.getElem?_eq_getElem hlt, List.getElem?_eq_getElem (by omega : i < σ'.length)]; rfl
    · rw [List.getElem?_eq_none (by omega : σ.length ≤ i), List.getElem?_eq_none (by omega : σ'.length ≤ i)]
  · simp only [hi, if_false]; exact h i hi
theorem wipe_wipe (σ : St) (vs : List Nat) : wipe (wipe σ vs) vs = wipe σ vs :=
  wipe_eq (wipe_length σ vs) fun i hi => by rw [wipe_get]; simp [hi]

/-! ### the judgements -/
abbrev KD := D → Mem → Prop
abbrev WE := Env → Mem → KD → Prop
abbrev WT := Env → Mem → (Bool → Mem → Prop) → Prop
abbrev WA := Env → Mem → (List D → Mem → Prop) → Prop
structure KS where
  nx : Env → Mem → Prop
  rt : KD
  bk : Env → Mem → Prop
  ct : Env → Mem → Prop
abbrev WS := KS → Env → Mem → Prop

def Cont (K : PySem.W.Frag) (Fr H0 : Hp) (k : KD) (Q : VK) : Prop := ∀ v H0' H' d M', Same H0 H0' → Wd K Fr H0' M' H' → Dat K H0' v d → k d M' → Q v H'
def ContT (K : PySem.W.Frag) (Fr H0 : Hp) (k : Bool → Mem → Prop) (Q : Bool → Hp → Prop) : Prop := ∀ b H0' H' M', Same H0 H0' → Wd K Fr H0' M' H' → k b M' → Q b H'
def ContA (K : PySem.W.Frag) (Fr H0 : Hp) (k : List D → Mem → Prop) (Q : List V → Hp → Prop) : Prop := ∀ vs H0' H' ds M', Same H0 H0' → Wd K Fr H0' M' H' → Dats K H0' vs ds → k ds M' → Q vs H'
def ContS (K : PySem.W.Frag) (Fr H0 : Hp) (k : Env → Mem → Prop) (Q : St → Hp → Prop) : Prop := ∀ σ' H0' H' Γ' M', Same H0 H0' → Slots K H0' σ' Γ' → Wd K Fr H0' M' H' → k Γ' M' → Q σ' H'
structure Emb (K : PySem.W.Frag) (Fr H0 : Hp) (k : KS) (D : Ends) : Prop where
  nx : ContS K Fr H0 k.nx D.nx
  rt : Cont K Fr H0 k.rt D.rt
  bk : ContS K Fr H0 k.bk D.bk
  ct : ContS K Fr H0 k.ct D.ct
section
variable {K : PySem.W.Frag} {Fr H0 H1 : Hp}
theorem Cont.mono {k : KD} {Q : VK} (e : Same H0 H1) (c : Cont K Fr H0 k Q) : Cont K Fr H1 k Q := fun v H0' H' d M' s => c v H0' H' d M' (e.trans s)
theorem ContT.mono {k : Bool → Mem → Prop} {Q : Bool → Hp → Prop} (e : Same H0 H1) (c : ContT K Fr H0 k Q) : ContT K Fr H1 k Q := fun v H0' H' M' s => c v H0' H' M' (e.trans s)
theorem ContA.mono {k : List D → Mem → Prop} {Q : List V → Hp → Prop} (e : Same H0 H1) (c : ContA K Fr H0 k Q) : ContA K Fr H1 k Q := fun v H0' H' d M' s => c v H0' H' d M' (e.trans s)
theorem ContS.mono {k : Env → Mem → Prop} {Q : St → Hp → Prop} (e : Same H0 H1) (c : ContS K Fr H0 k Q) : ContS K Fr H1 k Q := fun v H0' H' d M' s => c v H0' H' d M' (e.trans s)
theorem Emb.mono {k : KS} {D : Ends} (e : Same H0 H1) (c : Emb K Fr H0 k D) : Emb K Fr H1 k D := ⟨c.nx.mono e, c.rt.mono e, c.bk.mono e, c.ct.mono e⟩
end
def liftE (K : PySem.W.Frag) (w : WE) : TE := fun σ H Q => ∃ Γ Fr H0 M k, Slots K H0 σ Γ ∧ Wd K Fr H0 M H ∧ w Γ M k ∧ Cont K Fr H0 k Q
def liftT (K : PySem.W.Frag) (w : WT) : TT := fun σ H Q => ∃ Γ Fr H0 M k, Slots K H0 σ Γ ∧ Wd K Fr H0 M H ∧ w Γ M k ∧ ContT K Fr H0 k Q
def liftA (K : PySem.W.Frag) (w : WA) : TA := fun σ H Q => ∃ Γ Fr H0 M k, Slots K H0 σ Γ ∧ Wd K Fr H0 M H ∧ w Γ M k ∧ ContA K Fr H0 k Q
def liftS (K : PySem.W.Frag) (w : WS) : TS := fun D σ H => ∃ Γ Fr H0 M k, Slots K H0 σ Γ ∧ Wd K Fr H0 M H ∧ w k Γ M ∧ Emb K Fr H0 k D
structure DE (X : Cx) (e : Expr) (w : WE) : Prop where
  run : PE X e (liftE X.K w)
structure DT (X : Cx) (e : Expr) (w : WT) : Prop where
  run : PT X e (liftT X.K w)
structure DW (X : Cx) (e : Expr) (w : WT) : Prop where
  run : PW X e (liftT X.K w)
structure DA (X : Cx) (es : List Expr) (w : WA) : Prop where
  run : PA X es (liftA X.K w)
structure DS (X : Cx) (st : Stmt) (w : WS) : Prop where
  run : PS X st (liftS X.K w)
structure DSs (X : Cx) (st : List Stmt) (w : WS) : Prop where
  run : PSs X st (liftS X.K w)
section
variable {X : Cx} {e a b : Expr} {es : List Expr} {st : Stmt} {sts : List Stmt}
theorem de_of {t : TE} {w : WE} (h : PE X e t) (q : ∀ σ H Q Γ Fr H0 M k, Slots X.K H0 σ Γ → Wd X.K Fr H0 M H → w Γ M k → Cont X.K Fr H0 k Q → t σ H Q) : DE X e w :=
  ⟨⟨fun pins s σ H Q I ⟨Γ, Fr, H0, M, k, h1, h2, h3, h4⟩ => h.run pins s σ H Q I (q σ H Q Γ Fr H0 M k h1 h2 h3 h4)⟩⟩
theorem dt_of {t : TT} {w : WT} (h : PT X e t) (q : ∀ σ H Q Γ Fr H0 M k, Slots X.K H0 σ Γ → Wd X.K Fr H0 M H → w Γ M k → ContT X.K Fr H0 k Q → t σ H Q) : DT X e w :=
  ⟨⟨fun pins s σ H Q I ⟨Γ, Fr, H0, M, k, h1, h2, h3, h4⟩ => h.run pins s σ H Q I (q σ H Q Γ Fr H0 M k h1 h2 h3 h4)⟩⟩
theorem dw_of {t : TT} {w : WT} (h : PW X e t) (q : ∀ σ H Q Γ Fr H0 M k, Slots X.K H0 σ Γ → Wd X.K Fr H0 M H → w Γ M k → ContT X.K Fr H0 k Q → t σ H Q) : DW X e w :=
  ⟨⟨fun wh pins s σ H Q I ⟨Γ, Fr, H0, M, k, h1, h2, h3, h4⟩ => h.run wh pins s σ H Q I (q σ H Q Γ Fr H0 M k h1 h2 h3 h4)⟩⟩
theorem da_of {t : TA} {w : WA} (h : PA X es t) (q : ∀ σ H Q Γ Fr H0 M k, Slots X.K H0 σ Γ → Wd X.K Fr H0 M H → w Γ M k → ContA X.K Fr H0 k Q → t σ H Q) : DA X es w :=
  ⟨⟨fun po pins s σ H Q I ⟨Γ, Fr, H0, M, k, h1, h2, h3, h4⟩ => h.run po pins s σ H Q I (q σ H Q Γ Fr H0 M k h1 h2 h3 h4)⟩⟩
theorem ds_of {t : TS} {w : WS} (h : PS X st t) (q : ∀ D σ H Γ Fr H0 M k, Slots X.K H0 σ Γ → Wd X.K Fr H0 M H → w k Γ M → Emb X.K Fr H0 k D → t D σ H) : DS X st w :=
  ⟨⟨fun pins s σ H D I ⟨Γ, Fr, H0, M, k, h1, h2, h3, h4⟩ => h.run pins s σ H D I (q D σ H Γ Fr H0 M k h1 h2 h3 h4)⟩⟩
theorem dss_of {t : TS} {w : WS} (h : PSs X sts t) (q : ∀ D σ H Γ Fr H0 M k, Slots X.K H0 σ Γ → Wd X.K Fr H0 M H → w k Γ M → Emb X.K Fr H0 k D → t D σ H) : DSs X sts w :=
  ⟨⟨fun pins s σ H D I ⟨Γ, Fr, H0, M, k, h1, h2, h3, h4⟩ => h.run pins s σ H D I (q D σ H Γ Fr H0 M k h1 h2 h3 h4)⟩⟩

/-! ### names, constants -/
def wVar (i : Nat) : WE := fun Γ M k => match Γ[i]? with | some (some d) => k d M | _ => False
def wC (d : D) : WE := fun _ M k => k d M
theorem dv (i : Nat) {x : Str} {pos : Pos} (hN : X.N[i]? = some x := by rfl) (hv : Vis X.env.scope x := by first | exact Or.inl rfl | exact Or.inr (Or.inl rfl) | exact Or.inr (Or.inr rfl)) (hd : (x == ("__debug__" : Str)) = false := by decide)
    (hcd : (x == ("__classdict__" : Str)) = false := by decide) : DE X (.Name x pos) (wVar i) := by
  refine de_of (pe_var hN hv hd hcd) fun σ H Q Γ Fr H0 M k h1 h2 h3 h4 => ?_
  unfold wVar at h3
  split at h3
  · rename_i d e
    obtain ⟨v, e1, r⟩ := h1.get i d e
    exact ⟨v, e1, h4 v H0 H d M (Same.refl _) h2 r h3⟩
  · exact h3.elim
theorem de_c {v : V} {d : D} (h : PE X e (tC v)) (r : ∀ H, Dat X.K H v d) : DE X e (wC d) :=
  de_of h fun _ H Q Γ Fr H0 M k _ h2 h3 h4 => h4 v H0 H d M (Same.refl _) h2 (r H0) h3
theorem de_int {i j pos} : DE X (.Constant (.int i) j pos) (wC (.int i)) := de_c pe_int fun _ => .int i
theorem de_bl {b j pos} : DE X (.Constant (.bool b) j pos) (wC (.bl b)) := de_c pe_bl fun _ => .bl b
theorem de_non {j pos} : DE X (.Constant .none j pos) (wC .non) := de_c pe_non fun _ => .non
theorem de_str {x j pos} : DE X (.Constant (.str x) j pos) (wC (.str x)) := de_c pe_str fun _ => .str x
/-- a module's int -/
theorem de_gint {x : Str} {i : Int} {t : Tok} {pos : Pos} (hm : X.mg x = some (.int i t)) (hg : Gl X x := by rfl) (hd : (x == ("__debug__" : Str)) = false := by decide) : DE X (.Name x pos) (wC (.int i)) :=
  de_c (v := .int i) (pe_glob hg hm ⟨t, rfl⟩ hd) fun _ => .int i
theorem de_ty {x : Str} {n : String} {pos : Pos} (hm : X.mg x = none) (hv : bootBuiltins x = some (.type n)) (hg : Gl X x := by rfl) (hn : x ≠ "__name__" := by decide) (hd : (x == ("__debug__" : Str)) = false := by decide) : DE X (.Name x pos) (wC (.ty n)) :=
  de_c (v := .ty n) (pe_bltn hg hm hv rfl hn hd) fun _ => .ty n

/-! ### two operands -/
def OpD (K : PySem.W.Frag) (r : R2) (rd : D → D → Mem → KD → Prop) : Prop :=
  ∀ Fr H0 M H x y vx vy k Q, Wd K Fr H0 M H → Dat K H0 vx x → Dat K H0 vy y → rd x y M k → Cont K Fr H0 k Q → r vx vy H Q
def wOp (rd : D → D → Mem → KD → Prop) (wa wb : WE) : WE := fun Γ M k => wa Γ M fun x M1 => wb Γ M1 fun y M2 => rd x y M2 k
theorem lift_op {K : PySem.W.Frag} {r : R2} {rd : D → D → Mem → KD → Prop} {wa wb : WE} (h : OpD K r rd) {σ H Q Γ Fr H0 M k} (h1 : Slots K H0 σ Γ) (h2 : Wd K Fr H0 M H) (h3 : wOp rd wa wb Γ M k) (h4 : Cont K Fr H0 k Q) :
    tOp r (liftE K wa) (liftE K wb) σ H Q := by
  refine ⟨Γ, Fr, H0, M, _, h1, h2, h3, fun v H1 H' d M' e1 w1 r1 q1 => ?_⟩
  refine ⟨Γ, Fr, H1, M', _, h1.mono e1, w1, q1, fun u H2 H'' d' M'' e2 w2 r2 q2 => ?_⟩
  exact h Fr H2 M'' H'' d d' v u k Q w2 (r1.mono e2) r2 q2 (h4.mono (e1.trans e2))
theorem de_op {op : Operator} {r : R2} {rd : D → D → Mem → KD → Prop} {wa wb : WE} {pos : Pos} (ho : OpR X (binaryOp op) r) (hd : OpD X.K r rd) (ha : DE X a wa) (hb : DE X b wb) : DE X (.BinOp a op b pos) (wOp rd wa wb) :=
  de_of (pe_op ho ha.run hb.run) fun _ _ _ _ _ _ _ _ h1 h2 h3 h4 => lift_op hd h1 h2 h3 h4
theorem de_cmp {op : CmpOp} {r : R2} {rd : D → D → Mem → KD → Prop} {wa wb : WE} {pos : Pos} (ho : OpR X (compareOp op) r) (hd : OpD X.K r rd) (ha : DE X a wa) (hb : DE X b wb) (hm : behindInMarks op b = false) : DE X (.Compare a [op] [b] pos) (wOp rd wa wb) :=
  de_of (pe_cmpR ho ha.run hb.run hm) fun _ _ _ _ _ _ _ _ h1 h2 h3 h4 => lift_op hd h1 h2 h3 h4
/-- a value as a test: it is a truth -/
def wTst (w : WE) : WT := fun Γ M k => w Γ M fun d M1 => match d with | .bl b => k b M1 | _ => False
theorem contTst {K : PySem.W.Frag} {Fr H0 : Hp} {k : Bool → Mem → Prop} {Q : Bool → Hp → Prop} (h4 : ContT K Fr H0 k Q) : Cont K Fr H0 (fun d M1 => match d with | .bl b => k b M1 | _ => False) (fun x H' => ∃ b, x = .bl b ∧ Q b H') := by
  intro v H0' H' d M' e w r q
  cases d with
  | bl b => cases r; exact ⟨b, rfl, h4 b H0' H' M' e w q⟩
  | _ => exact q.elim
theorem dt_val {w : WE} (h : DE X e w) (he : ∀ whole, isTrue e X.env whole = (do let v ← whole; standAt e.pos; holding [v] (truthy v)) := by intro _; rfl) : DT X e (wTst w) :=
  dt_of (pt_val h.run he) fun σ H Q Γ Fr H0 M k h1 h2 h3 h4 => ⟨Γ, Fr, H0, M, _, h1, h2, h3, contTst h4⟩
theorem dt_cmp {op : CmpOp} {r : R2} {rd : D → D → Mem → KD → Prop} {wa wb : WE} {pos : Pos} (ho : OpR X (compareOp op) r) (hd : OpD X.K r rd) (ha : DE X a wa) (hb : DE X b wb) (hm : behindInMarks op b = false) : DT X (.Compare a [op] [b] pos) (wTst (wOp rd wa wb)) :=
  dt_of (pt_cmpR ho ha.run hb.run hm) fun _ _ _ _ _ _ _ _ h1 h2 h3 h4 => lift_op hd h1 h2 h3 (contTst h4)
def wChain (rd rd' : D → D → Mem → KD → Prop) (wa wb wc : WE) : WE := fun Γ M k => wa Γ M fun x M1 => wb Γ M1 fun y M2 => rd x y M2 fun z M3 => match z with
  | .bl true => wc Γ M3 fun w M4 => rd' y w M4 k
  | .bl false => k (.bl false) M3
  | _ => False
theorem lift_chain {K : PySem.W.Frag} {r r' : R2} {rd rd' : D → D → Mem → KD → Prop} {wa wb wc : WE} (h : OpD K r rd) (h' : OpD K r' rd') {σ H Q Γ Fr H0 M k} (h1 : Slots K H0 σ Γ) (h2 : Wd K Fr H0 M H) (h3 : wChain rd rd' wa wb wc Γ M k) (h4 : Cont K Fr H0 k Q) :
    tChain r r' (liftE K wa) (liftE K wb) (liftE K wc) σ H Q := by
  refine ⟨Γ, Fr, H0, M, _, h1, h2, h3, fun v H1 H' d M' e1 w1 r1 q1 => ?_⟩
  refine ⟨Γ, Fr, H1, M', _, h1.mono e1, w1, q1, fun u H2 H'' d' M'' e2 w2 r2 q2 => ?_⟩
  refine h Fr H2 M'' H'' d d' v u _ _ w2 (r1.mono e2) r2 q2 fun z H3 H3' dz M3 e3 w3 rz qz => ?_
  cases dz with
  | bl b =>
    cases rz
    refine ⟨b, rfl, ?_⟩
    cases b with
    | true =>
      rw [if_pos rfl]
      refine ⟨Γ, Fr, H3, M3, _, h1.mono ((e1.trans e2).trans e3), w3, qz, fun x H4 H4' dx M4 e4 w4 rx qx => ?_⟩
      exact h' Fr H4 M4 H4' d' dx u x k Q w4 (r2.mono (e3.trans e4)) rx qx (h4.mono (((e1.trans e2).trans e3).trans e4))
    | false =>
      rw [if_neg Bool.false_ne_true]
      exact h4 _ H3 H3' _ M3 ((e1.trans e2).trans e3) w3 (.bl false) qz
  | _ => exact qz.elim
theorem de_chain {c : Expr} {op op' : CmpOp} {r r' : R2} {rd rd' : D → D → Mem → KD → Prop} {wa wb wc : WE} {pos : Pos} (ho : OpR X (compareOp op) r) (hd : OpD X.K r rd) (ho' : OpR X (compareOp op') r') (hd' : OpD X.K r' rd') (ha : DE X a wa) (hb : DE X b wb) (hc : DE X c wc)
    (hm : lastMarks [op, op'] [b, c] = false := by with_unfolding_all rfl) : DE X (.Compare a [op, op'] [b, c] pos) (wChain rd rd' wa wb wc) :=
  de_of (pe_chain ho ho' ha.run hb.run hc.run hm) fun _ _ _ _ _ _ _ _ h1 h2 h3 h4 => lift_chain hd hd' h1 h2 h3 h4
theorem dt_chain {c : Expr} {op op' : CmpOp} {r r' : R2} {rd rd' : D → D → Mem → KD → Prop} {wa wb wc : WE} {pos : Pos} (ho : OpR X (compareOp op) r) (hd : OpD X.K r rd) (ho' : OpR X (compareOp op') r') (hd' : OpD X.K r' rd') (ha : DE X a wa) (hb : DE X b wb) (hc : DE X c wc)
    (hm : lastMarks [op, op'] [b, c] = false := by with_unfolding_all rfl) : DT X (.Compare a [op, op'] [b, c] pos) (wTst (wChain rd rd' wa wb wc)) :=
  dt_of (pt_chain ho ho' ha.run hb.run hc.run hm) fun _ _ _ _ _ _ _ _ h1 h2 h3 h4 => lift_chain hd hd' h1 h2 h3 (contTst h4)
def wNotT (w : WT) : WT := fun Γ M k => w Γ M fun b M1 => k (!b) M1
def wAndT (wa wb : WT) : WT := fun Γ M k => wa Γ M fun b M1 => if b = true then wb Γ M1 k else k false M1
def wOrT (wa wb : WT) : WT := fun Γ M k => wa Γ M fun b M1 => if b = true then k true M1 else wb Γ M1 k
theorem dt_not {w : WT} {pos : Pos} (h : DT X a w) : DT X (.UnaryOp .Not a pos) (wNotT w) :=
  dt_of (pt_not h.run) fun σ H Q Γ Fr H0 M k h1 h2 h3 h4 => ⟨Γ, Fr, H0, M, _, h1, h2, h3, fun b H0' H' M' e w q => h4 _ H0' H' M' e w q⟩
theorem dw_pt {w : WT} (h : DW X e w) : DT X e w := ⟨h.run.pt⟩
theorem dw_and1 {w : WT} {pos : Pos} (h : DT X a w) : DW X (.BoolOp .And [a] pos) w := ⟨pw_and1 h.run⟩
theorem dw_or1 {w : WT} {pos : Pos} (h : DT X a w) : DW X (.BoolOp .Or [a] pos) w := ⟨pw_or1 h.run⟩
theorem dw_and {wa wb : WT} {rest : List Expr} {pos : Pos} (ha : DT X a wa) (hb : DW X (.BoolOp .And (b :: rest) pos) wb) : DW X (.BoolOp .And (a :: b :: rest) pos) (wAndT wa wb) :=
  dw_of (pw_and ha.run hb.run) fun σ H Q Γ Fr H0 M k h1 h2 h3 h4 => ⟨Γ, Fr, H0, M, _, h1, h2, h3, fun c H0' H' M' e w q => by
    cases c with
    | true => rw [if_pos rfl] at q ⊢; exact ⟨Γ, Fr, H0', M', k, h1.mono e, w, q, h4.mono e⟩
    | false => rw [if_neg Bool.false_ne_true] at q ⊢; exact h4 _ H0' H' M' e w q⟩
theorem dw_or {wa wb : WT} {rest : List Expr} {pos : Pos} (ha : DT X a wa) (hb : DW X (.BoolOp .Or (b :: rest) pos) wb) : DW X (.BoolOp .Or (a :: b :: rest) pos) (wOrT wa wb) :=
  dw_of (pw_or ha.run hb.run) fun σ H Q Γ Fr H0 M k h1 h2 h3 h4 => ⟨Γ, Fr, H0, M, _, h1, h2, h3, fun c H0' H' M' e w q => by
    cases c with
    | true => rw [if_pos rfl] at q ⊢; exact h4 _ H0' H' M' e w q
    | false => rw [if_neg Bool.false_ne_true] at q ⊢; exact ⟨Γ, Fr, H0', M', k, h1.mono e, w, q, h4.mono e⟩⟩
/-- and, or, not of truths as values -/
def wAndV (wa wb : WE) : WE := fun Γ M k => wa Γ M fun x M1 => match x with | .bl true => wb Γ M1 k | .bl false => k (.bl false) M1 | _ => False
def wOrV (wa wb : WE) : WE := fun Γ M k => wa Γ M fun x M1 => match x with | .bl true => k (.bl true) M1 | .bl false => wb Γ M1 k | _ => False
def wNotV (wa : WE) : WE := fun Γ M k => wa Γ M fun x M1 => match x with | .bl b => k (.bl (!b)) M1 | _ => False
theorem de_one {op} {w : WE} {pos : Pos} (h : DE X a w) : DE X (.BoolOp op [a] pos) w := ⟨pe_one h.run⟩
theorem de_and {wa wb : WE} {rest : List Expr} {pos : Pos} (ha : DE X a wa) (hb : DE X (.BoolOp .And (b :: rest) pos) wb) : DE X (.BoolOp .And (a :: b :: rest) pos) (wAndV wa wb) :=
  de_of (pe_and ha.run hb.run) fun σ H Q Γ Fr H0 M k h1 h2 h3 h4 => ⟨Γ, Fr, H0, M, _, h1, h2, h3, fun v H0' H' d M' e w r q => by
    cases d with
    | bl c =>
      cases r
      refine ⟨c, rfl, ?_⟩
      cases c with
      | true => rw [if_pos rfl]; exact ⟨Γ, Fr, H0', M', k, h1.mono e, w, q, h4.mono e⟩
      | false => rw [if_neg Bool.false_ne_true]; exact h4 _ H0' H' _ M' e w (.bl false) q
    | _ => exact q.elim⟩
theorem de_or {wa wb : WE} {rest : List Expr} {pos : Pos} (ha : DE X a wa) (hb : DE X (.BoolOp .Or (b :: rest) pos) wb) : DE X (.BoolOp .Or (a :: b :: rest) pos) (wOrV wa wb) :=
  de_of (pe_or ha.run hb.run) fun σ H Q Γ Fr H0 M k h1 h2 h3 h4 => ⟨Γ, Fr, H0, M, _, h1, h2, h3, fun v H0' H' d M' e w r q => by
    cases d with
    | bl c =>
      cases r
      refine ⟨c, rfl, ?_⟩
      cases c with
      | true => rw [if_pos rfl]; exact h4 _ H0' H' _ M' e w (.bl true) q
      | false => rw [if_neg Bool.false_ne_true]; exact ⟨Γ, Fr, H0', M', k, h1.mono e, w, q, h4.mono e⟩
    | _ => exact q.elim⟩
theorem de_not {w : WE} {pos : Pos} (h : DE X a w) : DE X (.UnaryOp .Not a pos) (wNotV w) :=
  de_of (pe_not h.run) fun σ H Q Γ Fr H0 M k h1 h2 h3 h4 => ⟨Γ, Fr, H0, M, _, h1, h2, h3, fun v H0' H' d M' e w r q => by
    cases d with
    | bl c => cases r; exact ⟨c, rfl, h4 _ H0' H' _ M' e w (.bl _) q⟩
    | _ => exact q.elim⟩
def wIf (wc : WT) (wa wb : WE) : WE := fun Γ M k => wc Γ M fun c M1 => if c = true then wa Γ M1 k else wb Γ M1 k
theorem de_if {c : Expr} {wc : WT} {wa wb : WE} {pos : Pos} (hc : DT X c wc) (ha : DE X a wa) (hb : DE X b wb) : DE X (.IfExp c a b pos) (wIf wc wa wb) :=
  de_of (pe_ifExp hc.run ha.run hb.run) fun σ H Q Γ Fr H0 M k h1 h2 h3 h4 => ⟨Γ, Fr, H0, M, _, h1, h2, h3, fun c H0' H' M' e w q => by
    cases c with
    | true => rw [if_pos rfl] at q ⊢; exact ⟨Γ, Fr, H0', M', k, h1.mono e, w, q, h4.mono e⟩
    | false => rw [if_neg Bool.false_ne_true] at q ⊢; exact ⟨Γ, Fr, H0', M', k, h1.mono e, w, q, h4.mono e⟩⟩

/-! ### arguments, displays, calls -/
def wNil : WA := fun _ M k => k [] M
def wCons (we : WE) (wr : WA) : WA := fun Γ M k => we Γ M fun d M1 => wr Γ M1 fun ds M2 => k (d :: ds) M2
theorem da_nil : DA X [] wNil := da_of pa_nil fun _ H Q Γ Fr H0 M k h1 h2 h3 h4 => h4 [] H0 H [] M (Same.refl _) h2 .nil h3
theorem da_cons {we : WE} {wr : WA} (he : DE X e we) (hr : DA X es wr) (hs : starEach (e :: es) X.env = (false, eval e X.env) :: starEach es X.env := by rfl) : DA X (e :: es) (wCons we wr) :=
  da_of (pa_cons he.run hr.run hs) fun σ H Q Γ Fr H0 M k h1 h2 h3 h4 => ⟨Γ, Fr, H0, M, _, h1, h2, h3, fun v H1 H' d M' e1 w1 r1 q1 =>
    ⟨Γ, Fr, H1, M', _, h1.mono e1, w1, q1, fun vs H2 H'' ds M'' e2 w2 r2 q2 => h4 _ H2 H'' _ M'' (e1.trans e2) w2 (.cons (r1.mono e2) r2) q2⟩⟩
def wTup (wa : WA) : WE := fun Γ M k => wa Γ M fun ds M1 => ds.length ≤ sizeLine ∧ k (.tup ds) M1
theorem de_tup {wa : WA} {x1} {pos : Pos} (h : DA X es wa) : DE X (.Tuple es x1 pos) (wTup wa) :=
  de_of (pe_tup h.run) fun σ H Q Γ Fr H0 M k h1 h2 h3 h4 => ⟨Γ, Fr, H0, M, _, h1, h2, h3, fun vs H1 H' ds M' e1 w1 r1 q1 =>
    ⟨by rw [r1.length]; exact q1.1, fun p hp => h4 _ _ _ _ M' (e1.trans (same_new (w1.fresh hp))) (w1.new hp) (.tup (.of upd_same) (r1.mono (same_new (w1.fresh hp)))) q1.2⟩⟩
/-- a list: persistent -/
def wLst (wa : WA) : WE := fun Γ M k => wa Γ M fun ds M1 => ds.length ≤ sizeLine ∧ k (.lst ds) M1
theorem de_lst {wa : WA} {pos : Pos} (h : DA X es wa) : DE X (.List es pos) (wLst wa) :=
  de_of (pe_lst h.run) fun σ H Q Γ Fr H0 M k h1 h2 h3 h4 => ⟨Γ, Fr, H0, M, _, h1, h2, h3, fun vs H1 H' ds M' e1 w1 r1 q1 =>
    ⟨by rw [r1.length]; exact q1.1, fun p hp => h4 _ _ _ _ M' (e1.trans (same_new (w1.fresh hp))) (w1.new hp) (.lst upd_same (r1.mono (same_new (w1.fresh hp)))) q1.2⟩⟩
/-- a list: a cell -/
def wLstM (wa : WA) : WE := fun Γ M k => wa Γ M fun ds M1 => ds.length ≤ sizeLine ∧ ∀ p, M1 p = none → k (.cel p) (setM M1 p (.lst ds))
theorem de_lstM {wa : WA} {pos : Pos} (h : DA X es wa) : DE X (.List es pos) (wLstM wa) :=
  de_of (pe_lst h.run) fun σ H Q Γ Fr H0 M k h1 h2 h3 h4 => ⟨Γ, Fr, H0, M, _, h1, h2, h3, fun vs H1 H' ds M' e1 w1 r1 q1 =>
    ⟨by rw [r1.length]; exact q1.1, fun p hp => h4 _ H1 _ _ _ e1 (w1.newM hp (.lst r1)) (.cel p) (q1.2 p (w1.freshM hp))⟩⟩

abbrev FD := List D → Mem → KD → Prop
def liftF (K : PySem.W.Frag) (F : FD) : Sp := fun vs H Q _ => ∃ Fr H0 M ds k, Wd K Fr H0 M H ∧ Dats K H0 vs ds ∧ F ds M k ∧ Cont K Fr H0 k Q
def wCall (F : FD) (wa : WA) : WE := fun Γ M k => wa Γ M fun ds M1 => F ds M1 k
abbrev DFn (P : Program) (w : World) (K : PySem.W.Frag) (mg : Str → Option Value) (base : Heap) (k : Nat) (f : Addr) (fd : FuncData) (ps : List Str) (F : FD) : Prop := DG.FnG P w K mg base CX0 k f fd ps (liftF K F)
theorem de_call {F : FD} {f : Addr} {fd : FuncData} {ps : List Str} {x : Str} {k : Nat} {p pos : Pos} {wa : WA} (G : DFn X.prog X.w X.K X.mg X.base k f fd ps F) (hr : DG.RoomG k X.A) (hm : X.mg x = some (.ref f)) (hk : PySem.W.keepIn X.K (.ref f) = true) (hb : Binds X.K fd ps [])
    (ha : DA X (e :: es) wa) (hg : Gl X x := by rfl) (hdb : (x == ("__debug__" : Str)) = false := by decide) (he : starEach (e :: es) X.env = (false, eval e X.env) :: starEach es X.env := by rfl) (hpl : (backTo pos (starEach es X.env)).any (·.1) = false := by rfl) : DE X (.Call (.Name x p) (e :: es) [] pos) (wCall F wa) :=
  de_of (DG.pe_callG G hr hg hm hk hb pass0 ha.run hdb he hpl) fun σ H Q Γ Fr H0 M k h1 h2 h3 h4 => ⟨Γ, Fr, H0, M, _, h1, h2, h3, fun vs H1 H' ds M' e1 w1 r1 q1 =>
    ⟨Fr, H1, M', ds, k, w1, by rw [List.append_nil]; exact r1, q1, h4.mono e1⟩⟩
/-- a built-in, by values -/
def CallD (K : PySem.W.Frag) (r : List V → Hp → VK → Prop) (rd : FD) : Prop := ∀ Fr H0 M H vs ds k Q, Wd K Fr H0 M H → Dats K H0 vs ds → rd ds M k → Cont K Fr H0 k Q → r vs H Q
theorem de_callB {r : List V → Hp → VK → Prop} {rd : FD} {id : String} {x : Str} {p pos : Pos} {wa : WA} (hc : CallR X (.builtin id) r) (hd : CallD X.K r rd) (hm : X.mg x = none) (hv : bootBuiltins x = some (.builtin id)) (ha : DA X (e :: es) wa) (hg : Gl X x := by rfl) (hn : x ≠ "__name__" := by decide) (hdb : (x == ("__debug__" : Str)) = false := by decide)
    (he : starEach (e :: es) X.env = (false, eval e X.env) :: starEach es X.env := by rfl) (hpl : (backTo pos (starEach es X.env)).any (·.1) = false := by rfl) : DE X (.Call (.Name x p) (e :: es) [] pos) (wCall rd wa) :=
  de_of (pe_callB hc hg hm hv ha.run hn hdb he hpl) fun σ H Q Γ Fr H0 M k h1 h2 h3 h4 => ⟨Γ, Fr, H0, M, _, h1, h2, h3, fun vs H1 H' ds M' e1 w1 r1 q1 => hd Fr H1 M' H' vs ds k Q w1 r1 q1 (h4.mono e1)⟩
theorem de_callTy {r : List V → Hp → VK → Prop} {rd : FD} {T : String} {x : Str} {p pos : Pos} {wa : WA} (hc : CallR X (.type T) r) (hd : CallD X.K r rd) (hm : X.mg x = none) (hv : bootBuiltins x = some (.type T)) (ha : DA X (e :: es) wa) (hg : Gl X x := by rfl) (hn : x ≠ "__name__" := by decide) (hdb : (x == ("__debug__" : Str)) = false := by decide)
    (he : starEach (e :: es) X.env = (false, eval e X.env) :: starEach es X.env := by rfl) (hpl : (backTo pos (starEach es X.env)).any (·.1) = false := by rfl) : DE X (.Call (.Name x p) (e :: es) [] pos) (wCall rd wa) :=
  de_of (pe_callTy hc hg hm hv ha.run hn hdb he hpl) fun σ H Q Γ Fr H0 M k h1 h2 h3 h4 => ⟨Γ, Fr, H0, M, _, h1, h2, h3, fun vs H1 H' ds M' e1 w1 r1 q1 => hd Fr H1 M' H' vs ds k Q w1 r1 q1 (h4.mono e1)⟩
end
end DL

set_option autoImplicit false
set_option maxRecDepth 100000
set_option maxHeartbeats 2000000
namespace DL
open PySem L2
section
variable {X : Cx} {e a b : Expr} {es : List Expr} {st : Stmt} {sts : List Stmt}

theorem dats1 {K : PySem.W.Frag} {H : Hp} {vs : List V} {d : D} (h : Dats K H vs [d]) : ∃ v, vs = [v] ∧ Dat K H v d := by
  cases h with | cons a t => cases t; exact ⟨_, rfl, a⟩
theorem dats2 {K : PySem.W.Frag} {H : Hp} {vs : List V} {d e : D} (h : Dats K H vs [d, e]) : ∃ v u, vs = [v, u] ∧ Dat K H v d ∧ Dat K H u e := by
  cases h with | cons a t => obtain ⟨u, rfl, b⟩ := dats1 t; exact ⟨_, _, rfl, a, b⟩
theorem dats3 {K : PySem.W.Frag} {H : Hp} {vs : List V} {d e f : D} (h : Dats K H vs [d, e, f]) : ∃ v u t, vs = [v, u, t] ∧ Dat K H v d ∧ Dat K H u e ∧ Dat K H t f := by
  cases h with | cons a t => obtain ⟨u, t, rfl, b, c⟩ := dats2 t; exact ⟨_, _, _, rfl, a, b, c⟩
theorem dats0 {K : PySem.W.Frag} {H : Hp} {vs : List V} (h : Dats K H vs []) : vs = [] := by cases h; rfl

/-! ### statements -/
def wNext : WS := fun k Γ M => k.nx Γ M
def wSeq (u v : WS) : WS := fun k Γ M => u ⟨v k, k.rt, k.bk, k.ct⟩ Γ M
theorem dss_nil : DSs X [] wNext := dss_of pss_nil fun _ σ H Γ Fr H0 M k h1 h2 h3 h4 => h4.nx σ H0 H Γ M (Same.refl _) h1 h2 h3
theorem emb_seq {K : PySem.W.Frag} {Fr H0 : Hp} {k : KS} {D : Ends} {v : WS} (h4 : Emb K Fr H0 k D) : Emb K Fr H0 ⟨v k, k.rt, k.bk, k.ct⟩ { D with nx := liftS K v D } :=
  ⟨fun σ' H0' H' Γ' M' e s w q => ⟨Γ', Fr, H0', M', k, s, w, q, h4.mono e⟩, h4.rt, h4.bk, h4.ct⟩
theorem dss_cons {u v : WS} (h1 : DS X st u) (h2 : DSs X sts v) : DSs X (st :: sts) (wSeq u v) :=
  dss_of (pss_cons h1.run h2.run) fun D σ H Γ Fr H0 M k h1 h2 h3 h4 => ⟨Γ, Fr, H0, M, _, h1, h2, h3, emb_seq h4⟩
theorem dss_one {u : WS} (h1 : DS X st u) : DSs X [st] u := ⟨pss_one h1.run⟩
theorem ds_pass {pos : Pos} : DS X (.Pass pos) wNext := ds_of ps_pass fun _ σ H Γ Fr H0 M k h1 h2 h3 h4 => h4.nx σ H0 H Γ M (Same.refl _) h1 h2 h3
def wBreak : WS := fun k Γ M => k.bk Γ M
def wContinue : WS := fun k Γ M => k.ct Γ M
theorem ds_break {pos : Pos} : DS X (.Break pos) wBreak := ds_of ps_break fun _ σ H Γ Fr H0 M k h1 h2 h3 h4 => h4.bk σ H0 H Γ M (Same.refl _) h1 h2 h3
theorem ds_continue {pos : Pos} : DS X (.Continue pos) wContinue := ds_of ps_continue fun _ σ H Γ Fr H0 M k h1 h2 h3 h4 => h4.ct σ H0 H Γ M (Same.refl _) h1 h2 h3
def wExpr (w : WE) : WS := fun k Γ M => w Γ M fun _ M1 => k.nx Γ M1
theorem ds_expr {w : WE} {pos : Pos} (he : DE X e w) (hs : swapsWith e none pos.line X.env = pure false := by rfl) : DS X (.Expr e pos) (wExpr w) :=
  ds_of (ps_expr he.run hs) fun D σ H Γ Fr H0 M k h1 h2 h3 h4 => ⟨Γ, Fr, H0, M, _, h1, h2, h3, fun v H1 H' d M' e1 w1 r1 q1 => h4.nx σ H1 H' Γ M' e1 (h1.mono e1) w1 q1⟩
def wRet (w : WE) : WS := fun k Γ M => w Γ M k.rt
theorem ds_ret {w : WE} {pos : Pos} (he : DE X e w) : DS X (.Return (some e) pos) (wRet w) :=
  ds_of (ps_ret he.run) fun D σ H Γ Fr H0 M k h1 h2 h3 h4 => ⟨Γ, Fr, H0, M, _, h1, h2, h3, h4.rt⟩
def wRetN : WS := fun k _ M => k.rt .non M
theorem ds_retN {pos : Pos} : DS X (.Return none pos) wRetN := ds_of ps_retN fun _ σ H Γ Fr H0 M k h1 h2 h3 h4 => h4.rt _ H0 H _ M (Same.refl _) h2 .non h3
def wIfS (wc : WT) (u v : WS) : WS := fun k Γ M => wc Γ M fun c M1 => if c = true then u k Γ M1 else v k Γ M1
theorem ds_if {c : Expr} {p q : List Stmt} {wc : WT} {u v : WS} {pos : Pos} (hc : DT X c wc) (ha : DSs X p u) (hb : DSs X q v) : DS X (.If c p q pos) (wIfS wc u v) :=
  ds_of (ps_if hc.run ha.run hb.run) fun D σ H Γ Fr H0 M k h1 h2 h3 h4 => ⟨Γ, Fr, H0, M, _, h1, h2, h3, fun c H0' H' M' e w q => by
    cases c with
    | true => rw [if_pos rfl] at q ⊢; exact ⟨Γ, Fr, H0', M', k, h1.mono e, w, q, h4.mono e⟩
    | false => rw [if_neg Bool.false_ne_true] at q ⊢; exact ⟨Γ, Fr, H0', M', k, h1.mono e, w, q, h4.mono e⟩⟩

/-! ### targets -/
/-- what a target does to the slots: within own -/
def GD (K : PySem.W.Frag) (g : TG) (own : List Nat) (gd : D → Env → Option Env) : Prop :=
  ∀ Fr H0 M H σ Γ Γ' v d Q, Slots K H0 σ Γ → Wd K Fr H0 M H → Dat K H0 v d → gd d Γ = some Γ' → (∀ σ', Slots K H0 σ' Γ' → (∀ i, i ∉ own → σ'[i]? = σ[i]?) → σ'.length = σ.length → Q σ' H) → g v σ H Q
def GDs (K : PySem.W.Frag) (g : TGs) (own : List Nat) (gd : List D → Env → Option Env) : Prop :=
  ∀ Fr H0 M H σ Γ Γ' vs ds Q, Slots K H0 σ Γ → Wd K Fr H0 M H → Dats K H0 vs ds → gd ds Γ = some Γ' → (∀ σ', Slots K H0 σ' Γ' → (∀ i, i ∉ own → σ'[i]? = σ[i]?) → σ'.length = σ.length → Q σ' H) → g vs σ H Q
structure DG (X : Cx) (tg : Expr) (g : TG) (own : List Nat) (gd : D → Env → Option Env) : Prop where
  pg : PG X tg g
  gd : GD X.K g own gd
structure DGs (X : Cx) (tg : List Expr) (g : TGs) (own : List Nat) (gd : List D → Env → Option Env) : Prop where
  pg : PGs X tg g
  gd : GDs X.K g own gd
def gN (i : Nat) : D → Env → Option Env := fun d Γ => some (Γ.set i (some d))
theorem gd_name {K : PySem.W.Frag} {i : Nat} : GD K (gName i) [i] (gN i) := fun Fr H0 M H σ Γ Γ' v d Q h1 h2 h3 h4 h5 => by
    cases h4
    refine h5 _ (h1.set i h3) (fun j hj => ?_) (by simp)
    exact List.getElem?_set_ne (fun e => hj (by simp [e]))
theorem dg_name {i : Nat} {x : Str} {pos : Pos} (hN : X.N.Nodup) (hi : X.N[i]? = some x := by rfl) (hx : Loc X.env.scope x := by first | exact Or.inl rfl | exact Or.inr rfl) (hf : X.fn x = true ∨ X.env.scope.names.lookup x = some .local := by first | exact .inl rfl | exact .inr rfl | assumption) : DG X (.Name x pos) (gName i) [i] (gN i) :=
  ⟨pg_name hN hi hx hf, gd_name⟩
def gsNil : List D → Env → Option Env := fun ds Γ => match ds with | [] => some Γ | _ => none
def gsCons (g : D → Env → Option Env) (gs : List D → Env → Option Env) : List D → Env → Option Env := fun ds Γ => match ds with | d :: ds => (match g d Γ with | some Γ' => gs ds Γ' | none => none) | [] => none
theorem gds_nil {K : PySem.W.Frag} : GDs K gNil [] gsNil := fun Fr H0 M H σ Γ Γ' vs ds Q h1 h2 h3 h4 h5 => by
  cases h3 with
  | nil => cases h4; exact ⟨rfl, h5 σ h1 (fun _ _ => rfl) rfl⟩
  | cons _ _ => cases h4
theorem gds_cons {K : PySem.W.Frag} {g : TG} {gs : TGs} {o1 o2 : List Nat} {gd : D → Env → Option Env} {gds : List D → Env → Option Env} (h1 : GD K g o1 gd) (h2 : GDs K gs o2 gds) : GDs K (gCons g gs) (o1 ++ o2) (gsCons gd gds) := fun Fr H0 M H σ Γ Γ' vs ds Q s w r e q => by
    cases r with
    | nil => cases e
    | cons r rs =>
      rename_i v vs d ds
      unfold gsCons at e
      simp only at e
      split at e
      · rename_i Γ1 e1
        refine ⟨v, vs, rfl, h1 Fr H0 M H σ Γ Γ1 v d _ s w r e1 fun σ1 s1 k1 l1 => ?_⟩
        refine h2 Fr H0 M H σ1 Γ1 Γ' vs ds _ s1 w rs e fun σ2 s2 k2 l2 => ?_
        refine q σ2 s2 (fun i hi => ?_) (l2.trans l1)
        rw [k2 i (fun z => hi (List.mem_append_right _ z)), k1 i (fun z => hi (List.mem_append_left _ z))]
      · cases e
theorem dgs_nil : DGs X [] gNil [] gsNil := ⟨pgs_nil, gds_nil⟩
theorem dgs_cons {t : Expr} {ts : List Expr} {g : TG} {gs : TGs} {o1 o2 : List Nat} {gd : D → Env → Option Env} {gds : List D → Env → Option Env} (h1 : DG X t g o1 gd) (h2 : DGs X ts gs o2 gds) (hs : (assignEach (t :: ts) X.env).map (·.2) = assign t X.env :: (assignEach ts X.env).map (·.2) := by rfl) : DGs X (t :: ts) (gCons g gs) (o1 ++ o2) (gsCons gd gds) :=
  ⟨pgs_cons h1.pg h2.pg hs, gds_cons h1.gd h2.gd⟩
def gT (gs : List D → Env → Option Env) : D → Env → Option Env := fun d Γ => match d with | .tup ds => gs ds Γ | _ => none
theorem gd_tup {K : PySem.W.Frag} {n : Nat} {gs : TGs} {own : List Nat} {gds : List D → Env → Option Env} (h : GDs K gs own gds) (hn : ∀ ds Γ Γ', gds ds Γ = some Γ' → ds.length = n) : GD K (gTup K n gs) own (gT gds) := fun Fr H0 M H σ Γ Γ' v d Q s w r e q => by
    cases r with
    | tup hs hd =>
      rename_i a vs ds
      exact ⟨a, vs, rfl, same_t w.ex hs, by rw [hd.length]; exact hn ds Γ Γ' e, h Fr H0 M H σ Γ Γ' vs ds Q s w hd e q⟩
    | _ => cases e
theorem dg_tup {ts : List Expr} {k n : Nat} {gs : TGs} {own : List Nat} {gds : List D → Env → Option Env} {pos : Pos} (hc : X.calm = true) (h : DGs X ts gs own gds) (hn : ∀ ds Γ Γ', gds ds Γ = some Γ' → ds.length = n) (hl : (assignEach ts X.env).length = n := by rfl) (hst : (assignEach ts X.env).findIdx? (·.1) = none := by rfl) :
    DG X (.Tuple ts k pos) (gTup X.K n gs) own (gT gds) := ⟨pg_tup hc h.pg hl hst, gd_tup h.gd hn⟩
theorem gsNil_len : ∀ ds Γ Γ', gsNil ds Γ = some Γ' → ds.length = 0 := fun ds Γ Γ' h => by
  cases ds with
  | nil => rfl
  | cons _ _ => cases h
theorem gsCons_len {g : D → Env → Option Env} {gs : List D → Env → Option Env} {n : Nat} (hn : ∀ ds Γ Γ', gs ds Γ = some Γ' → ds.length = n) : ∀ ds Γ Γ', gsCons g gs ds Γ = some Γ' → ds.length = n + 1 := fun ds Γ Γ' h => by
  cases ds with
  | nil => cases h
  | cons d ds =>
    unfold gsCons at h
    simp only at h
    split at h
    · rw [List.length_cons, hn _ _ _ h]
    · cases h

/-! ### assignments -/
def wSet (i : Nat) (w : WE) : WS := fun k Γ M => w Γ M fun d M1 => k.nx (Γ.set i (some d)) M1
theorem ds_set {i : Nat} {x : Str} {w : WE} {p pos : Pos} (hN : X.N.Nodup) (he : DE X e w) (hi : X.N[i]? = some x := by rfl) (hx : Loc X.env.scope x := by first | exact Or.inl rfl | exact Or.inr rfl) (hs : swapsWith e (some (.Name x p)) pos.line X.env = pure false := by rfl)
    (hf : X.fn x = true ∨ X.env.scope.names.lookup x = some .local := by first | exact .inl rfl | exact .inr rfl | assumption) : DS X (.Assign [.Name x p] e pos) (wSet i w) :=
  ds_of (ps_set hN hi hx he.run hs hf) fun D σ H Γ Fr H0 M k h1 h2 h3 h4 => ⟨Γ, Fr, H0, M, _, h1, h2, h3, fun v H1 H' d M' e1 w1 r1 q1 => h4.nx _ H1 H' _ M' e1 ((h1.mono e1).set i r1) w1 q1⟩
/-- a target of any form that stores into names -/
def wAsg (gd : D → Env → Option Env) (w : WE) : WS := fun k Γ M => w Γ M fun d M1 => match gd d Γ with | some Γ' => k.nx Γ' M1 | none => False
theorem ds_asg {tg : Expr} {g : TG} {own : List Nat} {gd : D → Env → Option Env} {w : WE} {pos : Pos} (hg : DG X tg g own gd) (he : DE X e w) (hs : swapsWithSole [tg] e pos.line X.env = pure false := by rfl) (hw : swappedStores [tg] e X.env = pure none := by rfl) (h1 : (assignEach [tg] X.env).map (·.2) = [assign tg X.env] := by rfl) : DS X (.Assign [tg] e pos) (wAsg gd w) :=
  ds_of (ps_asg he.run hg.pg hs hw h1) fun D σ H Γ Fr H0 M k h1 h2 h3 h4 => ⟨Γ, Fr, H0, M, _, h1, h2, h3, fun v H1 H' d M' e1 w1 r1 q1 => by
    split at q1
    · rename_i Γ' e2
      exact hg.gd Fr H1 M' H' σ Γ Γ' v d _ (h1.mono e1) w1 r1 e2 fun σ' s' _ _ => h4.nx σ' H1 H' Γ' M' e1 s' w1 q1
    · exact q1.elim⟩
def wPar (i j : Nat) (wa : WA) : WS := fun k Γ M => wa Γ M fun ds M1 => match ds with | [x, y] => k.nx ((Γ.set i (some x)).set j (some y)) M1 | _ => False
def wPar3 (i j l : Nat) (wa : WA) : WS := fun k Γ M => wa Γ M fun ds M1 => match ds with | [x, y, z] => k.nx (((Γ.set i (some x)).set j (some y)).set l (some z)) M1 | _ => False
theorem ds_par {i j : Nat} {x y : Str} {wa : WA} {px py pt pos : Pos} {kt k2 pt2} (hc : X.calm = true) (hN : X.N.Nodup) (ha : DA X [a, b] wa) (hi : X.N[i]? = some x) (hj : X.N[j]? = some y) (hij : i ≠ j)
    (hx : X.env.scope.names.lookup x = some .local) (hy : X.env.scope.names.lookup y = some .local)
    (hw : swappedStores [.Tuple [.Name x px, .Name y py] kt pt] (.Tuple [a, b] k2 pt2) X.env = pure (some [x, y]))
    (hs : swapsWithSole [.Tuple [.Name x px, .Name y py] kt pt] (.Tuple [a, b] k2 pt2) pos.line X.env = pure false := by rfl) :
    DS X (.Assign [.Tuple [.Name x px, .Name y py] kt pt] (.Tuple [a, b] k2 pt2) pos) (wPar i j wa) :=
  ds_of (ps_par hc hN hi hj hij hx hy ha.run hw hs) fun D σ H Γ Fr H0 M k h1 h2 h3 h4 => ⟨Γ, Fr, H0, M, _, h1, h2, h3, fun vs H1 H' ds M' e1 w1 r1 q1 => by
    split at q1
    · obtain ⟨v, u, rfl, ra, rb⟩ := dats2 r1
      exact ⟨v, u, rfl, h4.nx _ H1 H' _ M' e1 (((h1.mono e1).set i ra).set j rb) w1 q1⟩
    · exact q1.elim⟩
theorem ds_par3 {i j l : Nat} {x y z : Str} {c : Expr} {wa : WA} {px py pz pt pos : Pos} {kt k2 pt2} (hc : X.calm = true) (hN : X.N.Nodup) (ha : DA X [a, b, c] wa) (hi : X.N[i]? = some x) (hj : X.N[j]? = some y) (hl : X.N[l]? = some z) (hij : i ≠ j) (hil : i ≠ l) (hjl : j ≠ l)
    (hx : X.env.scope.names.lookup x = some .local) (hy : X.env.scope.names.lookup y = some .local) (hz : X.env.scope.names.lookup z = some .local)
    (hw : swappedStores [.Tuple [.Name x px, .Name y py, .Name z pz] kt pt] (.Tuple [a, b, c] k2 pt2) X.env = pure (some [x, y, z]))
    (hs : swapsWithSole [.Tuple [.Name x px, .Name y py, .Name z pz] kt pt] (.Tuple [a, b, c] k2 pt2) pos.line X.env = pure false := by rfl) :
    DS X (.Assign [.Tuple [.Name x px, .Name y py, .Name z pz] kt pt] (.Tuple [a, b, c] k2 pt2) pos) (wPar3 i j l wa) :=
  ds_of (ps_par3 hc hN hi hj hl hij hil hjl hx hy hz ha.run hw hs) fun D σ H Γ Fr H0 M k h1 h2 h3 h4 => ⟨Γ, Fr, H0, M, _, h1, h2, h3, fun vs H1 H' ds M' e1 w1 r1 q1 => by
    split at q1
    · obtain ⟨v, u, t, rfl, ra, rb, rc⟩ := dats3 r1
      exact ⟨v, u, t, rfl, h4.nx _ H1 H' _ M' e1 ((((h1.mono e1).set i ra).set j rb).set l rc) w1 q1⟩
    · exact q1.elim⟩

/-! ### lists as they stand -/
/-- a list that is tracked -/
def asL (M : Mem) : D → Option (List D)
  | .lst ds => some ds
  | .cel a => match M a with | some (.lst ds) => some ds | _ => none
  | _ => none
/-- a list that may be read -/
def asR (M : Mem) : D → Option (List D)
  | .lst ds => some ds
  | .scr ds => some ds
  | .cel a => match M a with | some (.lst ds) => some ds | _ => none
  | _ => none
theorem asL_ok {K : PySem.W.Frag} {Fr H0 H : Hp} {M : Mem} {v : V} {d : D} {ds : List D} (w : Wd K Fr H0 M H) (r : Dat K H0 v d) (h : asL M d = some ds) : ∃ a vs, v = .ref a ∧ H a = some (.lst vs) ∧ Dats K H0 vs ds := by
  cases r with
  | lst hs hd => cases h; exact ⟨_, _, rfl, w.ex _ _ hs, hd⟩
  | cel a =>
    unfold asL at h
    simp only at h
    split at h
    · rename_i ds' e
      cases h
      obtain ⟨_, o, e2, c⟩ := w.mem a _ e
      cases c with
      | lst hd => exact ⟨a, _, rfl, e2, hd⟩
    · cases h
  | _ => cases h
theorem asR_ok {K : PySem.W.Frag} {Fr H0 H : Hp} {M : Mem} {v : V} {d : D} {ds : List D} (w : Wd K Fr H0 M H) (r : Dat K H0 v d) (h : asR M d = some ds) : ∃ a vs, v = .ref a ∧ SqL K H a vs ∧ Dats K H0 vs ds := by
  cases r with
  | lst hs hd => cases h; exact ⟨_, _, rfl, .of (w.ex _ _ hs), hd⟩
  | scr hs hd => cases h; exact ⟨_, _, rfl, same_l w.ex hs, hd⟩
  | cel a =>
    obtain ⟨a', vs, e1, e2, e3⟩ := asL_ok w (.cel a) (show asL M (.cel a) = some ds from h)
    exact ⟨a', vs, e1, .of e2, e3⟩
  | _ => cases h

/-! ### what is walked -/
abbrev WI := Env → Mem → (List D → (Mem → Prop) → Mem → Prop) → Prop
def WalkD (K : PySem.W.Frag) (Fr : Hp) (J : It) (H0 : Hp) (its : List D) (G : Mem → Prop) : Prop :=
  ∀ H0' M H, Same H0 H0' → Wd K Fr H0' M H → G M → (∀ i, i < its.length → J.go i H) ∧ J.stop its.length H ∧
    ∀ i x H' d, its[i]? = some d → J.yld i H x H' → ∃ H0'', Same H0' H0'' ∧ Wd K Fr H0'' M H' ∧ Dat K H0'' x d
theorem WalkD.mono {K : PySem.W.Frag} {Fr Fr' : Hp} {J : It} {H0 H1 : Hp} {its : List D} {G : Mem → Prop} (h : WalkD K Fr J H0 its G) (e : Same H0 H1) : WalkD K Fr J H1 its G := fun H0' M H s => h H0' M H (e.trans s)
/-- over lists: any frame -/
def Walks (K : PySem.W.Frag) (J : It) (H0 : Hp) (its : List D) (G : Mem → Prop) : Prop := ∀ Fr, WalkD K Fr J H0 its G
structure DI (X : Cx) (tg iter : Expr) (wi : WI) : Prop where
  run : ∃ ti : TI, PI X tg iter ti ∧ ∀ σ H Γ Fr H0 M k R, Slots X.K H0 σ Γ → Wd X.K Fr H0 M H → wi Γ M k →
    (∀ J its G H1 H0' M', Same H0 H0' → Wd X.K Fr H0' M' H1 → k its G M' → Walks X.K J H0' its G → R J H1) → ti σ H R
def gAny : Mem → Prop := fun _ => True
def gAt (d : D) (ds : List D) : Mem → Prop := fun M => asR M d = some ds
/-- a list -/
def wiL (w : WE) : WI := fun Γ M k => w Γ M fun d M1 => match asR M1 d with | some ds => k ds (gAt d ds) M1 | none => False
theorem walks_list {K : PySem.W.Frag} {H0 : Hp} {a : Addr} {d : D} {ds : List D} (r : Dat K H0 (.ref a) d) : Walks K (Itl K a) H0 ds (gAt d ds) := fun Fr H0' M H e w g => by
  obtain ⟨a', vs, ea, hs, hd⟩ := asR_ok w (r.mono e) g
  cases ea
  refine ⟨fun i hi => ?_, ⟨vs, hs, by rw [hd.length]; exact Nat.le_refl _⟩, fun i x H' d' hd' y => ?_⟩
  · have hl : i < vs.length := by rw [hd.length]; exact hi
    exact ⟨vs, vs[i], hs, by simp [hl]⟩
  · obtain ⟨e1, y⟩ := y
    subst e1
    obtain ⟨v, e2, r2⟩ := hd.get hd'
    have e3 := y vs hs
    rw [e2] at e3; cases e3
    exact ⟨H0', Same.refl _, w, r2⟩
theorem di_list {tg l : Expr} {w : WE} (h : DE X l w) : DI X tg l (wiL w) := ⟨_, pi_list h.run, fun σ H Γ Fr H0 M k R h1 h2 h3 h4 => ⟨Γ, Fr, H0, M, _, h1, h2, h3, fun v H1 H' d M' e1 w1 r1 q1 => by
  split at q1
  · rename_i ds e2
    obtain ⟨a, vs, rfl, hs, hd⟩ := asR_ok w1 r1 e2
    exact ⟨a, rfl, ⟨vs, hs⟩, h4 _ ds _ H' H1 M' e1 w1 q1 (walks_list r1)⟩
  · exact q1.elim⟩⟩
/-- a tuple -/
def wiT (w : WE) : WI := fun Γ M k => w Γ M fun d M1 => match d with | .tup ds => k ds gAny M1 | _ => False
theorem walks_tup {K : PySem.W.Frag} {H0 : Hp} {a : Addr} {vs : List V} {ds : List D} (hs : SqT K H0 a vs) (hd : Dats K H0 vs ds) : Walks K (Itt K a) H0 ds gAny := fun Fr H0' M H e w g => by
  have hs' := same_t (e.trans w.ex) hs
  refine ⟨fun i hi => ?_, ⟨vs, hs', by rw [hd.length]; exact Nat.le_refl _⟩, fun i x H' d' hd' y => ?_⟩
  · have hl : i < vs.length := by rw [hd.length]; exact hi
    exact ⟨vs, vs[i], hs', by simp [hl]⟩
  · obtain ⟨e1, y⟩ := y
    subst e1
    obtain ⟨v, e2, r2⟩ := hd.get hd'
    have e3 := y vs hs'
    rw [e2] at e3; cases e3
    exact ⟨H0', Same.refl _, w, r2.mono e⟩
theorem di_tup {tg l : Expr} {w : WE} (h : DE X l w) : DI X tg l (wiT w) := ⟨_, pi_tup h.run, fun σ H Γ Fr H0 M k R h1 h2 h3 h4 => ⟨Γ, Fr, H0, M, _, h1, h2, h3, fun v H1 H' d M' e1 w1 r1 q1 => by
  cases r1 with
  | tup hs hd => exact ⟨_, rfl, ⟨_, same_t w1.ex hs⟩, h4 _ _ _ H' H1 M' e1 w1 q1 (walks_tup hs hd)⟩
  | _ => exact q1.elim⟩⟩
/-- a text -/
def signs (x : Str) : List D := x.cps.toList.map fun c => .str ⟨#[c]⟩
def wiS (w : WE) : WI := fun Γ M k => w Γ M fun d M1 => match d with | .str x => k (signs x) gAny M1 | _ => False
theorem walks_str {K : PySem.W.Frag} {H0 : Hp} {x : Str} : Walks K (Its x) H0 (signs x) gAny := fun Fr H0' M H e w g => by
  have hl : (signs x).length = x.cps.size := by unfold signs; simp
  refine ⟨fun i hi => ?_, ?_, fun i y H' d hd q => ?_⟩
  · show i < x.cps.size
    rw [← hl]; exact hi
  · show x.cps.size ≤ (signs x).length
    rw [hl]; exact Nat.le_refl _
  · obtain ⟨e1, c, e2, e3⟩ := q
    subst e1 e3
    unfold signs at hd
    rw [List.getElem?_map, Array.getElem?_toList, e2] at hd
    cases hd
    exact ⟨H0', Same.refl _, w, .str _⟩
theorem di_str {tg l : Expr} {w : WE} (h : DE X l w) : DI X tg l (wiS w) := ⟨_, pi_str h.run, fun σ H Γ Fr H0 M k R h1 h2 h3 h4 => ⟨Γ, Fr, H0, M, _, h1, h2, h3, fun v H1 H' d M' e1 w1 r1 q1 => by
  cases r1 with
  | str x => exact ⟨x, rfl, h4 _ _ _ H' H1 M' e1 w1 q1 walks_str⟩
  | _ => exact q1.elim⟩⟩
/-- range(n) -/
def rng (lo : Int) (n : Nat) : List D := (List.range n).map fun (i : Nat) => .int (lo + i)
def wiR (wa : WA) : WI := fun Γ M k => wa Γ M fun ds M1 => match ds with | [.int n] => (-(2 ^ 62) ≤ n ∧ n < 2 ^ 62) ∧ k (rng 0 n.toNat) gAny M1 | _ => False
theorem walks_rng {K : PySem.W.Frag} {H0 : Hp} {lo : Int} {n : Nat} : Walks K (Itr lo n) H0 (rng lo n) gAny := fun Fr H0' M H e w g => by
  have hl : (rng lo n).length = n := by unfold rng; simp
  refine ⟨fun i hi => ?_, ?_, fun i y H' d hd q => ?_⟩
  · show i < n
    rw [← hl]; exact hi
  · show n ≤ (rng lo n).length
    rw [hl]; exact Nat.le_refl _
  · obtain ⟨e1, e3⟩ := q
    subst e1 e3
    unfold rng at hd
    rw [List.getElem?_map] at hd
    have hi : i < n := by
      cases q : (List.range n)[i]? with
      | none => rw [q] at hd; cases hd
      | some z => exact by have := (List.getElem?_eq_some_iff.mp q).1; simpa using this
    rw [List.getElem?_range hi] at hd
    cases hd
    exact ⟨H0', Same.refl _, w, .int _⟩
theorem di_range {tg : Expr} {wa : WA} {p pos : Pos} (hm : X.mg "range" = none) (ha : DA X [a] wa) (hg : Gl X "range" := by rfl) (hs : starEach [a] X.env = [(false, eval a X.env)] := by rfl) : DI X tg (.Call (.Name "range" p) [a] [] pos) (wiR wa) :=
  ⟨_, pi_range1 hg hm ha.run hs, fun σ H Γ Fr H0 M k R h1 h2 h3 h4 => ⟨Γ, Fr, H0, M, _, h1, h2, h3, fun vs H1 H' ds M' e1 w1 r1 q1 => by
  split at q1
  · obtain ⟨v, rfl, r⟩ := dats1 r1
    cases r
    exact ⟨_, rfl, q1.1.1, q1.1.2, h4 _ _ _ H' H1 M' e1 w1 q1.2 walks_rng⟩
  · exact q1.elim⟩⟩

/-! ### for -/
def loopD (gd : D → Env → Option Env) (wb : WS) (G : Mem → Prop) : List D → KS → Env → Mem → Prop
  | [], k, Γ, M => G M ∧ k.nx Γ M
  | d :: ds, k, Γ, M => G M ∧ match gd d Γ with | some Γ' => wb ⟨loopD gd wb G ds k, k.rt, k.nx, loopD gd wb G ds k⟩ Γ' M | none => False
def wFor (wi : WI) (gd : D → Env → Option Env) (wb : WS) : WS := fun k Γ M => wi Γ M fun its G M1 => loopD gd wb G its k Γ M1
theorem drop_cons {α : Type} {l : List α} {i : Nat} (h : i < l.length) : l.drop i = l[i] :: l.drop (i + 1) := List.drop_eq_getElem_cons h
theorem ds_for {tg iter : Expr} {body : List Stmt} {wi : WI} {g : TG} {own : List Nat} {gd : D → Env → Option Env} {wb : WS} {pos : Pos} (hc : X.calm = true) (hi : DI X tg iter wi) (hg : DG X tg g own gd) (hb : DSs X body wb)
    (hp : PassesOwn (model X.prog X.w) X.A X.env X.xe := by exact PassesOwn.never) (hs : ∀ x, foldedSetIterable iter X.env x = pure x := by intro _; rfl) : DS X (.For tg iter body [] pos) (wFor wi gd wb) := by
  obtain ⟨ti, hpi, hti⟩ := hi.run
  refine ds_of (ps_for hp hc hpi hg.pg hb.run hs) fun D σ H Γ Fr H0 M k h1 h2 h3 h4 => ?_
  refine hti σ H Γ Fr H0 M _ _ h1 h2 h3 fun J its G H1 H0' M' e1 w1 q1 wk => ?_
  refine ⟨fun i m σ H => m = its.length - i ∧ i ≤ its.length ∧ ∃ Γ H2 M, Same H0' H2 ∧ Slots X.K H2 σ Γ ∧ Wd X.K Fr H2 M H ∧ loopD gd wb G (its.drop i) k Γ M, ⟨its.length, by simp, Nat.zero_le _, Γ, H0', M', Same.refl _, h1.mono e1, w1, q1⟩, ?_⟩
  rintro i m σ H ⟨rfl, hle, Γ, H2, M, e2, s2, w2, q2⟩
  by_cases hlt : i < its.length
  · right
    rw [drop_cons hlt] at q2
    obtain ⟨g2, q2⟩ := q2
    obtain ⟨k1, k2, k3⟩ := wk Fr H2 M H e2 w2 g2
    refine ⟨k1 i hlt, fun σ' H' => ∃ Γ H3 M, Same H0' H3 ∧ Slots X.K H3 σ' Γ ∧ Wd X.K Fr H3 M H' ∧ loopD gd wb G (its.drop (i + 1)) k Γ M, fun σ' H' z => ⟨its.length - (i + 1), by omega, rfl, hlt, z⟩, fun x H' y => ?_⟩
    obtain ⟨H3, e3, w3, r3⟩ := k3 i x H' its[i] (List.getElem?_eq_getElem hlt) y
    split at q2
    · rename_i Γ' eg
      refine hg.gd Fr H3 M H' σ Γ Γ' x its[i] _ (s2.mono e3) w3 r3 eg fun σ' s' _ _ => ?_
      refine ⟨Γ', Fr, H3, M, _, s', w3, q2, ⟨fun σ'' H4 H'' Γ'' M'' e4 s4 w4 q4 => ?_, ?_, ?_, fun σ'' H4 H'' Γ'' M'' e4 s4 w4 q4 => ?_⟩⟩
      · exact ⟨Γ'', H4, M'', (e2.trans e3).trans e4, s4, w4, q4⟩
      · exact (h4.mono ((e1.trans e2).trans e3)).rt
      · exact (h4.mono ((e1.trans e2).trans e3)).nx
      · exact ⟨Γ'', H4, M'', (e2.trans e3).trans e4, s4, w4, q4⟩
    · exact q2.elim
  · left
    have ei : i = its.length := by omega
    subst ei
    rw [List.drop_length] at q2
    obtain ⟨g2, q2⟩ := q2
    exact ⟨(wk Fr H2 M H e2 w2 g2).2.1, h4.nx σ H2 H Γ M (e1.trans e2) s2 w2 q2⟩
/-- by an invariant over what is left -/
theorem loop_inv {gd : D → Env → Option Env} {wb : WS} {G : Mem → Prop} {k : KS} (I : List D → Env → Mem → Prop) (hG : ∀ ds Γ M, I ds Γ M → G M) (h0 : ∀ Γ M, I [] Γ M → k.nx Γ M)
    (hs : ∀ d ds Γ M, I (d :: ds) Γ M → ∃ Γ', gd d Γ = some Γ' ∧ ∀ k' : KS, k'.rt = k.rt → k'.bk = k.nx → (∀ Γ M, I ds Γ M → k'.nx Γ M) → (∀ Γ M, I ds Γ M → k'.ct Γ M) → wb k' Γ' M) :
    ∀ its Γ M, I its Γ M → loopD gd wb G its k Γ M
  | [], Γ, M, h => ⟨hG _ _ _ h, h0 Γ M h⟩
  | d :: ds, Γ, M, h => by
    refine ⟨hG _ _ _ h, ?_⟩
    obtain ⟨Γ', e, q⟩ := hs d ds Γ M h
    rw [e]
    exact q _ rfl rfl (fun Γ M h => loop_inv I hG h0 hs ds Γ M h) (fun Γ M h => loop_inv I hG h0 hs ds Γ M h)

/-! ### while -/
def wWhile (wc : WT) (wb : WS) : WS := fun k Γ M => ∃ (I : Nat → Env → Mem → Prop), (∃ n, I n Γ M) ∧ ∀ n Γ M, I n Γ M →
  wc Γ M fun b M1 => if b = true then wb ⟨fun Γ' M' => ∃ n', n' < n ∧ I n' Γ' M', k.rt, k.nx, fun Γ' M' => ∃ n', n' < n ∧ I n' Γ' M'⟩ Γ M1 else k.nx Γ M1
theorem ds_while {c : Expr} {body : List Stmt} {wc : WT} {wb : WS} {pos : Pos} (hc : DT X c wc) (hb : DSs X body wb) (hp : PassesOwn (model X.prog X.w) X.A X.env X.xe := by exact PassesOwn.never) : DS X (.While c body [] pos) (wWhile wc wb) := by
  refine ds_of (ps_while hp hc.run hb.run) fun D σ H Γ Fr H0 M k h1 h2 h3 h4 => ?_
  obtain ⟨I, ⟨n, i0⟩, hI⟩ := h3
  refine ⟨fun m σ H => ∃ Γ H1 M, Same H0 H1 ∧ Slots X.K H1 σ Γ ∧ Wd X.K Fr H1 M H ∧ I m Γ M, ⟨n, Γ, H0, M, Same.refl _, h1, h2, i0⟩, ?_⟩
  rintro m σ H ⟨Γ, H1, M, e1, s1, w1, i1⟩
  refine ⟨Γ, Fr, H1, M, _, s1, w1, hI m Γ M i1, fun b H2 H' M' e2 w2 q2 => ?_⟩
  cases b with
  | true =>
    rw [if_pos rfl] at q2 ⊢
    refine ⟨fun σ' H'' => ∃ Γ H3 M, Same H0 H3 ∧ Slots X.K H3 σ' Γ ∧ Wd X.K Fr H3 M H'' ∧ ∃ n', n' < m ∧ I n' Γ M, fun σ' H'' ⟨Γ, H3, M, a1, a2, a3, n', a4, a5⟩ => ⟨n', a4, Γ, H3, M, a1, a2, a3, a5⟩, ?_⟩
    refine ⟨Γ, Fr, H2, M', _, s1.mono e2, w2, q2, ⟨fun σ'' H4 H'' Γ'' M'' e4 s4 w4 q4 => ⟨Γ'', H4, M'', (e1.trans e2).trans e4, s4, w4, q4⟩, (h4.mono (e1.trans e2)).rt, (h4.mono (e1.trans e2)).nx, fun σ'' H4 H'' Γ'' M'' e4 s4 w4 q4 => ⟨Γ'', H4, M'', (e1.trans e2).trans e4, s4, w4, q4⟩⟩⟩
  | false =>
    rw [if_neg Bool.false_ne_true] at q2 ⊢
    exact h4.nx σ H2 H' Γ M' (e1.trans e2) (s1.mono e2) w2 q2

/-! ### comprehensions -/
def lcD (gd : D → Env → Option Env) (wt : WT) (we : WE) (G : Mem → Prop) (Γ : Env) : List D → List D → Mem → (List D → Mem → Prop) → Prop
  | [], acc, M, k => G M ∧ k acc M
  | d :: ds, acc, M, k => G M ∧ match gd d Γ with
    | some Γ' => wt Γ' M fun b M1 => if b = true then we Γ' M1 fun y M2 => acc.length < sizeLine ∧ lcD gd wt we G Γ ds (acc ++ [y]) M2 k else lcD gd wt we G Γ ds acc M1 k
    | none => False
structure DTs (X : Cx) (ifs : List Expr) (w : WT) : Prop where
  run : PTs X ifs (liftT X.K w)
def wYes : WT := fun _ M k => k true M
theorem dts_nil : DTs X [] wYes := ⟨⟨fun pins s σ H Q I ⟨Γ, Fr, H0, M, k, h1, h2, h3, h4⟩ => pts_nil.run pins s σ H Q I (h4 true H0 H M (Same.refl _) h2 h3)⟩⟩
theorem dts_one {c : Expr} {w : WT} (h : DT X c w) : DTs X [c] w := ⟨pts_one h.run⟩
def wLc (wi : WI) (gd : D → Env → Option Env) (wt : WT) (we : WE) (vs : List Nat) : WE := fun Γ M k => wi Γ M fun its G M1 => lcD gd wt we G (wipeD Γ vs) its [] M1 fun ds M2 => k (.lst ds) M2
def wLcM (wi : WI) (gd : D → Env → Option Env) (wt : WT) (we : WE) (vs : List Nat) : WE := fun Γ M k => wi Γ M fun its G M1 => lcD gd wt we G (wipeD Γ vs) its [] M1 fun ds M2 => ∀ p, M2 p = none → k (.cel p) (setM M2 p (.lst ds))
/-- the heart of both: the list at L lies in the frame while an element is worked out -/
theorem lc_heart {K : PySem.W.Frag} {wi : WI} {ti : TI} {g : TG} {own : List Nat} {gd : D → Env → Option Env} {wt : WT} {we : WE} {vs : List Nat} {Qd : Addr → Hp → Prop} {kd : List D → Mem → Prop}
    (hg : GD K g own gd) (ho : ∀ i ∈ own, i ∈ vs) {σ : St} {H H0 Fr : Hp} {Γ : Env} {M : Mem} {J : It} {its : List D} {G : Mem → Prop} (s : Slots K H0 σ Γ) (w : Wd K Fr H0 M H) (wk : Walks K J H0 its G)
    (h : lcD gd wt we G (wipeD Γ vs) its [] M kd) {L : Addr} (hL : H L = none)
    (hk : ∀ H1 H' M' ds vs', Same H0 H1 → Wd K Fr H1 M' H' → H1 L = none → M' L = none → Fr L = none → H' L = some (.lst vs') → Dats K H1 vs' ds → kd ds M' → Qd L H') :
    ∃ W : Nat → Nat → Hp → Prop, (∃ m, W 0 m (upd H L (.lst []))) ∧ ∀ i m H, W i m H →
      (J.stop i H ∧ Qd L H) ∨ (J.go i H ∧ ∃ Nx : Hp → Prop, (∀ H', Nx H' → ∃ m', m' < m ∧ W (i + 1) m' H') ∧ ∀ x H', J.yld i H x H' → g x (wipe σ vs) H' fun σ2 H2 => wipe σ2 vs = wipe σ vs ∧ liftT K wt σ2 H2 fun b H3 =>
        if b = true then liftE K we σ2 H3 fun y H4 => ∃ acc, H4 L = some (.lst acc) ∧ acc.length < sizeLine ∧ Nx (upd H4 L (.lst (acc ++ [y]))) else Nx H3) := by
  have hF : Fr L = none := w.freshF hL
  refine ⟨fun i m H => m = its.length - i ∧ i ≤ its.length ∧ ∃ H1 M av acc, Same H0 H1 ∧ Wd K (upd Fr L (.lst av)) H1 M H ∧ Dats K H1 av acc ∧ lcD gd wt we G (wipeD Γ vs) (its.drop i) acc M kd,
    ⟨its.length, by simp, Nat.zero_le _, H0, M, [], [], Same.refl _, (w.tmp hL).frame (w.fresh hL) (w.freshM hL) upd_same, .nil, h⟩, ?_⟩
  rintro i m H ⟨rfl, hle, H1, M, av, acc, e1, w1, ra, q1⟩
  by_cases hlt : i < its.length
  · right
    rw [drop_cons hlt] at q1
    obtain ⟨g1, q1⟩ := q1
    obtain ⟨k1, k2, k3⟩ := wk _ H1 M H e1 w1 g1
    refine ⟨k1 i hlt, fun H' => ∃ H2 M av acc, Same H0 H2 ∧ Wd K (upd Fr L (.lst av)) H2 M H' ∧ Dats K H2 av acc ∧ lcD gd wt we G (wipeD Γ vs) (its.drop (i + 1)) acc M kd, fun H' z => ⟨its.length - (i + 1), by omega, rfl, hlt, z⟩, fun x H' y => ?_⟩
    obtain ⟨H2, e2, w2, r2⟩ := k3 i x H' its[i] (List.getElem?_eq_getElem hlt) y
    split at q1
    · rename_i Γ' eg
      refine hg _ H2 M H' _ _ Γ' x its[i] _ ((s.wipe vs).mono (e1.trans e2)) w2 r2 eg fun σ' s' hout hlen => ⟨?_, ?_⟩
      · rw [← wipe_wipe σ vs]
        refine wipe_eq hlen fun i hi => hout i fun z => hi (ho i z)
      · refine ⟨Γ', _, H2, M, _, s', w2, q1, fun b H3 H'' M3 e3 w3 q3 => ?_⟩
        cases b with
        | true =>
          rw [if_pos rfl] at q3 ⊢
          refine ⟨Γ', _, H3, M3, _, s'.mono e3, w3, q3, fun v H4 H4' d M4 e4 w4 r4 q4 => ?_⟩
          obtain ⟨w5, n1, n2, n3⟩ := w4.unframe hF
          have e04 := (e1.trans e2).trans (e3.trans e4)
          have ra4 := ra.mono (e2.trans (e3.trans e4))
          exact ⟨av, n3, by rw [ra4.length]; exact q4.1, H4, M4, av ++ [v], acc ++ [d], e04, (w5.tmpSet n1 n2 hF).frame n1 n2 upd_same, ra4.append (.one r4), q4.2⟩
        | false =>
          rw [if_neg Bool.false_ne_true] at q3 ⊢
          exact ⟨H3, M3, av, acc, (e1.trans e2).trans e3, w3, ra.mono (e2.trans e3), q3⟩
    · exact q1.elim
  · left
    have ei : i = its.length := by omega
    subst ei
    rw [List.drop_length] at q1
    obtain ⟨g1, q1⟩ := q1
    obtain ⟨w5, n1, n2, n3⟩ := w1.unframe hF
    exact ⟨(wk _ H1 M H e1 w1 g1).2.1, hk H1 H M acc av e1 w5 n1 n2 hF n3 ra q1⟩
theorem de_lcX {elt tg iter : Expr} {ifs : List Expr} {scope : Scope} {own : List (Str × Nat)} {pos : Pos} {wi : WI} {g : TG} {ow : List Nat} {gd : D → Env → Option Env} {wt : WT} {we : WE} {wx : WE} (hc : X.calm = true) (hN : X.N.Nodup) (hi : DI X tg iter wi) (ok : BlkOk X.N X.env.scope scope own)
    (hg : ∀ (s : Shared) (H : Hp) (C : Addr) (cl : List (Str × Addr)) (fp : List Addr), DG (X.blk s H scope (compEnvC scope cl C X.env) fp) tg g ow gd) (hgd : GD X.K g ow gd)
    (ht : ∀ (s : Shared) (H : Hp) (C : Addr) (cl : List (Str × Addr)) (fp : List Addr), DTs (X.blk s H scope (compEnvC scope cl C X.env) fp) ifs wt)
    (he : ∀ (s : Shared) (H : Hp) (C : Addr) (cl : List (Str × Addr)) (fp : List Addr), DE (X.blk s H scope (compEnvC scope cl C X.env) fp) elt we)
    (ho : ∀ i ∈ ow, i ∈ own.map (·.2)) (hs : ∀ x, foldedSetIterable iter X.env x = pure x)
    (hx : ∀ Γ M k, wx Γ M k → ∃ kd, wi Γ M (fun its G M1 => lcD gd wt we G (wipeD Γ (own.map (·.2))) its [] M1 kd) ∧ ∀ Fr H0 H M ds vs L Q, Cont X.K Fr H0 k Q → Wd X.K Fr H0 M H → H0 L = none → M L = none → Fr L = none → H L = some (.lst vs) → Dats X.K H0 vs ds → kd ds M → Q (.ref L) H) :
    DE X (.ListComp elt [⟨tg, iter, ifs, 0⟩] scope pos) wx := by
  obtain ⟨ti, hpi, hti⟩ := hi.run
  refine de_of (pe_lc (tt := liftT X.K wt) (te := liftE X.K we) hc hN hpi ok (fun s H C cl fp => (hg s H C cl fp).pg) (fun s H C cl fp => (ht s H C cl fp).run) (fun s H C cl fp => (he s H C cl fp).run) hs) fun σ H Q Γ Fr H0 M k h1 h2 h3 h4 => ?_
  obtain ⟨kd, h3, hk⟩ := hx Γ M k h3
  refine hti σ H Γ Fr H0 M _ _ h1 h2 h3 fun J its G H1 H0' M' e1 w1 q1 wk L hL => ?_
  exact lc_heart (Qd := fun L H => Q (.ref L) H) (ti := ti) (wi := wi) hgd ho (h1.mono e1) w1 wk q1 hL fun H2 H' M2 ds vs' e2 w2 n1 n2 n3 n4 rd qk => hk Fr H2 H' M2 ds vs' L Q (h4.mono (e1.trans e2)) w2 n1 n2 n3 n4 rd qk
theorem de_lc {elt tg iter : Expr} {ifs : List Expr} {scope : Scope} {own : List (Str × Nat)} {pos : Pos} {wi : WI} {g : TG} {ow : List Nat} {gd : D → Env → Option Env} {wt : WT} {we : WE} (hc : X.calm = true) (hN : X.N.Nodup) (hi : DI X tg iter wi) (ok : BlkOk X.N X.env.scope scope own)
    (hg : ∀ (s : Shared) (H : Hp) (C : Addr) (cl : List (Str × Addr)) (fp : List Addr), DG (X.blk s H scope (compEnvC scope cl C X.env) fp) tg g ow gd) (hgd : GD X.K g ow gd)
    (ht : ∀ (s : Shared) (H : Hp) (C : Addr) (cl : List (Str × Addr)) (fp : List Addr), DTs (X.blk s H scope (compEnvC scope cl C X.env) fp) ifs wt)
    (he : ∀ (s : Shared) (H : Hp) (C : Addr) (cl : List (Str × Addr)) (fp : List Addr), DE (X.blk s H scope (compEnvC scope cl C X.env) fp) elt we)
    (ho : ∀ i ∈ ow, i ∈ own.map (·.2) := by decide) (hs : ∀ x, foldedSetIterable iter X.env x = pure x := by intro _; rfl) : DE X (.ListComp elt [⟨tg, iter, ifs, 0⟩] scope pos) (wLc wi gd wt we (own.map (·.2))) :=
  de_lcX hc hN hi ok hg hgd ht he ho hs fun Γ M k h => ⟨_, h, fun Fr H0 H M ds vs L Q h4 w n1 n2 n3 n4 rd qk =>
    h4 _ (upd H0 L (.lst vs)) H _ M (same_new n1) (w.adopt n1 n2 n3 n4) (.lst upd_same (rd.mono (same_new n1))) qk⟩
theorem de_lcM {elt tg iter : Expr} {ifs : List Expr} {scope : Scope} {own : List (Str × Nat)} {pos : Pos} {wi : WI} {g : TG} {ow : List Nat} {gd : D → Env → Option Env} {wt : WT} {we : WE} (hc : X.calm = true) (hN : X.N.Nodup) (hi : DI X tg iter wi) (ok : BlkOk X.N X.env.scope scope own)
    (hg : ∀ (s : Shared) (H : Hp) (C : Addr) (cl : List (Str × Addr)) (fp : List Addr), DG (X.blk s H scope (compEnvC scope cl C X.env) fp) tg g ow gd) (hgd : GD X.K g ow gd)
    (ht : ∀ (s : Shared) (H : Hp) (C : Addr) (cl : List (Str × Addr)) (fp : List Addr), DTs (X.blk s H scope (compEnvC scope cl C X.env) fp) ifs wt)
    (he : ∀ (s : Shared) (H : Hp) (C : Addr) (cl : List (Str × Addr)) (fp : List Addr), DE (X.blk s H scope (compEnvC scope cl C X.env) fp) elt we)
    (ho : ∀ i ∈ ow, i ∈ own.map (·.2) := by decide) (hs : ∀ x, foldedSetIterable iter X.env x = pure x := by intro _; rfl) : DE X (.ListComp elt [⟨tg, iter, ifs, 0⟩] scope pos) (wLcM wi gd wt we (own.map (·.2))) :=
  de_lcX hc hN hi ok hg hgd ht he ho hs fun Γ M k h => ⟨_, h, fun Fr H0 H M ds vs L Q h4 w n1 n2 n3 n4 rd qk =>
    h4 _ H0 H _ _ (Same.refl _) (w.adoptM n1 n3 n4 (.lst rd)) (.cel L) (qk L n2)⟩
/-- name = [..] on one line -/
theorem ds_setLcX {i : Nat} {y : Str} {py : Pos} {elt tg iter : Expr} {ifs : List Expr} {scope : Scope} {own : List (Str × Nat)} {pos spos : Pos} {wi : WI} {g : TG} {ow : List Nat} {gd : D → Env → Option Env} {wt : WT} {we : WE} {wx : WE} (hc : X.calm = true) (hN : X.N.Nodup) (hy : X.N[i]? = some y) (hyl : X.env.scope.names.lookup y = some .local)
    (hsw : swapsWith (.ListComp elt [⟨tg, iter, ifs, 0⟩] scope pos) (some (.Name y py)) spos.line X.env = pure true) (hi : DI X tg iter wi) (ok : BlkOk X.N X.env.scope scope own)
    (hg : ∀ (s : Shared) (H : Hp) (C : Addr) (cl : List (Str × Addr)) (fp : List Addr), DG (X.blk s H scope (compEnvC scope cl C X.env) fp) tg g ow gd) (hgd : GD X.K g ow gd)
    (ht : ∀ (s : Shared) (H : Hp) (C : Addr) (cl : List (Str × Addr)) (fp : List Addr), DTs (X.blk s H scope (compEnvC scope cl C X.env) fp) ifs wt)
    (he : ∀ (s : Shared) (H : Hp) (C : Addr) (cl : List (Str × Addr)) (fp : List Addr), DE (X.blk s H scope (compEnvC scope cl C X.env) fp) elt we)
    (ho : ∀ i ∈ ow, i ∈ own.map (·.2)) (hs : ∀ x, foldedSetIterable iter X.env x = pure x)
    (hx : ∀ Γ M k, wx Γ M k → ∃ kd, wi Γ M (fun its G M1 => lcD gd wt we G (wipeD Γ (own.map (·.2))) its [] M1 kd) ∧ ∀ Fr H0 H M ds vs L Q, Cont X.K Fr H0 k Q → Wd X.K Fr H0 M H → H0 L = none → M L = none → Fr L = none → H L = some (.lst vs) → Dats X.K H0 vs ds → kd ds M → Q (.ref L) H) :
    DS X (.Assign [.Name y py] (.ListComp elt [⟨tg, iter, ifs, 0⟩] scope pos) spos) (wSet i wx) := by
  obtain ⟨ti, hpi, hti⟩ := hi.run
  refine ds_of (ps_setLc (tt := liftT X.K wt) (te := liftE X.K we) hc hN hy hyl hsw hpi ok (fun s H C cl fp => (hg s H C cl fp).pg) (fun s H C cl fp => (ht s H C cl fp).run) (fun s H C cl fp => (he s H C cl fp).run) hs) fun D σ H Γ Fr H0 M k h1 h2 h3 h4 => ?_
  obtain ⟨kd, h3, hk⟩ := hx Γ M _ h3
  refine hti σ H Γ Fr H0 M _ _ h1 h2 h3 fun J its G H1 H0' M' e1 w1 q1 wk L hL => ?_
  refine lc_heart (Qd := fun L H => gName i (.ref L) σ H D.nx) (ti := ti) (wi := wi) hgd ho (h1.mono e1) w1 wk q1 hL fun H2 H' M2 ds vs' e2 w2 n1 n2 n3 n4 rd qk => ?_
  refine hk Fr H2 H' M2 ds vs' L (fun v H => gName i v σ H D.nx) (fun v H3 H'' d M3 e3 w3 r3 q3 => ?_) w2 n1 n2 n3 n4 rd qk
  exact h4.nx _ H3 H'' _ M3 ((e1.trans e2).trans e3) ((h1.mono ((e1.trans e2).trans e3)).set i r3) w3 q3
theorem ds_setLc {i : Nat} {y : Str} {py : Pos} {elt tg iter : Expr} {ifs : List Expr} {scope : Scope} {own : List (Str × Nat)} {pos spos : Pos} {wi : WI} {g : TG} {ow : List Nat} {gd : D → Env → Option Env} {wt : WT} {we : WE} (hc : X.calm = true) (hN : X.N.Nodup) (hi : DI X tg iter wi) (ok : BlkOk X.N X.env.scope scope own)
    (hg : ∀ (s : Shared) (H : Hp) (C : Addr) (cl : List (Str × Addr)) (fp : List Addr), DG (X.blk s H scope (compEnvC scope cl C X.env) fp) tg g ow gd) (hgd : GD X.K g ow gd)
    (ht : ∀ (s : Shared) (H : Hp) (C : Addr) (cl : List (Str × Addr)) (fp : List Addr), DTs (X.blk s H scope (compEnvC scope cl C X.env) fp) ifs wt)
    (he : ∀ (s : Shared) (H : Hp) (C : Addr) (cl : List (Str × Addr)) (fp : List Addr), DE (X.blk s H scope (compEnvC scope cl C X.env) fp) elt we)
    (hsw : swapsWith (.ListComp elt [⟨tg, iter, ifs, 0⟩] scope pos) (some (.Name y py)) spos.line X.env = pure true)
    (hy : X.N[i]? = some y := by rfl) (hyl : X.env.scope.names.lookup y = some .local := by rfl)
    (ho : ∀ i ∈ ow, i ∈ own.map (·.2) := by decide) (hs : ∀ x, foldedSetIterable iter X.env x = pure x := by intro _; rfl) : DS X (.Assign [.Name y py] (.ListComp elt [⟨tg, iter, ifs, 0⟩] scope pos) spos) (wSet i (wLc wi gd wt we (own.map (·.2)))) :=
  ds_setLcX hc hN hy hyl hsw hi ok hg hgd ht he ho hs fun Γ M k h => ⟨_, h, fun Fr H0 H M ds vs L Q h4 w n1 n2 n3 n4 rd qk =>
    h4 _ (upd H0 L (.lst vs)) H _ M (same_new n1) (w.adopt n1 n2 n3 n4) (.lst upd_same (rd.mono (same_new n1))) qk⟩
theorem ds_setLcM {i : Nat} {y : Str} {py : Pos} {elt tg iter : Expr} {ifs : List Expr} {scope : Scope} {own : List (Str × Nat)} {pos spos : Pos} {wi : WI} {g : TG} {ow : List Nat} {gd : D → Env → Option Env} {wt : WT} {we : WE} (hc : X.calm = true) (hN : X.N.Nodup) (hi : DI X tg iter wi) (ok : BlkOk X.N X.env.scope scope own)
    (hg : ∀ (s : Shared) (H : Hp) (C : Addr) (cl : List (Str × Addr)) (fp : List Addr), DG (X.blk s H scope (compEnvC scope cl C X.env) fp) tg g ow gd) (hgd : GD X.K g ow gd)
    (ht : ∀ (s : Shared) (H : Hp) (C : Addr) (cl : List (Str × Addr)) (fp : List Addr), DTs (X.blk s H scope (compEnvC scope cl C X.env) fp) ifs wt)
    (he : ∀ (s : Shared) (H : Hp) (C : Addr) (cl : List (Str × Addr)) (fp : List Addr), DE (X.blk s H scope (compEnvC scope cl C X.env) fp) elt we)
    (hsw : swapsWith (.ListComp elt [⟨tg, iter, ifs, 0⟩] scope pos) (some (.Name y py)) spos.line X.env = pure true)
    (hy : X.N[i]? = some y := by rfl) (hyl : X.env.scope.names.lookup y = some .local := by rfl)
    (ho : ∀ i ∈ ow, i ∈ own.map (·.2) := by decide) (hs : ∀ x, foldedSetIterable iter X.env x = pure x := by intro _; rfl) : DS X (.Assign [.Name y py] (.ListComp elt [⟨tg, iter, ifs, 0⟩] scope pos) spos) (wSet i (wLcM wi gd wt we (own.map (·.2)))) :=
  ds_setLcX hc hN hy hyl hsw hi ok hg hgd ht he ho hs fun Γ M k h => ⟨_, h, fun Fr H0 H M ds vs L Q h4 w n1 n2 n3 n4 rd qk =>
    h4 _ H0 H _ _ (Same.refl _) (w.adoptM n1 n3 n4 (.lst rd)) (.cel L) (qk L n2)⟩
end
/-! ### a def -/
section
variable {P : Program} {w : World} {K : PySem.W.Frag} {mg : Str → Option Value} {base : Heap}
def startD (N : List Str) (ds : List D) : Env := ds.map some ++ List.replicate (N.length - ds.length) none
theorem slots_start {K : PySem.W.Frag} {H : Hp} {N : List Str} {vs : List V} {ds : List D} (h : Dats K H vs ds) : Slots K H (L2.start N vs) (startD N ds) := by
  have hl := h.length
  refine ⟨by unfold L2.start startD; simp [hl], fun i d e => ?_⟩
  unfold startD at e
  by_cases hi : i < ds.length
  · rw [List.getElem?_append_left (by simpa using hi), List.getElem?_map] at e
    cases q : ds[i]? with
    | none => rw [q] at e; cases e
    | some d' =>
      rw [q] at e; cases e
      obtain ⟨v, e2, r⟩ := h.get q
      refine ⟨v, ?_, r⟩
      unfold L2.start
      rw [List.getElem?_append_left (by simpa [hl] using hi), List.getElem?_map, e2]; rfl
  · rw [List.getElem?_append_right (by simpa using hi)] at e
    have := List.mem_of_getElem? e
    simp at this
abbrev fin (k : KD) : KS := ⟨fun _ M => k .non M, k, fun _ _ => False, fun _ _ => False⟩
theorem Fun.okD {x qual : Str} {st : Stmt} {f : Addr} {fd : FuncData} {N ps : List Str} {k : Nat} {F : FD} {ws : WS} (Fu : Fun K x qual st f fd) (S : FnScope N ps (defScope st))
    (hbody : ∀ (cdv : Value) (A : Around) (outer : List PySem.Env) (s : Shared) (H : Hp) (E : XK), DG.RoomG k (A.deeper (PyProof.Rows.envOfC qual (defScope st) s.heap.objs.size f cdv)) → DSs (cxOf CX0 P w K mg base N qual (defScope st) f cdv A outer s H E).nox (defBody st) ws)
    (hw : ∀ ds M kd, F ds M kd → ds.length = ps.length ∧ ws (fin kd) (startD N ds) M) : DFn P w K mg base (k + 1) f fd ps F := by
  refine DG.fnG Fu S (fun vs H Q E h => ?_) (fun cdv A outer s H vs Q E hr h => ?_)
  · obtain ⟨Fr, H0, M, ds, kd, w, r, q, c⟩ := h
    rw [r.length]; exact (hw ds M kd q).1
  · obtain ⟨Fr, H0, M, ds, kd, w, r, q, c⟩ := h
    refine ⟨_, (hbody cdv A outer s H E hr).run.nox, ?_⟩
    refine ⟨startD N ds, Fr, H0, M, fin kd, slots_start r, w, (hw ds M kd q).2, ⟨fun σ' H0' H' Γ' M' e s w q => c .non H0' H' .non M' e w .non q, c, fun _ _ _ _ _ _ _ _ q => q.elim, fun _ _ _ _ _ _ _ _ q => q.elim⟩⟩
end
end DL

set_option autoImplicit false
set_option maxRecDepth 100000
set_option maxHeartbeats 2000000
namespace DL
open PySem L2
section
variable {X : Cx} {K : PySem.W.Frag} {e a b : Expr} {es : List Expr}

/-! ### + - * // % ** -/
def rdAdd : D → D → Mem → KD → Prop := fun x y M k => match x, y with
  | .int i, .int j => k (.int (i + j)) M
  | .str s, .str t => s.length + t.length ≤ sizeLine ∧ k (.str (s ++ t)) M
  | .tup xs, .tup ys => xs.length + ys.length ≤ sizeLine ∧ k (.tup (xs ++ ys)) M
  | x, y => match asL M x, asL M y with
    | some xs, some ys => xs.length + ys.length ≤ sizeLine ∧ k (.lst (xs ++ ys)) M
    | _, _ => False
theorem dats_nil {H : Hp} {vs : List V} {ds : List D} (h : Dats K H vs ds) : vs = [] ↔ ds = [] := by
  cases h <;> simp
theorem op_addA : ∃ r, OpR X (binaryOp .Add) r ∧ OpD X.K r rdAdd := by
  refine ⟨_, op_add.or (op_add_str.or (op_catA.or op_cat)), fun Fr H0 M H x y vx vy k Q w rx ry h c => ?_⟩
  unfold rdAdd at h
  split at h
  · cases rx; cases ry; exact .inl ⟨_, _, rfl, rfl, c _ H0 H _ M (Same.refl _) w (.int _) h⟩
  · cases rx; cases ry; exact .inr (.inl ⟨_, _, rfl, rfl, h.1, c _ H0 H _ M (Same.refl _) w (.str _) h.2⟩)
  · cases rx with
    | tup hs hd =>
      cases ry with
      | tup hs2 hd2 =>
        rename_i a vs b ws
        refine .inr (.inr (.inl ⟨a, b, vs, ws, rfl, rfl, same_t w.ex hs, same_t w.ex hs2, by rw [hd.length, hd2.length]; exact h.1, fun e => ?_, fun e1 e2 => ?_, fun _ _ p hp => ?_⟩))
        · have : _ = [] := (dats_nil hd).mp e
          subst this
          exact c _ H0 H _ M (Same.refl _) w (.tup hs2 hd2) (by simpa using h.2)
        · have : _ = [] := (dats_nil hd2).mp e2
          subst this
          exact c _ H0 H _ M (Same.refl _) w (.tup hs hd) (by simpa using h.2)
        · exact c _ _ _ _ M (same_new (w.fresh hp)) (w.new hp) (.tup (.of upd_same) ((hd.append hd2).mono (same_new (w.fresh hp)))) h.2
  · split at h
    · rename_i xs ys e1 e2
      obtain ⟨a, vs, rfl, h1, d1⟩ := asL_ok w rx e1
      obtain ⟨b, ws, rfl, h2, d2⟩ := asL_ok w ry e2
      refine .inr (.inr (.inr ⟨a, b, vs, ws, rfl, rfl, h1, h2, by rw [d1.length, d2.length]; exact h.1, fun p hp => ?_⟩))
      exact c _ _ _ _ M (same_new (w.fresh hp)) (w.new hp) (.lst upd_same ((d1.append d2).mono (same_new (w.fresh hp)))) h.2
    · exact h.elim
theorem de_add {wa wb : WE} {pos : Pos} (ha : DE X a wa) (hb : DE X b wb) : DE X (.BinOp a .Add b pos) (wOp rdAdd wa wb) := by
  obtain ⟨r, h1, h2⟩ := op_addA (X := X)
  exact de_op h1 h2 ha hb
/-- two ints under a condition -/
def rdI (C : Int → Int → Prop) (g : Int → Int → D) : D → D → Mem → KD → Prop := fun x y M k => match x, y with | .int i, .int j => C i j ∧ k (g i j) M | _, _ => False
theorem opd_I {C : Int → Int → Prop} {g : Int → Int → V} {g' : Int → Int → D} (hg : ∀ i j H, Dat K H (g i j) (g' i j)) : OpD K (rI C g) (rdI C g') := fun Fr H0 M H x y vx vy k Q w rx ry h c => by
  unfold rdI at h
  split at h
  · cases rx; cases ry; exact ⟨_, _, rfl, rfl, h.1, c _ H0 H _ M (Same.refl _) w (hg _ _ _) h.2⟩
  · exact h.elim
def rdI0 (g : Int → Int → D) : D → D → Mem → KD → Prop := fun x y M k => match x, y with | .int i, .int j => k (g i j) M | _, _ => False
theorem opd_I0 {g : Int → Int → V} {g' : Int → Int → D} (hg : ∀ i j H, Dat K H (g i j) (g' i j)) : OpD K (rI0 g) (rdI0 g') := fun Fr H0 M H x y vx vy k Q w rx ry h c => by
  unfold rdI0 at h
  split at h
  · cases rx; cases ry; exact ⟨_, _, rfl, rfl, c _ H0 H _ M (Same.refl _) w (hg _ _ _) h⟩
  · exact h.elim
theorem de_sub {wa wb : WE} {pos : Pos} (ha : DE X a wa) (hb : DE X b wb) : DE X (.BinOp a .Sub b pos) (wOp (rdI0 fun i j => .int (i - j)) wa wb) := de_op op_sub (opd_I0 fun _ _ _ => .int _) ha hb
theorem de_mul {wa wb : WE} {pos : Pos} (ha : DE X a wa) (hb : DE X b wb) : DE X (.BinOp a .Mult b pos) (wOp (rdI CMul fun i j => .int (i * j)) wa wb) := de_op op_mul (opd_I fun _ _ _ => .int _) ha hb
/-- by a positive divisor below 2 ^ 30 -/
theorem de_div {wa wb : WE} {pos : Pos} (ha : DE X a wa) (hb : DE X b wb) : DE X (.BinOp a .FloorDiv b pos) (wOp (rdI CDiv fun i j => .int (i / j)) wa wb) := de_op op_fdiv (opd_I fun _ _ _ => .int _) ha hb
theorem de_mod {wa wb : WE} {pos : Pos} (ha : DE X a wa) (hb : DE X b wb) : DE X (.BinOp a .Mod b pos) (wOp (rdI (fun _ j => 0 < j) fun i j => .int (i % j)) wa wb) := de_op op_mod (opd_I fun _ _ _ => .int _) ha hb
theorem de_pow {wa wb : WE} {pos : Pos} (ha : DE X a wa) (hb : DE X b wb) : DE X (.BinOp a .Pow b pos) (wOp (rdI CPow fun i j => .int (i ^ j.toNat)) wa wb) := de_op op_pow (opd_I fun _ _ _ => .int _) ha hb
def rdU (g : Int → D) : D → Mem → KD → Prop := fun x M k => match x with | .int i => k (g i) M | _ => False
def wUn (rd : D → Mem → KD → Prop) (wa : WE) : WE := fun Γ M k => wa Γ M fun x M1 => rd x M1 k
theorem de_neg {wa : WE} {pos : Pos} (ha : DE X a wa) : DE X (.UnaryOp .USub a pos) (wUn (rdU fun i => .int (-i)) wa) :=
  de_of (pe_un un_neg ha.run) fun σ H Q Γ Fr H0 M k h1 h2 h3 h4 => ⟨Γ, Fr, H0, M, _, h1, h2, h3, fun v H1 H' d M' e1 w1 r1 q1 => by
    unfold rdU at q1
    split at q1
    · cases r1; exact ⟨_, rfl, h4 _ H1 H' _ M' e1 w1 (.int _) q1⟩
    · exact q1.elim⟩

/-! ### comparisons -/
def rdOrd (p : Int → Int → Bool) (q : Str → Str → Bool) : D → D → Mem → KD → Prop := fun x y M k => match x, y with
  | .int i, .int j => k (.bl (p i j)) M
  | .str i, .str j => k (.bl (q i j)) M
  | _, _ => False
theorem opd_ord {p : Int → Int → Bool} {q : Str → Str → Bool} {r r' : R2} (h : ∀ i j H (Q : VK), Q (.bl (p i j)) H → r (.int i) (.int j) H Q) (h' : ∀ i j H (Q : VK), Q (.bl (q i j)) H → r' (.str i) (.str j) H Q) : OpD K (fun x y H Q => r x y H Q ∨ r' x y H Q) (rdOrd p q) := fun Fr H0 M H x y vx vy k Q w rx ry z c => by
  unfold rdOrd at z
  split at z
  · cases rx; cases ry; exact .inl (h _ _ _ _ (c _ H0 H _ M (Same.refl _) w (.bl _) z))
  · cases rx; cases ry; exact .inr (h' _ _ _ _ (c _ H0 H _ M (Same.refl _) w (.bl _) z))
  · exact z.elim
abbrev rdLt := rdOrd (fun i j => decide (i < j)) (fun i j => decide (i.cps.toList < j.cps.toList))
abbrev rdLe := rdOrd (fun i j => decide (i ≤ j)) (fun i j => !decide (j.cps.toList < i.cps.toList))
theorem op_ltA : ∃ r, OpR X (compareOp .Lt) r ∧ OpD X.K r rdLt := ⟨_, op_lt.or op_lt_str, opd_ord (fun _ _ _ _ z => ⟨_, _, rfl, rfl, z⟩) fun _ _ _ _ z => ⟨_, _, rfl, rfl, z⟩⟩
theorem op_leA : ∃ r, OpR X (compareOp .LtE) r ∧ OpD X.K r rdLe := ⟨_, op_le.or op_le_str, opd_ord (fun _ _ _ _ z => ⟨_, _, rfl, rfl, z⟩) fun _ _ _ _ z => ⟨_, _, rfl, rfl, z⟩⟩
abbrev rdGt := rdOrd (fun i j => decide (j < i)) (fun i j => decide (j.cps.toList < i.cps.toList))
abbrev rdGe := rdOrd (fun i j => decide (j ≤ i)) (fun i j => !decide (i.cps.toList < j.cps.toList))
theorem op_gtA : ∃ r, OpR X (compareOp .Gt) r ∧ OpD X.K r rdGt := ⟨_, op_gt.or op_gt_str, opd_ord (fun _ _ _ _ z => ⟨_, _, rfl, rfl, z⟩) fun _ _ _ _ z => ⟨_, _, rfl, rfl, z⟩⟩
theorem op_geA : ∃ r, OpR X (compareOp .GtE) r ∧ OpD X.K r rdGe := ⟨_, op_ge.or op_ge_str, opd_ord (fun _ _ _ _ z => ⟨_, _, rfl, rfl, z⟩) fun _ _ _ _ z => ⟨_, _, rfl, rfl, z⟩⟩

mutual
/-- what == looks at -/
def toP (M : Mem) : D → Option PyData
  | .non => some .none
  | .bl b => some (.bool b)
  | .int i => some (.int i)
  | .str s => some (.str s)
  | .tup ds => match toPs M ds with | some ps => some (.tuple ps) | none => none
  | .lst ds => match toPs M ds with | some ps => some (.list ps) | none => none
  | _ => none
def toPs (M : Mem) : List D → Option (List PyData)
  | [] => some []
  | d :: ds => match toP M d, toPs M ds with | some p, some ps => some (p :: ps) | _, _ => none
end
/-- a cell at the outmost place -/
def toPC (M : Mem) : D → Option PyData
  | .cel a => match M a with | some (.lst ds) => (match toPs M ds with | some ps => some (.list ps) | none => none) | _ => none
  | d => toP M d
mutual
theorem toP_ok {Fr H0 H : Hp} {M : Mem} (w : Wd K Fr H0 M H) : ∀ (d : D) (v : V) (p : PyData), Dat K H0 v d → toP M d = some p → Dp K H v p
  | .non, _, _, .non, e => by cases e; exact .non
  | .bl _, _, _, .bl b, e => by cases e; exact .bl b
  | .int _, _, _, .int b, e => by cases e; exact .int b
  | .str _, _, _, .str b, e => by cases e; exact .str b
  | .tup ds, _, _, .tup hs hd, e => by
    unfold toP at e
    split at e
    · rename_i ps q; cases e; exact .tup (same_t w.ex hs) (toPs_ok w ds _ ps hd q)
    · cases e
  | .lst ds, _, _, .lst hs hd, e => by
    unfold toP at e
    split at e
    · rename_i ps q; cases e; exact .lst (.of (w.ex _ _ hs)) (toPs_ok w ds _ ps hd q)
    · cases e
  | .scr _, _, _, _, e => by cases e
  | .cel _, _, _, _, e => by cases e
  | .ty _, _, _, _, e => by cases e
theorem toPs_ok {Fr H0 H : Hp} {M : Mem} (w : Wd K Fr H0 M H) : ∀ (ds : List D) (vs : List V) (ps : List PyData), Dats K H0 vs ds → toPs M ds = some ps → DpAll K H vs ps
  | [], _, _, .nil, e => by cases e; exact .nil
  | d :: ds, _, _, .cons h hs, e => by
    unfold toPs at e
    split at e
    · rename_i p ps q1 q2; cases e; exact .cons (toP_ok w d _ p h q1) (toPs_ok w ds _ ps hs q2)
    · cases e
end
theorem toPC_ok {Fr H0 H : Hp} {M : Mem} (w : Wd K Fr H0 M H) {d : D} {v : V} {p : PyData} (r : Dat K H0 v d) (e : toPC M d = some p) : Dp K H v p := by
  cases d with
  | cel a =>
    unfold toPC at e
    simp only at e
    split at e
    · rename_i ds q
      obtain ⟨a', vs, rfl, h1, h2⟩ := asL_ok (ds := ds) w r (by unfold asL; simp only [q])
      split at e
      · rename_i ps q2; cases e; exact .lst (.of h1) (toPs_ok w ds _ ps h2 q2)
      · cases e
    · cases e
  | _ => exact toP_ok w _ v p r e
def rdEqP (f : Bool → Bool) : D → D → Mem → KD → Prop := fun x y M k => match toPC M x, toPC M y with
  | some p, some q => SeqAt.shaped p = true ∧ SeqAt.shaped q = true ∧ k (.bl (f (PyData.eqv p q))) M
  | _, _ => False
def rdEq (f : Bool → Bool) : D → D → Mem → KD → Prop := fun x y M k => match x, y with
  | .str s, .str t => k (.bl (f (decide (s = t)))) M
  | x, y => rdEqP f x y M k
theorem str_dec {s t : Str} : decide (V.str s = V.str t) = decide (s = t) := by rw [decide_eq_decide]; simp
theorem opd_eqP : OpD K (rEqD K) (rdEqP id) := fun Fr H0 M H x y vx vy k Q w rx ry h c => by
  unfold rdEqP at h
  split at h
  · rename_i p q e1 e2
    exact ⟨p, q, toPC_ok w rx e1, toPC_ok w ry e2, h.1, h.2.1, c _ H0 H _ M (Same.refl _) w (.bl _) h.2.2⟩
  · exact h.elim
theorem opd_neP : OpD K (rNeD K) (rdEqP not) := fun Fr H0 M H x y vx vy k Q w rx ry h c => by
  unfold rdEqP at h
  split at h
  · rename_i p q e1 e2
    exact ⟨p, q, toPC_ok w rx e1, toPC_ok w ry e2, h.1, h.2.1, c _ H0 H _ M (Same.refl _) w (.bl _) h.2.2⟩
  · exact h.elim
theorem opd_eq : OpD K (fun x y H Q => rEq x y H Q ∨ rEqD K x y H Q) (rdEq id) := fun Fr H0 M H x y vx vy k Q w rx ry h c => by
  unfold rdEq at h
  split at h
  · cases rx; cases ry
    exact .inl ⟨rfl, by rw [str_dec]; exact c _ H0 H _ M (Same.refl _) w (.bl _) h⟩
  · exact .inr (opd_eqP Fr H0 M H _ _ _ _ k Q w rx ry h c)
theorem opd_ne : OpD K (fun x y H Q => rNe x y H Q ∨ rNeD K x y H Q) (rdEq not) := fun Fr H0 M H x y vx vy k Q w rx ry h c => by
  unfold rdEq at h
  split at h
  · cases rx; cases ry
    exact .inl ⟨rfl, by rw [str_dec]; exact c _ H0 H _ M (Same.refl _) w (.bl _) h⟩
  · exact .inr (opd_neP Fr H0 M H _ _ _ _ k Q w rx ry h c)
/-- is None, of types, of truths -/
def rdIs (f : Bool → Bool) : D → D → Mem → KD → Prop := fun x y M k => match x, y with
  | .ty m, .ty n => k (.bl (f (decide (m = n)))) M
  | .bl m, .bl n => k (.bl (f (decide (m = n)))) M
  | .non, .non => k (.bl (f true)) M
  | .bl _, .non => k (.bl (f false)) M
  | .int _, .non => k (.bl (f false)) M
  | .str _, .non => k (.bl (f false)) M
  | .tup _, .non => k (.bl (f false)) M
  | .lst _, .non => k (.bl (f false)) M
  | .cel _, .non => k (.bl (f false)) M
  | _, _ => False
theorem op_isA : ∃ r, OpR X (compareOp .Is) r ∧ OpD X.K r (rdIs id) := ⟨_, op_isTyB.or (op_isBl.or op_isN), fun Fr H0 M H x y vx vy k Q w rx ry h c => by
  unfold rdIs at h
  split at h
  · cases rx; cases ry; exact .inl ⟨_, _, rfl, rfl, c _ H0 H _ M (Same.refl _) w (.bl _) h⟩
  · cases rx; cases ry; exact .inr (.inl ⟨_, _, rfl, rfl, c _ H0 H _ M (Same.refl _) w (.bl _) h⟩)
  all_goals first
    | exact h.elim
    | (cases ry; cases rx <;> exact .inr (.inr ⟨rfl, c _ H0 H _ M (Same.refl _) w (.bl _) h⟩))⟩
theorem op_isnA : ∃ r, OpR X (compareOp .IsNot) r ∧ OpD X.K r (rdIs not) := ⟨_, op_notTyB.or (op_notBl.or op_notN), fun Fr H0 M H x y vx vy k Q w rx ry h c => by
  unfold rdIs at h
  split at h
  · cases rx; cases ry; exact .inl ⟨_, _, rfl, rfl, c _ H0 H _ M (Same.refl _) w (.bl _) h⟩
  · cases rx; cases ry; exact .inr (.inl ⟨_, _, rfl, rfl, c _ H0 H _ M (Same.refl _) w (.bl _) h⟩)
  all_goals first
    | exact h.elim
    | (cases ry; cases rx <;> exact .inr (.inr ⟨rfl, c _ H0 H _ M (Same.refl _) w (.bl _) h⟩))⟩
/-- in, of flat things -/
def flatD : D → Option V
  | .non => some .non
  | .bl b => some (.bl b)
  | .int i => some (.int i)
  | .str s => some (.str s)
  | _ => none
def flatsD : List D → Option (List V)
  | [] => some []
  | d :: ds => match flatD d, flatsD ds with | some v, some vs => some (v :: vs) | _, _ => none
theorem flatD_ok {H : Hp} {d : D} {v u : V} (r : Dat K H v d) (e : flatD d = some u) : v = u ∧ flatV u = true := by
  cases r <;> cases e <;> exact ⟨rfl, rfl⟩
theorem flatsD_ok {H : Hp} : ∀ {ds : List D} {vs us : List V}, Dats K H vs ds → flatsD ds = some us → vs = us ∧ us.all flatV = true
  | [], _, _, .nil, e => by cases e; exact ⟨rfl, rfl⟩
  | d :: ds, _, us, .cons h hs, e => by
    unfold flatsD at e
    split at e
    · rename_i v vs q1 q2
      cases e
      obtain ⟨rfl, f1⟩ := flatD_ok h q1
      obtain ⟨rfl, f2⟩ := flatsD_ok hs q2
      exact ⟨rfl, by rw [List.all_cons, f1, f2]; rfl⟩
    · cases e
def seqD (M : Mem) : D → Option (List D)
  | .tup ds => some ds
  | d => asR M d
def rdIn (f : Bool → Bool) : D → D → Mem → KD → Prop := fun x y M k => match seqD M y with
  | some ds => (match flatD x, flatsD ds with | some v, some vs => k (.bl (f (inV v vs))) M | _, _ => False)
  | none => False
theorem seqD_ok {Fr H0 H : Hp} {M : Mem} {v : V} {d : D} {ds : List D} (w : Wd K Fr H0 M H) (r : Dat K H0 v d) (h : seqD M d = some ds) : ∃ a vs, v = .ref a ∧ (SqL K H a vs ∨ SqT K H a vs) ∧ Dats K H0 vs ds := by
  cases d with
  | tup ds => cases h; cases r with | tup hs hd => exact ⟨_, _, rfl, .inr (same_t w.ex hs), hd⟩
  | _ => obtain ⟨a, vs, e, h1, h2⟩ := asR_ok (ds := ds) w r (by exact h); exact ⟨a, vs, e, .inl h1, h2⟩
theorem opd_in {f : Bool → Bool} {neg : Bool} (hf : ∀ c, f c = if neg then !c else c) : OpD K (rIn K neg) (rdIn f) := fun Fr H0 M H x y vx vy k Q w rx ry h c => by
  unfold rdIn at h
  split at h
  · rename_i ds e
    obtain ⟨a, vs, rfl, hs, hd⟩ := seqD_ok w ry e
    split at h
    · rename_i v vs' e1 e2
      obtain ⟨rfl, f1⟩ := flatD_ok rx e1
      obtain ⟨rfl, f2⟩ := flatsD_ok hd e2
      rw [hf] at h
      refine ⟨a, _, rfl, hs, f1, f2, ?_⟩
      cases neg
      · exact c _ H0 H _ M (Same.refl _) w (.bl _) h
      · exact c _ H0 H _ M (Same.refl _) w (.bl _) h
    · exact h.elim
  · exact h.elim

/-! ### subscripts -/
def rdIx : D → D → Mem → KD → Prop := fun x y M k => match y with
  | .int i => (match x with
    | .str z => z.length ≤ sizeLine ∧ (match atI z.cps.toList i with | some c => k (.str ⟨#[c]⟩) M | none => False)
    | x => match seqD M x with | some ds => (match atI ds i with | some d => k d M | none => False) | none => False)
  | _ => False
theorem atI_dats {H : Hp} {vs : List V} {ds : List D} {i : Int} {d : D} (h : Dats K H vs ds) (e : atI ds i = some d) : ∃ v, atI vs i = some v ∧ Dat K H v d := by
  unfold atI at e ⊢
  rw [h.length]
  cases q : ixN ds.length i with
  | none => rw [q] at e; cases e
  | some j =>
    rw [q] at e
    obtain ⟨v, h1, h2⟩ := h.get (i := j) e
    exact ⟨v, h1, h2⟩
theorem opd_ix : OpD K (rIx K) rdIx := fun Fr H0 M H x y vx vy k Q w rx ry h c => by
  unfold rdIx at h
  split at h
  · rename_i i
    cases ry
    split at h
    · rename_i z
      cases rx
      obtain ⟨hz, h⟩ := h
      split at h
      · rename_i c' e; exact .inr (.inr ⟨_, _, _, rfl, rfl, hz, e, c _ H0 H _ M (Same.refl _) w (.str _) h⟩)
      · exact h.elim
    · split at h
      · rename_i ds e
        obtain ⟨a, vs, rfl, hs, hd⟩ := seqD_ok w rx e
        split at h
        · rename_i d e2
          obtain ⟨v, h1, h2⟩ := atI_dats hd e2
          rcases hs with hs | hs
          · exact .inl ⟨a, vs, _, v, rfl, rfl, hs, h1, c _ H0 H _ M (Same.refl _) w h2 h⟩
          · exact .inr (.inl ⟨a, vs, _, v, rfl, rfl, hs, h1, c _ H0 H _ M (Same.refl _) w h2 h⟩)
        · exact h.elim
      · exact h.elim
  · exact h.elim
theorem de_ix {wa wb : WE} {pos : Pos} (ha : DE X a wa) (hb : DE X b wb) (hs : PlainIx b := by exact fun _ _ => rfl) : DE X (.Subscript a b pos) (wOp rdIx wa wb) :=
  de_of (pe_ix ix_seq ha.run hb.run hs) fun _ _ _ _ _ _ _ _ h1 h2 h3 h4 => lift_op opd_ix h1 h2 h3 h4
/-- d[k] -/
def keyD : D → Option Key
  | .int i => some (.inl i)
  | .str s => some (.inr s)
  | _ => none
def lookD (kvs : List (Key × D)) (k : Key) : Option D := (kvs.find? fun kv => decide (kv.1 = k)).map (·.2)
def rdGet : D → D → Mem → KD → Prop := fun x y M k => match x with
  | .cel a => (match M a with
    | some (.dct kvs) => (match keyD y with
      | some κ => (match lookD kvs κ with | some d => k d M | none => False)
      | none => False)
    | _ => False)
  | _ => False
theorem keyD_ok {H : Hp} {v : V} {d : D} {κ : Key} (r : Dat K H v d) (e : keyD d = some κ) : v = kV κ := by
  cases r <;> cases e <;> rfl
theorem look_ok {H : Hp} {κ : Key} : ∀ {kvs : List (Key × V)} {kds : List (Key × D)}, DKs K H kvs kds → (∀ d, lookD kds κ = some d → ∃ v, valV kvs κ = some v ∧ Dat K H v d) ∧ (lookD kds κ = none → valV kvs κ = none)
  | _, _, .nil => ⟨fun d e => (by simp [lookD] at e), fun _ => rfl⟩
  | _, _, .cons (a := p) (b := q) h t => by
    obtain ⟨i1, i2⟩ := look_ok (κ := κ) t
    by_cases e : q.1 = κ
    · have e' : p.1 = κ := h.1.trans e
      refine ⟨fun d z => ?_, fun z => ?_⟩
      · have this : ∀ l, lookD (q :: l) κ = some q.2 := fun l => by unfold lookD; rw [List.find?_cons]; simp [e]
        rw [this] at z; cases z
        exact ⟨p.2, valV_pos e', h.2⟩
      · have this : ∀ l, lookD (q :: l) κ = some q.2 := fun l => by unfold lookD; rw [List.find?_cons]; simp [e]
        rw [this] at z; cases z
    · have e' : ¬ p.1 = κ := fun z => e (h.1.symm.trans z)
      have : ∀ l, lookD (q :: l) κ = lookD l κ := fun l => by unfold lookD; rw [List.find?_cons]; simp [e]
      rw [this, valV_neg e']
      exact ⟨i1, i2⟩
def wGet (wa wb : WE) : WE := wOp rdGet wa wb
theorem de_get {wa wb : WE} {pos : Pos} (hu : X.A.units + 1 < cLine) (ha : DE X a wa) (hb : DE X b wb) (hs : NoSl b := by exact fun _ _ => rfl) : DE X (.Subscript a b pos) (wGet wa wb) :=
  de_of (pe_dget hu ha.run hb.run hs) fun σ H Q Γ Fr H0 M k h1 h2 h3 h4 => by
    refine ⟨Γ, Fr, H0, M, _, h1, h2, h3, fun v H1 H' d M' e1 w1 r1 q1 => ?_⟩
    refine ⟨Γ, Fr, H1, M', _, h1.mono e1, w1, q1, fun u H2 H'' d' M'' e2 w2 r2 q2 => ?_⟩
    unfold rdGet at q2
    split at q2
    · rename_i a
      split at q2
      · rename_i kvs e
        split at q2
        · rename_i κ ek
          split at q2
          · rename_i dd ed
            obtain ⟨_, o, ho, ck⟩ := w2.mem a _ e
            cases ck with
            | dct hk =>
              obtain ⟨v', h5, h6⟩ := (look_ok (κ := κ) hk).1 dd ed
              cases r1
              have := keyD_ok r2 ek
              subst this
              exact ⟨a, v', rfl, by rw [← h5]; exact .k ho, h4 v' H2 H'' dd M'' (e1.trans e2) w2 h6 q2⟩
          · exact q2.elim
        · exact q2.elim
      · exact q2.elim
    · exact q2.elim
/-- slices -/
abbrev WO := Env → Mem → (Option Int → Mem → Prop) → Prop
def liftO (K : PySem.W.Frag) (w : WO) : TO := fun σ H Q => ∃ Γ Fr H0 M k, Slots K H0 σ Γ ∧ Wd K Fr H0 M H ∧ w Γ M k ∧ ∀ o H0' H' M', Same H0 H0' → Wd K Fr H0' M' H' → k o M' → Q o H'
structure DO (X : Cx) (e : Option Expr) (w : WO) : Prop where
  run : PO X e (liftO X.K w)
def woNone : WO := fun _ M k => k none M
def woSome (w : WE) : WO := fun Γ M k => w Γ M fun d M1 => match d with | .int i => k (some i) M1 | _ => False
theorem do_none : DO X none woNone := ⟨⟨fun pins s σ H Q I ⟨Γ, Fr, H0, M, k, h1, h2, h3, h4⟩ => po_none.run pins s σ H Q I (h4 none H0 H M (Same.refl _) h2 h3)⟩⟩
theorem do_some {w : WE} (h : DE X e w) : DO X (some e) (woSome w) := ⟨⟨fun pins s σ H Q I ⟨Γ, Fr, H0, M, k, h1, h2, h3, h4⟩ => (po_some h.run).run pins s σ H Q I ⟨Γ, Fr, H0, M, _, h1, h2, h3, fun v H1 H' d M' e1 w1 r1 q1 => by
  split at q1
  · cases r1; exact ⟨_, rfl, h4 _ H1 H' M' e1 w1 q1⟩
  · exact q1.elim⟩⟩⟩
def cutD {α : Type} (xs : List α) (lo hi : Option Int) : List α := (xs.drop (HT.sIx xs.length 0 lo)).take (HT.sIx xs.length xs.length hi - HT.sIx xs.length 0 lo)
theorem cut_dats {H : Hp} {vs : List V} {ds : List D} (h : Dats K H vs ds) (lo hi : Option Int) : Dats K H (cutV vs lo hi) (cutD ds lo hi) := by
  unfold cutV cutD; rw [h.length]; exact (h.drop _).take _
def rdSl : D → Option Int → Option Int → Mem → KD → Prop := fun x lo hi M k => match x with
  | .tup ds => k (.tup (cutD ds lo hi)) M
  | .str z => z.length ≤ sizeLine ∧ k (.str (cutS z lo hi)) M
  | x => match asR M x with | some ds => k (.lst (cutD ds lo hi)) M | none => False
def wSl (we : WE) (wl wh : WO) : WE := fun Γ M k => we Γ M fun x M1 => wl Γ M1 fun lo M2 => wh Γ M2 fun hi M3 => rdSl x lo hi M3 k
theorem cutD_whole {α : Type} {xs : List α} {lo hi : Option Int} (h : HT.sIx xs.length 0 lo = 0 ∧ HT.sIx xs.length xs.length hi = xs.length) : cutD xs lo hi = xs := by
  unfold cutD; rw [h.1, h.2]; simp
theorem de_slice {lo hi : Option Expr} {we : WE} {wl wh : WO} {pos p2 : Pos} (he : DE X e we) (hl : DO X lo wl) (hh : DO X hi wh) : DE X (.Subscript e (.Slice lo hi none p2) pos) (wSl we wl wh) :=
  de_of (pe_slice (sl_tupA.or (sl_str.or sl_list)) he.run hl.run hh.run) fun σ H Q Γ Fr H0 M k h1 h2 h3 h4 => by
    refine ⟨Γ, Fr, H0, M, _, h1, h2, h3, fun v H1 H' d M' e1 w1 r1 q1 => ?_⟩
    refine ⟨Γ, Fr, H1, M', _, h1.mono e1, w1, q1, fun l H2 H'' M'' e2 w2 q2 => ?_⟩
    refine ⟨Γ, Fr, H2, M'', _, h1.mono (e1.trans e2), w2, q2, fun u H3 H''' M3 e3 w3 q3 => ?_⟩
    have r3 := r1.mono (e2.trans e3)
    have c3 := h4.mono ((e1.trans e2).trans e3)
    unfold rdSl at q3
    split at q3
    · cases r3 with
      | tup hs hd =>
        rename_i a vs
        refine .inl ⟨a, vs, rfl, same_t w3.ex hs, fun hw => ?_, fun _ p hp => ?_⟩
        · rw [hd.length] at hw
          rw [cutD_whole hw] at q3
          exact c3 _ H3 H''' _ M3 (Same.refl _) w3 (.tup hs hd) q3
        · exact c3 _ _ _ _ M3 (same_new (w3.fresh hp)) (w3.new hp) (.tup (.of upd_same) ((cut_dats hd _ _).mono (same_new (w3.fresh hp)))) q3
    · cases r3; exact .inr (.inl ⟨_, rfl, q3.1, c3 _ H3 H''' _ M3 (Same.refl _) w3 (.str _) q3.2⟩)
    · split at q3
      · rename_i ds ed
        obtain ⟨a, vs, rfl, hs, hd⟩ := asR_ok w3 r3 ed
        exact .inr (.inr ⟨a, vs, rfl, hs, fun p hp => c3 _ _ _ _ M3 (same_new (w3.fresh hp)) (w3.new hp) (.lst upd_same ((cut_dats hd _ _).mono (same_new (w3.fresh hp)))) q3⟩)
      · exact q3.elim
/-- a list: a cell -/
def wSlM (we : WE) (wl wh : WO) : WE := fun Γ M k => we Γ M fun x M1 => wl Γ M1 fun lo M2 => wh Γ M2 fun hi M3 => match asR M3 x with | some ds => ∀ p, M3 p = none → k (.cel p) (setM M3 p (.lst (cutD ds lo hi))) | none => False

/-! ### stores into a list -/
def rdSt (x y v : D) (M : Mem) (k : Mem → Prop) : Prop := match x, y with
  | .cel a, .int i => (match M a with
    | some (.lst ds) => (match ixN ds.length i with | some j => k (setM M a (.lst (ds.set j v))) | none => False)
    | _ => False)
  | _, _ => False
def wSub (wa wi wv : WE) : WS := fun k Γ M => wv Γ M fun v M1 => wa Γ M1 fun x M2 => wi Γ M2 fun y M3 => rdSt x y v M3 (k.nx Γ)
theorem ds_sub {o i v : Expr} {wa wi wv : WE} {pos' pos : Pos} (ho : DE X o wa) (hi : DE X i wi) (hv : DE X v wv)
    (ha : ∀ v, assign (.Subscript o i pos') X.env v = (do
      let ov ← holding [v] (eval o X.env)
      let iv ← holding [v, ov] (eval i X.env)
      standAt pos'
      holding [v, ov, iv] (setItem ov iv v)
      release [v, ov, iv] []) := by intro _; rfl) (hs : swapsWithSole [.Subscript o i pos'] v pos.line X.env = pure false := by rfl) (hw : swappedStores [.Subscript o i pos'] v X.env = pure none := by rfl)
    (h1 : (assignEach [.Subscript o i pos'] X.env).map (·.2) = [assign (.Subscript o i pos') X.env] := by rfl) : DS X (.Assign [.Subscript o i pos'] v pos) (wSub wa wi wv) :=
  ds_of (ps_asg hv.run (pg_sub ho.run hi.run set_list ha) hs hw h1) fun D σ H Γ Fr H0 M k h1 h2 h3 h4 => by
    refine ⟨Γ, Fr, H0, M, _, h1, h2, h3, fun v H1 H' d M' e1 w1 r1 q1 => ?_⟩
    refine ⟨Γ, Fr, H1, M', _, h1.mono e1, w1, q1, fun x H2 H'' dx M2 e2 w2 r2 q2 => ?_⟩
    refine ⟨Γ, Fr, H2, M2, _, h1.mono (e1.trans e2), w2, q2, fun y H3 H''' dy M3 e3 w3 r3 q3 => ?_⟩
    unfold rdSt at q3
    split at q3
    · rename_i a i
      split at q3
      · rename_i ds e
        split at q3
        · rename_i j ej
          obtain ⟨_, o, ho, ck⟩ := w3.mem a _ e
          cases ck with
          | lst hd =>
            cases r2; cases r3
            refine ⟨a, _, i, j, rfl, rfl, ho, by rw [hd.length]; exact ej, ?_⟩
            exact h4.nx σ H3 _ Γ _ ((e1.trans e2).trans e3) (h1.mono ((e1.trans e2).trans e3)) (w3.set e (.lst (hd.set (r1.mono (e2.trans e3)) j))) q3
        · exact q3.elim
      · exact q3.elim
    · exact q3.elim

/-! ### methods of lists -/
def MtD (K : PySem.W.Frag) (r : V → List V → Hp → VK → Prop) (rd : D → List D → Mem → KD → Prop) : Prop :=
  ∀ Fr H0 M H v d vs ds k Q, Wd K Fr H0 M H → Dat K H0 v d → Dats K H0 vs ds → rd d ds M k → Cont K Fr H0 k Q → r v vs H Q
def isCel (M : Mem) : D → Prop | .cel a => ∃ ds, M a = some (.lst ds) | _ => False
def wMt (rd : D → List D → Mem → KD → Prop) (wo : WE) (wa : WA) : WE := fun Γ M k => wo Γ M fun d M1 => isCel M1 d ∧ wa Γ M1 fun ds M2 => rd d ds M2 k
theorem de_mt {o : Expr} {name : Str} {id : String} {apos cpos : Pos} {wo : WE} {wa : WA} {r : V → List V → Hp → VK → Prop} {rd : D → List D → Mem → KD → Prop} (slot : Slot "list" name id) (hty : typeOf (.builtin id) = pure (.type "method_descriptor")) (hm : MtR X id r) (hd : MtD X.K r rd) (ho : DE X o wo) (ha : DA X (e :: es) wa)
    (hbase : attributeBase o name X.env (eval o X.env) = eval o X.env := by rfl)
    (hfew : ((backTo cpos (starEach (e :: es) X.env)).all (fun x => !x.1) && (backToKw cpos (keywordEach [] X.env)).all (fun x => x.1.isSome)
      && decide ((e :: es).length + ([] : List Keyword).length + (if ([] : List Keyword).isEmpty then 0 else 1) < 30)) = true := by rfl)
    (hline : (apos.endLine == cpos.line) = true := by rfl) (hs : starEach (e :: es) X.env = (false, eval e X.env) :: starEach es X.env := by rfl) (hplain : (backTo cpos (starEach es X.env)).any (·.1) = false := by rfl) :
    DE X (.Call (.Attribute o name apos) (e :: es) [] cpos) (wMt rd wo wa) :=
  de_of (pe_bm PySem.F.plainAttrs_list slot hty hm ho.run ha.run hbase hfew hline hs hplain) fun σ H Q Γ Fr H0 M k h1 h2 h3 h4 => by
    refine ⟨Γ, Fr, H0, M, _, h1, h2, h3, fun v H1 H' d M' e1 w1 r1 q1 => ?_⟩
    obtain ⟨qc, q1⟩ := q1
    refine ⟨?_, Γ, Fr, H1, M', _, h1.mono e1, w1, q1, fun vs H2 H'' ds M2 e2 w2 r2 q2 => hd Fr H2 M2 H'' v d vs ds k Q w2 (r1.mono e2) r2 q2 (h4.mono (e1.trans e2))⟩
    cases d with
    | cel a =>
      obtain ⟨ds, hc⟩ := qc
      obtain ⟨a', vs, e3, e4, e5⟩ := asL_ok (ds := ds) w1 r1 (by unfold asL; simp only [hc])
      subst e3
      exact .inl ⟨rfl, _, .of e4⟩
    | _ => exact qc.elim
theorem de_mt0 {o : Expr} {name : Str} {id : String} {apos cpos : Pos} {wo : WE} {r : V → List V → Hp → VK → Prop} {rd : D → List D → Mem → KD → Prop} (slot : Slot "list" name id) (hty : typeOf (.builtin id) = pure (.type "method_descriptor")) (hm : MtR X id r) (hd : MtD X.K r rd) (ho : DE X o wo)
    (hbase : attributeBase o name X.env (eval o X.env) = eval o X.env := by rfl) (hline : (apos.endLine == cpos.line) = true := by rfl) : DE X (.Call (.Attribute o name apos) [] [] cpos) (wMt rd wo wNil) :=
  de_of (pe_bm0 PySem.F.plainAttrs_list slot hty hm ho.run hbase hline) fun σ H Q Γ Fr H0 M k h1 h2 h3 h4 => by
    refine ⟨Γ, Fr, H0, M, _, h1, h2, h3, fun v H1 H' d M' e1 w1 r1 q1 => ?_⟩
    obtain ⟨qc, q1⟩ := q1
    refine ⟨?_, hd Fr H1 M' H' v d [] [] k Q w1 r1 .nil q1 (h4.mono e1)⟩
    cases d with
    | cel a =>
      obtain ⟨ds, hc⟩ := qc
      obtain ⟨a', vs, e3, e4, e5⟩ := asL_ok (ds := ds) w1 r1 (by unfold asL; simp only [hc])
      subst e3
      exact .inl ⟨rfl, _, .of e4⟩
    | _ => exact qc.elim
def rdAppend : D → List D → Mem → KD → Prop := fun x ds M k => match x, ds with
  | .cel a, [y] => (match M a with | some (.lst xs) => xs.length < sizeLine ∧ k .non (setM M a (.lst (xs ++ [y]))) | _ => False)
  | _, _ => False
theorem mtd_append : MtD K rAppend rdAppend := fun Fr H0 M H v d vs ds k Q w r rs h c => by
  cases d with
  | cel a =>
    match ds, rs, h with
    | [y], rs, h =>
      simp only [rdAppend] at h
      split at h
      · rename_i xs e
        obtain ⟨u, rfl, ru⟩ := dats1 rs
        obtain ⟨_, o, ho, ck⟩ := w.mem a _ e
        cases ck with
        | lst hd => cases r; exact ⟨a, _, u, rfl, rfl, ho, by rw [hd.length]; exact h.1, c _ H0 _ _ _ (Same.refl _) (w.set e (.lst (hd.append (.one ru)))) .non h.2⟩
      · exact h.elim
  | _ => exact h.elim
theorem de_append {o : Expr} {apos cpos : Pos} {wo we : WE} (ho : DE X o wo) (he : DE X e we)
    (hs : starEach [e] X.env = [(false, eval e X.env)] := by rfl)
    (hbase : attributeBase o "append" X.env (eval o X.env) = eval o X.env := by rfl)
    (hfew : ((backTo cpos (starEach [e] X.env)).all (fun x => !x.1) && (backToKw cpos (keywordEach [] X.env)).all (fun x => x.1.isSome)
      && decide ([e].length + ([] : List Keyword).length + (if ([] : List Keyword).isEmpty then 0 else 1) < 30)) = true := by rfl)
    (hline : (apos.endLine == cpos.line) = true := by rfl) (hplain : (backTo cpos (starEach [] X.env)).any (·.1) = false := by rfl) : DE X (.Call (.Attribute o "append" apos) [e] [] cpos) (wMt rdAppend wo (wCons we wNil)) :=
  de_mt PySem.F.slot_list_append PySem.F.type_list_append mt_append mtd_append ho (da_cons he da_nil hs) hbase hfew hline hs hplain
def rdPop : D → List D → Mem → KD → Prop := fun x ds M k => match x, ds with
  | .cel a, [] => (match M a with | some (.lst xs) => (match xs[xs.length - 1]? with | some y => k y (setM M a (.lst xs.dropLast)) | none => False) | _ => False)
  | _, _ => False
theorem mtd_pop : MtD K rPop rdPop := fun Fr H0 M H v d vs ds k Q w r rs h c => by
  cases d with
  | cel a =>
    match ds, rs, h with
    | [], rs, h =>
      simp only [rdPop] at h
      split at h
      · rename_i xs e
        split at h
        · rename_i y ey
          cases rs
          obtain ⟨_, o, ho, ck⟩ := w.mem a _ e
          cases ck with
          | lst hd =>
            cases r
            obtain ⟨u, e1, ru⟩ := hd.get ey
            exact ⟨a, _, u, rfl, rfl, ho, by rw [hd.length]; exact e1, c _ H0 _ _ _ (Same.refl _) (w.set e (.lst hd.dropLast)) ru h⟩
        · exact h.elim
      · exact h.elim
  | _ => exact h.elim
theorem de_pop {o : Expr} {apos cpos : Pos} {wo : WE} (ho : DE X o wo) (hbase : attributeBase o "pop" X.env (eval o X.env) = eval o X.env := by rfl) (hline : (apos.endLine == cpos.line) = true := by rfl) : DE X (.Call (.Attribute o "pop" apos) [] [] cpos) (wMt rdPop wo wNil) :=
  de_mt0 PySem.F.slot_list_pop PySem.F.type_list_pop mt_pop mtd_pop ho hbase hline
def rdPopAt : D → List D → Mem → KD → Prop := fun x ds M k => match x, ds with
  | .cel a, [.int i] => (match M a with
    | some (.lst xs) => (-(2 ^ 63) ≤ i ∧ i < 2 ^ 63) ∧ (match seqIndex? i xs.length with
      | some j => (match xs[j]? with | some y => k y (setM M a (.lst (xs.eraseIdx j))) | none => False)
      | none => False)
    | _ => False)
  | _, _ => False
theorem mtd_popAt : MtD K rPopAt rdPopAt := fun Fr H0 M H v d vs ds k Q w r rs h c => by
  cases d with
  | cel a =>
    match ds, rs, h with
    | [.int i], rs, h =>
      simp only [rdPopAt] at h
      split at h
      · rename_i xs e
        obtain ⟨hb, h⟩ := h
        split at h
        · rename_i j ej
          split at h
          · rename_i y ey
            obtain ⟨u, rfl, ru⟩ := dats1 rs
            cases ru
            obtain ⟨_, o, ho, ck⟩ := w.mem a _ e
            cases ck with
            | lst hd =>
              cases r
              obtain ⟨u, e1, ru⟩ := hd.get ey
              exact ⟨a, _, i, j, u, rfl, rfl, ho, hb.1, hb.2, by rw [hd.length]; exact ej, e1, c _ H0 _ _ _ (Same.refl _) (w.set e (.lst (hd.eraseIdx j))) ru h⟩
          · exact h.elim
        · exact h.elim
      · exact h.elim
  | _ => exact h.elim
theorem de_popAt {o : Expr} {apos cpos : Pos} {wo we : WE} (ho : DE X o wo) (he : DE X e we)
    (hs : starEach [e] X.env = [(false, eval e X.env)] := by rfl)
    (hbase : attributeBase o "pop" X.env (eval o X.env) = eval o X.env := by rfl)
    (hfew : ((backTo cpos (starEach [e] X.env)).all (fun x => !x.1) && (backToKw cpos (keywordEach [] X.env)).all (fun x => x.1.isSome)
      && decide ([e].length + ([] : List Keyword).length + (if ([] : List Keyword).isEmpty then 0 else 1) < 30)) = true := by rfl)
    (hline : (apos.endLine == cpos.line) = true := by rfl) (hplain : (backTo cpos (starEach [] X.env)).any (·.1) = false := by rfl) : DE X (.Call (.Attribute o "pop" apos) [e] [] cpos) (wMt rdPopAt wo (wCons we wNil)) :=
  de_mt PySem.F.slot_list_pop PySem.F.type_list_pop mt_popAt mtd_popAt ho (da_cons he da_nil hs) hbase hfew hline hs hplain
/-- sep.join(texts) -/
def strsD : List D → Option (List Str)
  | [] => some []
  | .str s :: ds => match strsD ds with | some l => some (s :: l) | none => none
  | _ => none
theorem strsD_ok {H : Hp} : ∀ {ds : List D} {vs : List V} {l : List Str}, Dats K H vs ds → strsD ds = some l → vs = l.map V.str
  | [], _, _, .nil, e => by cases e; rfl
  | .str s :: ds, _, _, .cons h hs, e => by
    unfold strsD at e
    split at e
    · rename_i l q; cases e; cases h; rw [strsD_ok hs q]; rfl
    · cases e
  | .non :: _, _, _, _, e => by cases e
  | .bl _ :: _, _, _, _, e => by cases e
  | .int _ :: _, _, _, _, e => by cases e
  | .tup _ :: _, _, _, _, e => by cases e
  | .lst _ :: _, _, _, _, e => by cases e
  | .scr _ :: _, _, _, _, e => by cases e
  | .cel _ :: _, _, _, _, e => by cases e
  | .ty _ :: _, _, _, _, e => by cases e
def wJoin (wo we : WE) : WE := fun Γ M k => wo Γ M fun x M1 => match x with
  | .str a => we Γ M1 fun y M2 => (match seqD M2 y with
    | some ds => (match strsD ds with | some l => (l.map (·.length)).sum + l.length * a.length ≤ 16777216 ∧ k (.str (Txt.join a l)) M2 | none => False)
    | none => False)
  | _ => False
theorem de_join {o : Expr} {wo we : WE} {apos pos : Pos} (ho : DE X o wo) (he : DE X e we) (hs : starEach [e] X.env = [(false, eval e X.env)] := by rfl) (hbase : attributeBase o "join" X.env (eval o X.env) = eval o X.env := by rfl) (hline : (apos.endLine == pos.line) = true := by rfl) :
    DE X (.Call (.Attribute o "join" apos) [e] [] pos) (wJoin wo we) :=
  de_of (pe_join ho.run he.run hs hbase hline) fun σ H Q Γ Fr H0 M k h1 h2 h3 h4 => by
    refine ⟨Γ, Fr, H0, M, _, h1, h2, h3, fun v H1 H' d M' e1 w1 r1 q1 => ?_⟩
    split at q1
    · rename_i a
      cases r1
      refine ⟨⟨a, rfl⟩, Γ, Fr, H1, M', _, h1.mono e1, w1, q1, fun y H2 H'' dy M2 e2 w2 r2 q2 => ?_⟩
      split at q2
      · rename_i ds ed
        split at q2
        · rename_i l el
          obtain ⟨p, vs, rfl, hs, hd⟩ := seqD_ok w2 r2 ed
          have := strsD_ok hd el
          subst this
          exact ⟨a, p, l, rfl, rfl, hs, q2.1, h4 _ H2 H'' _ M2 (e1.trans e2) w2 (.str _) q2.2⟩
        · exact q2.elim
      · exact q2.elim
    · exact q1.elim

/-! ### built-ins -/
def rdLen : FD := fun ds M k => match ds with
  | [.str z] => z.length ≤ sizeLine ∧ k (.int z.length) M
  | [x] => (match seqD M x with | some xs => k (.int xs.length) M | none => False)
  | _ => False
theorem one_of {vs : List V} {ds : List D} {H : Hp} (r : Dats K H vs ds) {d : D} (e : ds = [d]) : ∃ v, vs = [v] ∧ Dat K H v d := by subst e; exact dats1 r
theorem calld_len : CallD K (fun xs H Q => (∃ z, xs = [V.str z] ∧ z.length ≤ sizeLine ∧ Q (.int z.length) H) ∨ ∃ p ys, xs = [V.ref p] ∧ (SqL K H p ys ∨ SqT K H p ys) ∧ Q (.int ys.length) H) rdLen := fun Fr H0 M H vs ds k Q w r h c => by
  unfold rdLen at h
  split at h
  · obtain ⟨v, rfl, rv⟩ := dats1 r
    cases rv
    exact .inl ⟨_, rfl, h.1, c _ H0 H _ M (Same.refl _) w (.int _) h.2⟩
  · obtain ⟨v, rfl, rv⟩ := dats1 r
    split at h
    · rename_i xs e
      obtain ⟨a, ws, rfl, hs, hd⟩ := seqD_ok w rv e
      exact .inr ⟨a, ws, rfl, hs, by rw [hd.length]; exact c _ H0 H _ M (Same.refl _) w (.int _) h⟩
    · exact h.elim
  · exact h.elim
theorem de_len {we : WE} {p pos : Pos} (hm : X.mg "len" = none) (he : DE X e we) (hs : starEach [e] X.env = (false, eval e X.env) :: starEach [] X.env := by rfl) (hg : Gl X "len" := by rfl) (hpl : (backTo pos (starEach [] X.env)).any (·.1) = false := by rfl) : DE X (.Call (.Name "len" p) [e] [] pos) (wCall rdLen (wCons we wNil)) :=
  de_callB (call_len_str.or call_len_seq) calld_len hm PySem.boot_len (da_cons he da_nil hs) hg (by decide) (by decide) hs hpl
/-- type(x) -/
def tyD (M : Mem) : D → Option String
  | .non => some "NoneType"
  | .bl _ => some "bool"
  | .int _ => some "int"
  | .str _ => some "str"
  | .tup _ => some "tuple"
  | .lst _ => some "list"
  | .scr _ => some "list"
  | .cel a => (match M a with | some (.lst _) => some "list" | some (.dct _) => some "dict" | none => none)
  | .ty _ => none
theorem tyB_ok {Fr H0 H : Hp} {M : Mem} {v : V} {d : D} {T : String} (w : Wd K Fr H0 M H) (r : Dat K H0 v d) (e : tyD M d = some T) : TyB K H v T := by
  cases r with
  | cel a =>
    unfold tyD at e
    simp only at e
    split at e
    · rename_i ds q
      cases e
      obtain ⟨_, o, ho, ck⟩ := w.mem a _ q
      cases ck with | lst hd => exact .lst (.of ho)
    · rename_i kvs q
      cases e
      obtain ⟨_, o, ho, ck⟩ := w.mem a _ q
      cases ck with | dct hd => exact .dK ho
    · cases e
  | non => cases e; exact .non
  | bl b => cases e; exact .bl b
  | int b => cases e; exact .int b
  | str b => cases e; exact .str b
  | tup hs hd => cases e; exact .tup (same_t w.ex hs)
  | lst hs hd => cases e; exact .lst (.of (w.ex _ _ hs))
  | scr hs hd => cases e; exact .lst (same_l w.ex hs)
  | ty n => cases e
def rdType : FD := fun ds M k => match ds with | [x] => (match tyD M x with | some T => k (.ty T) M | none => False) | _ => False
theorem calld_type : CallD K (rTyp K) rdType := fun Fr H0 M H vs ds k Q w r h c => by
  unfold rdType at h
  split at h
  · obtain ⟨v, rfl, rv⟩ := dats1 r
    split at h
    · rename_i T e
      exact ⟨v, T, rfl, tyB_ok w rv e, c _ H0 H _ M (Same.refl _) w (.ty T) h⟩
    · exact h.elim
  · exact h.elim
theorem de_type {we : WE} {p pos : Pos} (hm : X.mg "type" = none) (he : DE X e we) (hs : starEach [e] X.env = (false, eval e X.env) :: starEach [] X.env := by rfl) (hg : Gl X "type" := by rfl) (hpl : (backTo pos (starEach [] X.env)).any (·.1) = false := by rfl) : DE X (.Call (.Name "type" p) [e] [] pos) (wCall rdType (wCons we wNil)) :=
  de_callTy call_type1 calld_type hm PyProof.Rows.boot_type (da_cons he da_nil hs) hg (by decide) (by decide) hs hpl
/-- isinstance(x, T), T a built-in class -/
def isiB (a b : String) : Bool := a == b || (a == "bool" && b == "int")
def rdIsi : FD := fun ds M k => match ds with
  | [x, .ty T] => (match tyD M x with | some S => (["bool", "int", "str", "tuple", "list"].contains T = true ∧ k (.bl (isiB S T)) M) | none => False)
  | _ => False
end
end DL

set_option autoImplicit false
set_option maxRecDepth 100000
namespace DL
open PySem PySem.Spec PyProof.Rows L2
open Sem (wp)
set_option maxHeartbeats 2000000
theorem enum_new1 {v : Value} {o : Obj} {C : Heap → Prop} (B : Begins v o C) :
    Meets (Builtin.«enumerate.__new__» ⟨[.type "enumerate", v], []⟩) (fun _ R s => C s.heap ∧
      R (.ok (.ret (.ref (s.heap.push o).objs.size)))
        { s with heap := (s.heap.push o).push { cls := .type "enumerate", data := .fields #[.none, .bool false, .ref s.heap.objs.size, rawInt 0, .none, .none] } }) :=
  .of_wp fun prog w A R s h => by
    obtain ⟨hp, g, d, tk, os⟩ := s
    obtain ⟨h1, h⟩ := h
    have hsub := sub_enumerate
    have q1 : ∀ {A' : Around} {E : Value → Shared → Prop} {Q : Value → Shared → Prop}, Q (.ref hp.objs.size) ⟨hp.push o, g, d, tk, os⟩ →
        wpAny (model prog w) A' (pyIter v) Q E ⟨hp, g, d, tk, os⟩ := fun q => B.iter prog w _ _ ⟨hp, g, d, tk, os⟩ _ h1 q
    wp_walk using q1
    refine wpAny_stack_any fun st => wpAny_pure ?_
    split
    · rename_i c _ _ _ _ _
      cases (c == Value.type "enumerate") <;> (wp_walk using q1; exact ⟨_, rfl, h⟩)
    · (wp_walk using q1; exact ⟨_, rfl, h⟩)
section
variable {prog : Program} {w : World} {A : Around} {E : Value → Shared → Prop} {s : Shared}
theorem enum_of {v : Value} {o : Obj} {C : Heap → Prop} {Q : Value → Shared → Prop} (B : Begins v o C) (h1 : C s.heap)
    (h : ∀ h', IsEnum h' (s.heap.objs.size + 1) s.heap.objs.size 0 .none → h'.get? s.heap.objs.size = some o → h'.objs.size = s.heap.objs.size + 2 →
      (∀ b u, s.heap.get? b = some u → h'.get? b = some u) → Q (.ref (s.heap.objs.size + 1)) { s with heap := h' }) :
    wpAny (model prog w) A (call (.type "enumerate") [v]) Q E s := by
  refine callType_new F.called_enumerate (by decide) (F.typeCall_enumerate_1 _) (F.newCall_enumerate_1 _) (fun ob => F.args_object_init_2 ob _) F.entry_enumerate_new (enum_new1 B) ⟨h1, ?_⟩
  have hz : (s.heap.push o).objs.size = s.heap.objs.size + 1 := Heap.size_push ..
  show _ ∧ _
  rw [hz]
  have he : IsEnum ((s.heap.push o).push { cls := .type "enumerate", data := .fields #[.none, .bool false, .ref s.heap.objs.size, rawInt 0, .none, .none] }) (s.heap.objs.size + 1) s.heap.objs.size 0 .none := by
    have q := Heap.get?_push_size (s.heap.push o) (o := { cls := .type "enumerate", data := .fields #[.none, .bool false, .ref s.heap.objs.size, rawInt 0, .none, .none] }) rfl
    rw [hz] at q
    exact q
  exact ⟨⟨_, he, rfl⟩, h _ he (Heap.get?_push_of_some _ (Heap.get?_push_size _ B.free)) (by rw [Heap.size_push, hz]) fun b u x => Heap.get?_push_of_some _ (Heap.get?_push_of_some _ x)⟩
end
/-- the items of the tuple at a, each in a new pair with its place -/
def ItE (K : PySem.W.Frag) (a : Addr) : It where
  go := fun i H => ∃ (xs : List V) (x : V), SqT K H a xs ∧ xs[i]? = some x
  yld := fun i H v H' => ∃ T x, v = V.ref T ∧ H T = none ∧ H' = upd H T (.tup [.int (i : Nat), x]) ∧ ∀ xs, SqT K H a xs → xs[i]? = some x
  stop := fun i H => ∃ xs : List V, SqT K H a xs ∧ xs.length = i
theorem turnE {P : Program} {w : World} {K : PySem.W.Frag} {elts : List Expr} {kk : Nat} {tpos : Pos} (a e it : Addr) :
    Turn P w K (.Tuple elts kk tpos) (ItE K a) [e, it] e (fun i h => (∃ old, IsEnum h e it ((i : Nat) : Int) old) ∧ h.IsTupleIter it a i ∧ e ≠ it ∧ a ≠ it ∧ a ≠ e) where
  mem := List.mem_cons_self
  obj := fun i h st b hb => by
    obtain ⟨⟨old, he⟩, ⟨o, ho, hc, hd⟩, _⟩ := st
    rcases (by simpa using hb : b = e ∨ b = it) with z | z
    · subst z; exact ⟨_, he, fun v q => nomatch q⟩
    · subst z; exact ⟨o, ho, fun v q => (by rw [hd] at q; cases q)⟩
  keep := fun i h h' ⟨⟨old, he⟩, hi, hne⟩ k => ⟨⟨old, k e List.mem_cons_self _ he⟩, hi.at fun o q => k it (by simp) o q, hne⟩
  item := by
    intro X hP hw hK hc i pins s σ H E I hf st hg
    subst hP hw hK
    obtain ⟨⟨old, he⟩, hit, hne, ha1, ha2⟩ := st
    obtain ⟨xs, x, hq, hx⟩ := hg
    obtain ⟨its, rv, p, hz⟩ := I.tuple hq
    have hl := rv.length
    have hi : i < its.toArray.size := by
      have q := (List.getElem?_eq_some_iff.mp hx).1
      rw [List.size_toArray]; omega
    have hel : e < s.heap.objs.size := Heap.lt_size he
    have hil : it < s.heap.objs.size := (by obtain ⟨_, q, _⟩ := hit; exact Heap.lt_size q)
    have D := Draws.tuple (prog := X.prog) (w := X.w) (A := X.A.in1) (I.ok.hd hc) it a ha1 its.toArray
    refine wpAny_pyNext_enum_itemD D he ⟨hit, (show s.heap.IsTuple a its.toArray from p)⟩ hi hne (by simp [hne]; exact fun z => ha2 z.symm) fun u h' tk hu ho hit' hT hsz hk => ?_
    have ru : RelV x u := by
      obtain ⟨u', q1, q2⟩ := rv.get hx
      have q3 : its[i]? = some u := by simpa using hu
      rw [q1] at q3; cases q3; exact q2
    refine ⟨_, rfl, wpAny_letOwnedTupleGo_enum (s := { s with heap := h', toks := tk + 1 }) ho fun h'' he' sb => ?_⟩
    have hT2 : h''.get? s.heap.objs.size = some { cls := .type "tuple", data := .seq #[.int i tk, u] } := (sb.2 _ (Nat.ne_of_gt hel)).trans hT
    have new : ObjOk X.prog X.w (upd H s.heap.objs.size (.tup [.int (i : Nat), x])) h'' s.heap.objs.size (.tup [.int (i : Nat), x]) :=
      ⟨(by show 2 ≤ sizeLine; decide), [.int i tk, u], .cons ⟨_, rfl⟩ (.cons ru .nil), ⟨_, hT2, rfl, _, rfl⟩⟩
    have I1 : Inv X pins σ (upd H s.heap.objs.size (.tup [.int (i : Nat), x])) { s with heap := h'', toks := tk + 1 } :=
      I.turnedNew (t' := tk + 1) (ch := [e, it]) (fun b ob hb q => (sb.2 b (fun z => hb (by simp [z]))).trans (hk b ob (fun z => hb (by simp [z])) (fun z => hb (by simp [z])) q)) hf (Nat.le_refl _) new
    refine ⟨.ref s.heap.objs.size, _, I1, rfl, ⟨_, x, rfl, I.hok.fresh (Nat.le_refl _), rfl, fun ys hy => (by rw [I.tuple_inj hy hq]; exact hx)⟩, ⟨⟨u, ?_⟩, hit'.1.at fun o q => (sb.2 it (Ne.symm hne)).trans q, hne, ha1, ha2⟩, fun b hb => ?_⟩
    · have e1 : ((i + 1 : Nat) : Int) = (i : Int) + 1 := by omega
      rw [e1]; exact he'
    · have hb' : b < s.heap.objs.size := by
        rcases (by simpa using hb : b = e ∨ b = it) with z | z
        · rw [z]; exact hel
        · rw [z]; exact hil
      rw [upd_ne (Nat.ne_of_lt hb')]
      exact (hf b hb).1
  done := by
    intro X hP hw hK hc i pins s σ H E I hf st hg
    subst hP hw hK
    obtain ⟨⟨old, he⟩, hit, hne, ha1, ha2⟩ := st
    obtain ⟨xs, hq, hx⟩ := hg
    obtain ⟨its, rv, p, hz⟩ := I.tuple hq
    obtain ⟨f0, f1, f2, f3, f4, f5⟩ := hf it (by simp)
    have hl := rv.length
    have hn : its.toArray.size = i := (by rw [List.size_toArray]; omega)
    have D := Draws.tuple (prog := X.prog) (w := X.w) (A := X.A.in1) (I.ok.hd hc) it a ha1 its.toArray
    exact wpAny_pyNext_enum_endD D he ⟨(by rw [hn]; exact hit), (show s.heap.IsTuple a its.toArray from p)⟩ fun h' eb => ⟨rfl, I.turned (t' := s.toks) (fun b o hb q => eb b o hb q) f0 f1 f3 f4 f5⟩
  self := fun A i s Q E ⟨⟨_, he⟩, _⟩ h => wpAny_pyIter_enum he h
def iEnumT (K : PySem.W.Frag) (ta : TA) : TI := fun σ H R => ta σ H fun vs H1 => ∃ a xs, vs = [.ref a] ∧ SqT K H1 a xs ∧ R (ItE K a) H1
theorem pi_enumT {X : Cx} {e : Expr} {ta : TA} {p pos tpos : Pos} {elts : List Expr} {kk : Nat} (hg : Gl X "enumerate") (hm : X.mg "enumerate" = none) (ha : PA X [e] ta) (hs : starEach [e] X.env = [(false, eval e X.env)]) :
    PI X (.Tuple elts kk tpos) (.Call (.Name "enumerate" p) [e] [] pos) (iEnumT X.K ta) := by
  refine ⟨fun pins s σ H R I h => Call_ (ld_blt I hg hm boot_enumerate (PyProof.Rows.callWith_type1 (thn (ha.run pos pins s σ H _ I h) fun us s1 ⟨vs, H1, I1, r1, q1⟩ => ?_) hs rfl))⟩
  obtain ⟨a, xs, rfl, hq, q⟩ := q1
  obtain ⟨u, rfl, ru⟩ := vals1 r1
  cases ru
  obtain ⟨its, rv, p', hz⟩ := I1.tuple hq
  have pt : s1.heap.IsTuple a its.toArray := p'
  have al : a < s1.heap.objs.size := p'.lt
  refine enum_of (begins_tuple a its.toArray) pt fun h' he hit hsz hk => wpAny_pyIter_enum he ?_
  refine ⟨s1.heap.objs.size + 1, [s1.heap.objs.size + 1, s1.heap.objs.size], _, _, H1, rfl, I1.kept (t' := s1.toks) hk, turnE a _ _, ⟨⟨.none, he⟩, ⟨_, hit, rfl, rfl⟩, Nat.succ_ne_self _, Nat.ne_of_lt al, Nat.ne_of_lt (Nat.lt_succ_of_lt al)⟩, fun b hb => ?_, q⟩
  have hle : s1.heap.objs.size ≤ b := (by
    rcases (by simpa using hb : b = s1.heap.objs.size + 1 ∨ b = s1.heap.objs.size) with z | z <;> (rw [z]; first | exact Nat.le_refl _ | exact Nat.le_succ _))
  exact I1.fpOk hle (I1.hok.fresh hle)
/-- D-level: enumerate of a tuple or a list -/
def pairsFrom (ds : List D) : List D := ds.zipIdx.map fun (d, i) => .tup [.int (i : Nat), d]
theorem pairsFrom_get {ds : List D} {i : Nat} {d : D} (h : (pairsFrom ds)[i]? = some d) : ∃ x, ds[i]? = some x ∧ d = .tup [.int (i : Nat), x] := by
  unfold pairsFrom at h
  rw [List.getElem?_map, List.getElem?_zipIdx] at h
  cases q : ds[i]? with
  | none => rw [q] at h; cases h
  | some x => rw [q] at h; cases h; exact ⟨x, rfl, by simp⟩
theorem pairsFrom_len (ds : List D) : (pairsFrom ds).length = ds.length := by simp [pairsFrom]
def wiEnT (wa : WA) : WI := fun Γ M k => wa Γ M fun ds M1 => match ds with | [.tup ds] => k (pairsFrom ds) gAny M1 | _ => False
def wiEnL (wa : WA) : WI := fun Γ M k => wa Γ M fun ds M1 => match ds with | [d] => (match asR M1 d with | some ds => k (pairsFrom ds) (gAt d ds) M1 | none => False) | _ => False
theorem new_pair {K : PySem.W.Frag} {Fr H0 H : Hp} {M : Mem} {T : Addr} {x y : V} {c d : D} (w : Wd K Fr H0 M H) (h : H T = none) (rx : Dat K H0 x c) (ry : Dat K H0 y d) :
    ∃ H1, Same H0 H1 ∧ Wd K Fr H1 M (upd H T (.tup [x, y])) ∧ Dat K H1 (.ref T) (.tup [c, d]) :=
  ⟨_, same_new (w.fresh h), w.new h, .tup (.of upd_same) (.cons (rx.mono (same_new (w.fresh h))) (.cons (ry.mono (same_new (w.fresh h))) .nil))⟩
theorem walks_enT {K : PySem.W.Frag} {H0 : Hp} {a : Addr} {vs : List V} {ds : List D} (hs : SqT K H0 a vs) (hd : Dats K H0 vs ds) : Walks K (ItE K a) H0 (pairsFrom ds) gAny := fun Fr H0' M H e w g => by
  have hs' := same_t (e.trans w.ex) hs
  have hl : vs.length = (pairsFrom ds).length := by rw [pairsFrom_len, hd.length]
  refine ⟨fun i hi => ?_, ⟨vs, hs', hl⟩, fun i x H' d hd' y => ?_⟩
  · have h2 : i < vs.length := by omega
    exact ⟨vs, vs[i], hs', by simp [h2]⟩
  · obtain ⟨T, v, rfl, hT, rfl, hy⟩ := y
    obtain ⟨d', e2, rfl⟩ := pairsFrom_get hd'
    obtain ⟨v', e3, r3⟩ := hd.get e2
    have e4 := hy vs hs'
    rw [e3] at e4; cases e4
    exact new_pair w hT (.int _) (r3.mono e)
theorem walks_enL {K : PySem.W.Frag} {H0 : Hp} {a : Addr} {d : D} {ds : List D} (r : Dat K H0 (.ref a) d) : Walks K (Ite K a) H0 (pairsFrom ds) (gAt d ds) := fun Fr H0' M H e w g => by
  obtain ⟨a', vs, ea, hs, hd⟩ := asR_ok w (r.mono e) g
  cases ea
  have hl : vs.length = (pairsFrom ds).length := by rw [pairsFrom_len, hd.length]
  refine ⟨fun i hi => ?_, ⟨vs, hs, by omega⟩, fun i x H' d hd' y => ?_⟩
  · have h2 : i < vs.length := by omega
    exact ⟨vs, vs[i], hs, by simp [h2]⟩
  · obtain ⟨T, v, rfl, hT, rfl, hy⟩ := y
    obtain ⟨d', e2, rfl⟩ := pairsFrom_get hd'
    obtain ⟨v', e3, r3⟩ := hd.get e2
    have e4 := hy vs hs
    rw [e3] at e4; cases e4
    exact new_pair w hT (.int _) r3
section
variable {X : Cx} {e e2 : Expr} {wa : WA} {p pos tpos : Pos} {elts : List Expr} {kk : Nat}
theorem di_enumT (hm : X.mg "enumerate" = none) (ha : DA X [e] wa) (hg : Gl X "enumerate" := by rfl) (hs : starEach [e] X.env = [(false, eval e X.env)] := by rfl) :
    DI X (.Tuple elts kk tpos) (.Call (.Name "enumerate" p) [e] [] pos) (wiEnT wa) :=
  ⟨_, pi_enumT hg hm ha.run hs, fun σ H Γ Fr H0 M k R h1 h2 h3 h4 => ⟨Γ, Fr, H0, M, _, h1, h2, h3, fun vs H1 H' ds M' e1 w1 r1 q1 => by
    split at q1
    · obtain ⟨v, rfl, rv⟩ := dats1 r1
      cases rv with
      | tup hs hd => exact ⟨_, _, rfl, same_t w1.ex hs, h4 _ _ _ H' H1 M' e1 w1 q1 (walks_enT hs hd)⟩
    · exact q1.elim⟩⟩
theorem di_enumL (hm : X.mg "enumerate" = none) (ha : DA X [e] wa) (hg : Gl X "enumerate" := by rfl) (hs : starEach [e] X.env = [(false, eval e X.env)] := by rfl) :
    DI X (.Tuple elts kk tpos) (.Call (.Name "enumerate" p) [e] [] pos) (wiEnL wa) :=
  ⟨_, pi_enum hg hm ha.run hs, fun σ H Γ Fr H0 M k R h1 h2 h3 h4 => ⟨Γ, Fr, H0, M, _, h1, h2, h3, fun vs H1 H' ds M' e1 w1 r1 q1 => by
    split at q1
    · obtain ⟨v, rfl, rv⟩ := dats1 r1
      split at q1
      · rename_i ds ed
        obtain ⟨a, ws, rfl, hs, hd⟩ := asR_ok w1 rv ed
        exact ⟨_, _, rfl, hs, h4 _ _ _ H' H1 M' e1 w1 q1 (walks_enL rv)⟩
      · exact q1.elim
    · exact q1.elim⟩⟩
/-- zip of two tuples, of two lists -/
def zipD (xs ys : List D) : List D := List.zipWith (fun x y => .tup [x, y]) xs ys
theorem zipD_get : ∀ {xs ys : List D} {i : Nat} {d : D}, (zipD xs ys)[i]? = some d → ∃ x y, xs[i]? = some x ∧ ys[i]? = some y ∧ d = .tup [x, y]
  | x :: xs, y :: ys, 0, d, h => by simp [zipD] at h; exact ⟨x, y, rfl, rfl, h.symm⟩
  | x :: xs, y :: ys, i + 1, d, h => by
    obtain ⟨a, b, h1, h2, h3⟩ := zipD_get (xs := xs) (ys := ys) (i := i) (d := d) (by simpa [zipD] using h)
    exact ⟨a, b, by simpa using h1, by simpa using h2, h3⟩
  | [], _, _, _, h => by simp [zipD] at h
  | _ :: _, [], _, _, h => by simp [zipD] at h
theorem zipD_len (xs ys : List D) : (zipD xs ys).length = min xs.length ys.length := by simp [zipD]
def wiZip (wa : WA) : WI := fun Γ M k => wa Γ M fun ds M1 => match ds with
  | [.tup xs, .tup ys] => k (zipD xs ys) gAny M1
  | [x, y] => (match asR M1 x, asR M1 y with | some xs, some ys => k (zipD xs ys) (fun M => gAt x xs M ∧ gAt y ys M) M1 | _, _ => False)
  | _ => False
theorem walks_zipT {K : PySem.W.Frag} {H0 : Hp} {a b : Addr} {vs us : List V} {ds es : List D} (hs : SqT K H0 a vs) (hd : Dats K H0 vs ds) (hs2 : SqT K H0 b us) (hd2 : Dats K H0 us es) : Walks K (RZ.ItzT K a b) H0 (zipD ds es) gAny := fun Fr H0' M H e w g => by
  have k1 := same_t (e.trans w.ex) hs
  have k2 := same_t (e.trans w.ex) hs2
  have l1 := hd.length
  have l2 := hd2.length
  have hl := zipD_len ds es
  refine ⟨fun i hi => ?_, ⟨vs, us, k1, k2, by omega⟩, fun i x H' d hd' y => ?_⟩
  · have q1 : i < vs.length := by omega
    have q2 : i < us.length := by omega
    exact ⟨vs, us, vs[i], us[i], k1, k2, by simp [q1], by simp [q2]⟩
  · obtain ⟨T, v, u, rfl, hT, rfl, hy, hy2⟩ := y
    obtain ⟨d1, d2, e2, e3, rfl⟩ := zipD_get hd'
    obtain ⟨v', e4, r4⟩ := hd.get e2
    obtain ⟨u', e5, r5⟩ := hd2.get e3
    have e6 := hy vs k1
    have e7 := hy2 us k2
    rw [e4] at e6; cases e6
    rw [e5] at e7; cases e7
    exact new_pair w hT (r4.mono e) (r5.mono e)
theorem walks_zipL {K : PySem.W.Frag} {H0 : Hp} {a b : Addr} {x y : D} {ds es : List D} (r1 : Dat K H0 (.ref a) x) (r2 : Dat K H0 (.ref b) y) : Walks K (Itz K a b) H0 (zipD ds es) (fun M => gAt x ds M ∧ gAt y es M) := fun Fr H0' M H e w g => by
  obtain ⟨a', vs, ea, k1, hd⟩ := asR_ok w (r1.mono e) g.1
  obtain ⟨b', us, eb, k2, hd2⟩ := asR_ok w (r2.mono e) g.2
  cases ea
  cases eb
  have l1 := hd.length
  have l2 := hd2.length
  have hl := zipD_len ds es
  refine ⟨fun i hi => ?_, ⟨vs, us, k1, k2, by omega⟩, fun i x H' d hd' y => ?_⟩
  · have q1 : i < vs.length := by omega
    have q2 : i < us.length := by omega
    exact ⟨vs, us, vs[i], us[i], k1, k2, by simp [q1], by simp [q2]⟩
  · obtain ⟨T, v, u, rfl, hT, rfl, hy, hy2⟩ := y
    obtain ⟨d1, d2, e2, e3, rfl⟩ := zipD_get hd'
    obtain ⟨v', e4, r4⟩ := hd.get e2
    obtain ⟨u', e5, r5⟩ := hd2.get e3
    have e6 := hy vs k1
    have e7 := hy2 us k2
    rw [e4] at e6; cases e6
    rw [e5] at e7; cases e7
    exact new_pair w hT r4 r5
theorem di_zip (hm : X.mg "zip" = none) (ha : DA X [e, e2] wa) (hg : Gl X "zip" := by rfl) (hs : starEach [e, e2] X.env = (false, eval e X.env) :: starEach [e2] X.env := by rfl) (hpl : (backTo pos (starEach [e2] X.env)).any (·.1) = false := by rfl) :
    DI X (.Tuple elts kk tpos) (.Call (.Name "zip" p) [e, e2] [] pos) (wiZip wa) :=
  ⟨_, RZ.pi_zipA hg hm ha.run hs hpl, fun σ H Γ Fr H0 M k R h1 h2 h3 h4 => ⟨Γ, Fr, H0, M, _, h1, h2, h3, fun vs H1 H' ds M' e1 w1 r1 q1 => by
    split at q1
    · obtain ⟨v, u, rfl, rv, ru⟩ := dats2 r1
      cases rv with
      | tup hs hd =>
        cases ru with
        | tup hs2 hd2 => exact ⟨_, _, _, _, rfl, .inr ⟨same_t w1.ex hs, same_t w1.ex hs2, h4 _ _ _ H' H1 M' e1 w1 q1 (walks_zipT hs hd hs2 hd2)⟩⟩
    · obtain ⟨v, u, rfl, rv, ru⟩ := dats2 r1
      split at q1
      · rename_i xs ys ex ey
        obtain ⟨a, ws, rfl, hs, hd⟩ := asR_ok w1 rv ex
        obtain ⟨b, zs, rfl, hs2, hd2⟩ := asR_ok w1 ru ey
        exact ⟨_, _, _, _, rfl, .inl ⟨hs, hs2, h4 _ _ _ H' H1 M' e1 w1 q1 (walks_zipL rv ru)⟩⟩
      · exact q1.elim
    · exact q1.elim⟩⟩

end
end DL

set_option autoImplicit false
set_option maxRecDepth 100000
namespace DL
open PySem PySem.Spec PyProof.Rows L2
set_option maxHeartbeats 2000000
/-! ### more built-ins -/
def rdIsiA : FD := fun ds M k => match ds with
    | [x, .ty T] => (match tyD M x with | some S => (["bool", "int", "str", "tuple"].contains T = true ∧ (∀ l, x ≠ .scr l) ∧ k (.bl (isiB S T)) M) | none => False)
    | _ => False
theorem calld_isi {K : PySem.W.Frag} : CallD K (rIsi K) rdIsiA := fun Fr H0 M H vs ds k Q w r h c => by
  unfold rdIsiA at h
  split at h
  · obtain ⟨v, u, rfl, rv, ru⟩ := dats2 r
    cases ru
    split at h
    · rename_i T _ S e
      obtain ⟨hT, hx, h⟩ := h
      have kb : ∀ S ∈ ["NoneType", "bool", "int", "str", "tuple", "list", "dict"], ∀ T ∈ ["bool", "int", "str", "tuple"], kitB S T = some (isiB S T) := by decide +kernel
      have hS : S ∈ ["NoneType", "bool", "int", "str", "tuple", "list", "dict"] ∧ TyX K H v (.type S) := by
        cases rv with
        | non => cases e; exact ⟨by decide, .base .non⟩
        | bl b => cases e; exact ⟨by decide, .base (.bl b)⟩
        | int b => cases e; exact ⟨by decide, .base (.int b)⟩
        | str b => cases e; exact ⟨by decide, .base (.str b)⟩
        | tup hs hd =>
          cases e
          refine ⟨by decide, ?_⟩
          rcases hs with (hs | ⟨o, hs⟩) | ⟨o, its, n, h1, h2, _⟩
          · exact .base (.tup (w.ex _ _ hs))
          · exact .fTuple (w.ex _ _ hs)
          · exact .kTuple h1 h2
        | lst hs hd => cases e; exact ⟨by decide, .base (.lst (w.ex _ _ hs))⟩
        | scr hs hd => exact absurd rfl (hx _)
        | cel a =>
          unfold tyD at e
          simp only at e
          split at e
          · rename_i ds q
            cases e
            obtain ⟨_, o, ho, ck⟩ := w.mem a _ q
            cases ck with | lst hd => exact ⟨by decide, .base (.lst ho)⟩
          · rename_i kvs q
            cases e
            obtain ⟨_, o, ho, ck⟩ := w.mem a _ q
            cases ck with | dct hd => exact ⟨by decide, .base (.dK ho)⟩
          · cases e
        | ty n => cases e
      refine ⟨v, .ty T, .type S, .type T, isiB S T, rfl, .ty T, hS.2, kit_ty (kb S hS.1 T (by simpa using hT)), c _ H0 H _ M (Same.refl _) w (.bl _) h⟩
    · exact h.elim
  · exact h.elim
theorem de_isi {X : Cx} {a b : Expr} {wa wb : WE} {p pos : Pos} (hm : X.mg "isinstance" = none) (ha : DE X a wa) (hb : DE X b wb) (hs : starEach [a, b] X.env = (false, eval a X.env) :: starEach [b] X.env := by rfl) (hs2 : starEach [b] X.env = (false, eval b X.env) :: starEach [] X.env := by rfl)
    (hg : Gl X "isinstance" := by rfl) (hpl : (backTo pos (starEach [b] X.env)).any (·.1) = false := by rfl) : DE X (.Call (.Name "isinstance" p) [a, b] [] pos) (wCall rdIsiA (wCons wa (wCons wb wNil))) :=
  de_callB call_isi calld_isi hm PyProof.Rows.boot_isinstance (da_cons ha (da_cons hb da_nil hs2) hs) hg (by decide) (by decide) hs hpl
def boolsD : List D → Option (List Bool)
  | [] => some []
  | .bl b :: ds => match boolsD ds with | some l => some (b :: l) | none => none
  | _ => none
theorem boolsD_ok {K : PySem.W.Frag} {H : Hp} : ∀ {ds : List D} {vs : List V} {l : List Bool}, Dats K H vs ds → boolsD ds = some l → vs = l.map V.bl
  | [], _, _, .nil, e => by cases e; rfl
  | .bl s :: ds, _, _, .cons h hs, e => by
    unfold boolsD at e
    split at e
    · rename_i l q; cases e; cases h; rw [boolsD_ok hs q]; rfl
    · cases e
  | .non :: _, _, _, _, e => by cases e
  | .str _ :: _, _, _, _, e => by cases e
  | .int _ :: _, _, _, _, e => by cases e
  | .tup _ :: _, _, _, _, e => by cases e
  | .lst _ :: _, _, _, _, e => by cases e
  | .scr _ :: _, _, _, _, e => by cases e
  | .cel _ :: _, _, _, _, e => by cases e
  | .ty _ :: _, _, _, _, e => by cases e
def rdAll : FD := fun ds M k => match ds with
  | [x] => (match asR M x with | some xs => (match boolsD xs with | some l => k (.bl (l.all id)) M | none => False) | none => False)
  | _ => False
theorem calld_all {K : PySem.W.Frag} : CallD K (rAll K) rdAll := fun Fr H0 M H vs ds k Q w r h c => by
  unfold rdAll at h
  split at h
  · obtain ⟨v, rfl, rv⟩ := dats1 r
    split at h
    · rename_i xs e
      split at h
      · rename_i l el
        obtain ⟨a, ws, rfl, hs, hd⟩ := asR_ok w rv e
        have := boolsD_ok hd el
        subst this
        exact ⟨a, l, rfl, hs, c _ H0 H _ M (Same.refl _) w (.bl _) h⟩
      · exact h.elim
    · exact h.elim
  · exact h.elim
theorem de_all {X : Cx} {e : Expr} {we : WE} {p pos : Pos} (hc : X.calm = true) (hm : X.mg "all" = none) (he : DE X e we) (hs : starEach [e] X.env = (false, eval e X.env) :: starEach [] X.env := by rfl) (hg : Gl X "all" := by rfl) (hpl : (backTo pos (starEach [] X.env)).any (·.1) = false := by rfl) :
    DE X (.Call (.Name "all" p) [e] [] pos) (wCall rdAll (wCons we wNil)) :=
  de_callB (cr_all hc) calld_all hm PyProof.Rows.boot_all (da_cons he da_nil hs) hg (by decide) (by decide) hs hpl
def rdInt : FD := fun ds M k => match ds with
  | [.int i] => k (.int i) M
  | [.bl b] => k (.int (if b then 1 else 0)) M
  | _ => False
theorem calld_int {K : PySem.W.Frag} : CallD K (fun xs H Q => (∃ i, xs = [V.int i] ∧ Q (.int i) H) ∨ ∃ k, xs = [V.bl k] ∧ Q (.int (if k then 1 else 0)) H) rdInt := fun Fr H0 M H vs ds k Q w r h c => by
  unfold rdInt at h
  split at h
  · obtain ⟨v, rfl, rv⟩ := dats1 r
    cases rv
    exact .inl ⟨_, rfl, c _ H0 H _ M (Same.refl _) w (.int _) h⟩
  · obtain ⟨v, rfl, rv⟩ := dats1 r
    cases rv
    exact .inr ⟨_, rfl, c _ H0 H _ M (Same.refl _) w (.int _) h⟩
  · exact h.elim
theorem de_intof {X : Cx} {e : Expr} {we : WE} {p pos : Pos} (hm : X.mg "int" = none) (he : DE X e we) (hs : starEach [e] X.env = (false, eval e X.env) :: starEach [] X.env := by rfl) (hg : Gl X "int" := by rfl) (hpl : (backTo pos (starEach [] X.env)).any (·.1) = false := by rfl) :
    DE X (.Call (.Name "int" p) [e] [] pos) (wCall rdInt (wCons we wNil)) :=
  de_callTy call_int1 calld_int hm PyProof.Rows.boot_int (da_cons he da_nil hs) hg (by decide) (by decide) hs hpl
/-- tuple(list or tuple) -/
def rdTuple : FD := fun ds M k => match ds with
  | [x] => (match seqD M x with | some xs => k (.tup xs) M | none => False)
  | _ => False
theorem calld_tuple {K : PySem.W.Frag} : CallD K (fun xs H Q => ∃ p ys, xs = [V.ref p] ∧ ((SqL K H p ys ∧ ∀ l, H l = none → Q (.ref l) (upd H l (.tup ys))) ∨ (SqT K H p ys ∧ Q (.ref p) H))) rdTuple := fun Fr H0 M H vs ds k Q w r h c => by
  unfold rdTuple at h
  split at h
  · rename_i x
    obtain ⟨v, rfl, rv⟩ := dats1 r
    split at h
    · rename_i xs e
      cases x with
      | tup xs' =>
        cases e
        cases rv with
        | tup hs hd => exact ⟨_, _, rfl, .inr ⟨same_t w.ex hs, c _ H0 H _ M (Same.refl _) w (.tup hs hd) h⟩⟩
      | _ =>
        obtain ⟨a, ws, rfl, hs, hd⟩ := asR_ok (ds := xs) w rv (by exact e)
        exact ⟨a, ws, rfl, .inl ⟨hs, fun l hl => c _ _ _ _ M (same_new (w.fresh hl)) (w.new hl) (.tup (.of upd_same) (hd.mono (same_new (w.fresh hl)))) h⟩⟩
    · exact h.elim
  · exact h.elim
theorem de_tuple {X : Cx} {e : Expr} {we : WE} {p pos : Pos} (hm : X.mg "tuple" = none) (he : DE X e we) (hs : starEach [e] X.env = (false, eval e X.env) :: starEach [] X.env := by rfl) (hg : Gl X "tuple" := by rfl) (hpl : (backTo pos (starEach [] X.env)).any (·.1) = false := by rfl) :
    DE X (.Call (.Name "tuple" p) [e] [] pos) (wCall rdTuple (wCons we wNil)) :=
  de_callTy call_tuple_of calld_tuple hm PyProof.Rows.boot_tuple (da_cons he da_nil hs) hg (by decide) (by decide) hs hpl
/-- dict(list of pairs): a cell -/
def pairsD : List D → Option (List (Key × D))
  | [] => some []
  | .tup [x, y] :: ds => match keyD x, pairsD ds with | some κ, some l => some ((κ, y) :: l) | _, _ => none
  | _ => none
def putD (kvs : List (Key × D)) (k : Key) (v : D) : List (Key × D) :=
  if (kvs.any fun kv => decide (kv.1 = k)) = true then kvs.map (fun kv => if kv.1 = k then (kv.1, v) else kv) else kvs ++ [(k, v)]
def mergeD (kvs more : List (Key × D)) : List (Key × D) := more.foldl (fun acc kv => putD acc kv.1 kv.2) kvs
theorem paired_append {α β : Type} {F : α → β → Prop} {a c : List α} {b d : List β} (h : Paired F a b) (h' : Paired F c d) : Paired F (a ++ c) (b ++ d) := by
  induction h with
  | nil => exact h'
  | cons r _ ih => exact .cons r ih
theorem paired_map {K : PySem.W.Frag} {H : Hp} {k : Key} {v : V} {d : D} (r : Dat K H v d) {kvs : List (Key × V)} {kds : List (Key × D)} (h : DKs K H kvs kds) :
    DKs K H (kvs.map fun kv => if kv.1 = k then (kv.1, v) else kv) (kds.map fun kv => if kv.1 = k then (kv.1, d) else kv) := by
  induction h with
  | nil => exact .nil
  | cons q t ih =>
    refine .cons ?_ ih
    rename_i a b _ _
    by_cases e : b.1 = k
    · have e' : a.1 = k := q.1.trans e
      simp only [e, e', if_true]
      exact ⟨trivial, r⟩
    · have e' : ¬ a.1 = k := fun z => e (q.1.symm.trans z)
      simp only [e, e', if_false]
      exact q
theorem paired_put {K : PySem.W.Frag} {H : Hp} {kvs : List (Key × V)} {kds : List (Key × D)} (h : DKs K H kvs kds) (k : Key) {v : V} {d : D} (r : Dat K H v d) : DKs K H (putK kvs k v) (putD kds k d) := by
  have e1 : (kvs.any fun kv => decide (kv.1 = k)) = (kds.any fun kv => decide (kv.1 = k)) := by
    induction h with
    | nil => rfl
    | cons q _ ih => rw [List.any_cons, List.any_cons, ih, q.1]
  unfold putK putD
  rw [e1]
  split
  · exact paired_map r h
  · exact paired_append h (.cons ⟨rfl, r⟩ .nil)
theorem paired_merge {K : PySem.W.Frag} {H : Hp} {mv : List (Key × V)} {md : List (Key × D)} (h : DKs K H mv md) : ∀ {kvs : List (Key × V)} {kds : List (Key × D)}, DKs K H kvs kds → DKs K H (mergeK kvs mv) (mergeD kds md) := by
  induction h with
  | nil => exact fun q => q
  | cons r _ ih =>
    intro kvs kds q
    unfold mergeK mergeD
    rw [List.foldl_cons, List.foldl_cons, r.1]
    exact ih (paired_put q _ r.2)
theorem pairsD_ok {K : PySem.W.Frag} {H : Hp} : ∀ {ds : List D} {vs : List V} {l : List (Key × D)}, Dats K H vs ds → pairsD ds = some l → ∃ (ps : List Addr) (kvs : List (Key × V)), vs = ps.map V.ref ∧ Paired (fun p kv => SqT K H p [kV kv.1, kv.2]) ps kvs ∧ DKs K H kvs l
  | [], _, _, .nil, e => by cases e; exact ⟨[], [], rfl, .nil, .nil⟩
  | .tup [x, y] :: ds, _, _, .cons h hs, e => by
    unfold pairsD at e
    split at e
    · rename_i κ l q1 q2
      cases e
      cases h with
      | tup ht hd =>
        obtain ⟨v, u, rfl, rv, ru⟩ := dats2 hd
        have := keyD_ok rv q1
        subst this
        obtain ⟨ps, kvs, rfl, h1, h2⟩ := pairsD_ok hs q2
        exact ⟨_ :: ps, (κ, u) :: kvs, rfl, .cons ht h1, .cons ⟨rfl, ru⟩ h2⟩
    · cases e
  | .tup [] :: _, _, _, _, e => by cases e
  | .tup [_] :: _, _, _, _, e => by cases e
  | .tup (_ :: _ :: _ :: _) :: _, _, _, _, e => by cases e
  | .bl _ :: _, _, _, _, e => by cases e
  | .non :: _, _, _, _, e => by cases e
  | .str _ :: _, _, _, _, e => by cases e
  | .int _ :: _, _, _, _, e => by cases e
  | .lst _ :: _, _, _, _, e => by cases e
  | .scr _ :: _, _, _, _, e => by cases e
  | .cel _ :: _, _, _, _, e => by cases e
  | .ty _ :: _, _, _, _, e => by cases e
def rdDict : FD := fun ds M k => match ds with
  | [x] => (match asR M x with | some xs => (match pairsD xs with | some l => ∀ p, M p = none → k (.cel p) (setM M p (.dct (mergeD [] l))) | none => False) | none => False)
  | _ => False
theorem paired_mono {K : PySem.W.Frag} {H H' : Hp} (e : Same H H') {ps : List Addr} {kvs : List (Key × V)} (h : Paired (fun p kv => SqT K H p [kV kv.1, kv.2]) ps kvs) : Paired (fun p kv => SqT K H' p [kV kv.1, kv.2]) ps kvs :=
  Paired.mapP h fun _ _ q => same_t e q
theorem calld_dict {K : PySem.W.Frag} : CallD K (fun xs H Q => ∃ a ps kvs, xs = [V.ref a] ∧ SqL K H a (List.map V.ref ps) ∧ Paired (fun p kv => SqT K H p [kV kv.fst, kv.snd]) ps kvs ∧ ∀ (p : Addr), H p = none → Q (V.ref p) (upd H p (HO.dK (mergeK [] kvs)))) rdDict := fun Fr H0 M H vs ds k Q w r h c => by
  unfold rdDict at h
  split at h
  · obtain ⟨v, rfl, rv⟩ := dats1 r
    split at h
    · rename_i xs e
      split at h
      · rename_i l el
        obtain ⟨a, ws, rfl, hs, hd⟩ := asR_ok w rv e
        obtain ⟨ps, kvs, rfl, h1, h2⟩ := pairsD_ok hd el
        refine ⟨a, ps, kvs, rfl, hs, paired_mono w.ex h1, fun p hp => ?_⟩
        exact c _ H0 _ _ _ (Same.refl _) (w.newM hp (.dct (paired_merge h2 .nil))) (.cel p) (h p (w.freshM hp))
      · exact h.elim
    · exact h.elim
  · exact h.elim
theorem de_dict {X : Cx} {e : Expr} {we : WE} {p pos : Pos} (hc : X.calm = true) (hm : X.mg "dict" = none) (he : DE X e we) (hs : starEach [e] X.env = (false, eval e X.env) :: starEach [] X.env := by rfl) (hg : Gl X "dict" := by rfl) (hpl : (backTo pos (starEach [] X.env)).any (·.1) = false := by rfl) :
    DE X (.Call (.Name "dict" p) [e] [] pos) (wCall rdDict (wCons we wNil)) :=
  de_callTy (call_dictP hc) calld_dict hm PyProof.Rows.boot_dict (da_cons he da_nil hs) hg (by decide) (by decide) hs hpl
/-- sorted(dict), its keys texts -/
def txtKeys : List (Key × D) → Option (List Str)
  | [] => some []
  | (.inr s, _) :: r => match txtKeys r with | some l => some (s :: l) | none => none
  | (.inl _, _) :: _ => none
theorem txtKeys_ok {K : PySem.W.Frag} {H : Hp} : ∀ {kvs : List (Key × V)} {kds : List (Key × D)} {l : List Str}, DKs K H kvs kds → txtKeys kds = some l → kvs.map (·.1) = l.map Sum.inr
  | _, _, _, .nil, e => by cases e; rfl
  | _, _, _, .cons (b := (.inr s, d)) q t, e => by
    unfold txtKeys at e
    split at e
    · rename_i l q2; cases e; rw [List.map_cons, q.1, txtKeys_ok t q2]; rfl
    · cases e
  | _, _, _, .cons (b := (.inl s, d)) q t, e => by cases e
def rdSortD : FD := fun ds M k => match ds with
  | [.cel a] => (match M a with
    | some (.dct kvs) => (match txtKeys kvs with | some l => l.length < 64 ∧ ∀ ys : List Str, ys.Perm l → sortedS ys = true → k (.lst (ys.map D.str)) M | none => False)
    | _ => False)
  | _ => False
theorem dats_strs {K : PySem.W.Frag} {H : Hp} : ∀ l : List Str, Dats K H (l.map V.str) (l.map D.str)
  | [] => .nil
  | s :: l => .cons (.str s) (dats_strs l)
theorem calld_sortD {K : PySem.W.Frag} : CallD K (fun xs H Q => ∃ (a : Addr) (kvs : List (Key × V)) (ks : List Str), xs = [.ref a] ∧ Rd H a (.dK kvs) ∧ kvs.map (·.1) = ks.map Sum.inr ∧ ks.length < 64 ∧
    ∀ ys p, ys.Perm ks → sortedS ys = true → H p = none → Q (.ref p) (upd H p (.lst (ys.map V.str)))) rdSortD := fun Fr H0 M H vs ds k Q w r h c => by
  unfold rdSortD at h
  split at h
  · obtain ⟨v, rfl, rv⟩ := dats1 r
    cases rv
    split at h
    · rename_i kvs e
      split at h
      · rename_i l el
        obtain ⟨_, o, ho, ck⟩ := w.mem _ _ e
        cases ck with
        | dct hk => exact ⟨_, _, l, rfl, .of ho, txtKeys_ok hk el, h.1, fun ys p hy hsrt hp => c _ _ _ _ M (same_new (w.fresh hp)) (w.new hp) (.lst upd_same (dats_strs ys)) (h.2 ys hy hsrt)⟩
      · exact h.elim
    · exact h.elim
  · exact h.elim
theorem de_sortD {X : Cx} {e : Expr} {we : WE} {p pos : Pos} (hc : X.calm = true) (hm : X.mg "sorted" = none) (he : DE X e we) (hs : starEach [e] X.env = (false, eval e X.env) :: starEach [] X.env := by rfl) (hg : Gl X "sorted" := by rfl) (hpl : (backTo pos (starEach [] X.env)).any (·.1) = false := by rfl) :
    DE X (.Call (.Name "sorted" p) [e] [] pos) (wCall rdSortD (wCons we wNil)) :=
  de_callB (call_sortedD hc) calld_sortD hm PyProof.Rows.boot_sorted (da_cons he da_nil hs) hg (by decide) (by decide) hs hpl
end DL

set_option autoImplicit false
set_option maxRecDepth 100000
namespace DL
open PySem PySem.Spec PyProof.Rows L2
set_option maxHeartbeats 2000000
section
variable {X : Cx} {a b c : Expr} {wa wb wc : WE} {pos : Pos}
/-- a comparison's rule with its reading -/
def CmpD (X : Cx) (op : CmpOp) (rd : D → D → Mem → KD → Prop) : Prop := ∃ r, OpR X (compareOp op) r ∧ OpD X.K r rd
theorem de_cmpA {op : CmpOp} {rd : D → D → Mem → KD → Prop} (h : CmpD X op rd) (ha : DE X a wa) (hb : DE X b wb) (hm : behindInMarks op b = false := by first | exact nomark _ | (with_unfolding_all rfl)) : DE X (.Compare a [op] [b] pos) (wOp rd wa wb) := by
  obtain ⟨r, h1, h2⟩ := h
  exact de_cmp h1 h2 ha hb hm
theorem dt_cmpA {op : CmpOp} {rd : D → D → Mem → KD → Prop} (h : CmpD X op rd) (ha : DE X a wa) (hb : DE X b wb) (hm : behindInMarks op b = false := by first | exact nomark _ | (with_unfolding_all rfl)) : DT X (.Compare a [op] [b] pos) (wTst (wOp rd wa wb)) := by
  obtain ⟨r, h1, h2⟩ := h
  exact dt_cmp h1 h2 ha hb hm
theorem de_chainA {op op' : CmpOp} {rd rd' : D → D → Mem → KD → Prop} (h : CmpD X op rd) (h' : CmpD X op' rd') (ha : DE X a wa) (hb : DE X b wb) (hc : DE X c wc) (hm : lastMarks [op, op'] [b, c] = false := by with_unfolding_all rfl) : DE X (.Compare a [op, op'] [b, c] pos) (wChain rd rd' wa wb wc) := by
  obtain ⟨r, h1, h2⟩ := h
  obtain ⟨r', h3, h4⟩ := h'
  exact de_chain h1 h2 h3 h4 ha hb hc hm
theorem dt_chainA {op op' : CmpOp} {rd rd' : D → D → Mem → KD → Prop} (h : CmpD X op rd) (h' : CmpD X op' rd') (ha : DE X a wa) (hb : DE X b wb) (hc : DE X c wc) (hm : lastMarks [op, op'] [b, c] = false := by with_unfolding_all rfl) : DT X (.Compare a [op, op'] [b, c] pos) (wTst (wChain rd rd' wa wb wc)) := by
  obtain ⟨r, h1, h2⟩ := h
  obtain ⟨r', h3, h4⟩ := h'
  exact dt_chain h1 h2 h3 h4 ha hb hc hm
theorem c_lt : CmpD X .Lt rdLt := op_ltA
theorem c_le : CmpD X .LtE rdLe := op_leA
theorem c_gt : CmpD X .Gt rdGt := op_gtA
theorem c_ge : CmpD X .GtE rdGe := op_geA
theorem c_eq {k : Nat} (hr : DG.RoomG k X.A) : CmpD X .Eq (rdEq id) := ⟨_, op_eq.or (op_eqD hr.r.units), opd_eq⟩
theorem c_ne {k : Nat} (hr : DG.RoomG k X.A) : CmpD X .NotEq (rdEq not) := ⟨_, op_ne.or (op_neD hr.r.units), opd_ne⟩
theorem c_is : CmpD X .Is (rdIs id) := op_isA
theorem c_isn : CmpD X .IsNot (rdIs not) := op_isnA
theorem c_in : CmpD X .In (rdIn id) := ⟨_, op_in_seq, opd_in fun _ => rfl⟩
theorem c_nin : CmpD X .NotIn (rdIn not) := ⟨_, op_notIn_seq, opd_in fun _ => rfl⟩
end
/-- a def of the text: where it stands, how it binds -/
structure Def (K : PySem.W.Frag) (mg : Str → Option Value) (x : Str) (st : Stmt) (ps : List Str) (f : Addr) (fd : FuncData) : Prop where
  F : Fun K x x st f fd
  at_ : mg x = some (.ref f)
  b : Binds K fd ps []
theorem de_own {X : Cx} {F : FD} {f : Addr} {fd : FuncData} {ps : List Str} {x : Str} {st : Stmt} {k j : Nat} {e : Expr} {es : List Expr} {p pos : Pos} {wa : WA} (d : Def X.K X.mg x st ps f fd) (G : DFn X.prog X.w X.K X.mg X.base k f fd ps F) (hr : DG.RoomG j X.A) (hk : k ≤ j)
    (ha : DA X (e :: es) wa) (hg : Gl X x := by rfl) (hdb : (x == ("__debug__" : Str)) = false := by decide) (he : starEach (e :: es) X.env = (false, eval e X.env) :: starEach es X.env := by rfl) (hpl : (backTo pos (starEach es X.env)).any (·.1) = false := by rfl) : DE X (.Call (.Name x p) (e :: es) [] pos) (wCall F wa) :=
  de_call G (hr.mono hk) d.at_ d.F.kp d.b ha hg hdb he hpl
theorem DFn.mono {P : Program} {w : World} {K : PySem.W.Frag} {mg : Str → Option Value} {base : Heap} {j k : Nat} {f : Addr} {fd : FuncData} {ps : List Str} {F : FD} (G : DFn P w K mg base j f fd ps F) (h : j ≤ k) : DFn P w K mg base k f fd ps F := DG.FnG.mono G h
/-- a weaker wish -/
theorem DFn.weak {P : Program} {w : World} {K : PySem.W.Frag} {mg : Str → Option Value} {base : Heap} {k : Nat} {f : Addr} {fd : FuncData} {ps : List Str} {F F' : FD} (G : DFn P w K mg base k f fd ps F) (h : ∀ ds M kd, F' ds M kd → F ds M kd) : DFn P w K mg base k f fd ps F' :=
  DG.FnG.imp G fun vs H Q E ⟨Fr, H0, M, ds, kd, h1, h2, h3, h4⟩ => ⟨Fr, H0, M, ds, kd, h1, h2, h ds M kd h3, h4⟩
end DL

set_option autoImplicit false
set_option maxRecDepth 100000
namespace DL
open PySem L2
set_option maxHeartbeats 2000000
/-- a comprehension whose element is a function of the item -/
theorem lc_map {gd : D → Env → Option Env} {we : WE} {G : Mem → Prop} {Γ : Env} (f : D → D) {M : Mem} (hG : G M) : ∀ (its acc : List D) (k : List D → Mem → Prop),
    (∀ d ∈ its, ∃ Γ', gd d Γ = some Γ' ∧ ∀ k : KD, k (f d) M → we Γ' M k) → acc.length + its.length ≤ sizeLine → k (acc ++ its.map f) M → lcD gd wYes we G Γ its acc M k
  | [], acc, k, _, _, h => ⟨hG, by simpa using h⟩
  | d :: ds, acc, k, hf, hl, h => by
    obtain ⟨Γ', e, q⟩ := hf d List.mem_cons_self
    refine ⟨hG, ?_⟩
    rw [e]
    simp only [List.length_cons] at hl
    simp only [wYes, if_true]
    refine q _ ⟨by omega, lc_map f hG ds _ k (fun d hd => hf d (List.mem_cons_of_mem _ hd)) (by simp; omega) (by simpa using h)⟩
/-- .. with a test -/
theorem lc_filter {gd : D → Env → Option Env} {wt : WT} {we : WE} {G : Mem → Prop} {Γ : Env} (p : D → Bool) (f : D → D) {M : Mem} (hG : G M) : ∀ (its acc : List D) (k : List D → Mem → Prop),
    (∀ d ∈ its, ∃ Γ', gd d Γ = some Γ' ∧ (∀ k : Bool → Mem → Prop, k (p d) M → wt Γ' M k) ∧ (p d = true → ∀ k : KD, k (f d) M → we Γ' M k)) → acc.length + its.length ≤ sizeLine → k (acc ++ (its.filter p).map f) M → lcD gd wt we G Γ its acc M k
  | [], acc, k, _, _, h => ⟨hG, by simpa using h⟩
  | d :: ds, acc, k, hf, hl, h => by
    obtain ⟨Γ', e, q1, q2⟩ := hf d List.mem_cons_self
    refine ⟨hG, ?_⟩
    rw [e]
    refine q1 _ ?_
    simp only [List.length_cons] at hl
    cases hp : p d with
    | true =>
      rw [if_pos rfl]
      rw [List.filter_cons_of_pos hp] at h
      exact q2 hp _ ⟨by omega, lc_filter p f hG ds _ k (fun d hd => hf d (List.mem_cons_of_mem _ hd)) (by simp; omega) (by simpa using h)⟩
    | false =>
      rw [if_neg Bool.false_ne_true]
      rw [List.filter_cons_of_neg (by simp [hp])] at h
      exact lc_filter p f hG ds _ k (fun d hd => hf d (List.mem_cons_of_mem _ hd)) (by omega) h
/-- .. by an invariant -/
theorem lc_inv {gd : D → Env → Option Env} {wt : WT} {we : WE} {G : Mem → Prop} {Γ : Env} {k : List D → Mem → Prop} (I : List D → List D → Mem → Prop) (hG : ∀ ds acc M, I ds acc M → G M) (h0 : ∀ acc M, I [] acc M → k acc M)
    (hs : ∀ d ds acc M, I (d :: ds) acc M → ∃ Γ', gd d Γ = some Γ' ∧ ∀ (ky : KD) (kn : Mem → Prop), (∀ y M2, acc.length < sizeLine → I ds (acc ++ [y]) M2 → ky y M2) → (∀ M2, I ds acc M2 → kn M2) → wt Γ' M fun b M1 => if b = true then we Γ' M1 ky else kn M1)
    (hl : ∀ ds acc M, I ds acc M → acc.length + ds.length ≤ sizeLine) : ∀ its acc M, I its acc M → lcD gd wt we G Γ its acc M k
  | [], acc, M, h => ⟨hG _ _ _ h, h0 acc M h⟩
  | d :: ds, acc, M, h => by
    refine ⟨hG _ _ _ h, ?_⟩
    obtain ⟨Γ', e, q⟩ := hs d ds acc M h
    rw [e]
    refine q (fun y M2 => acc.length < sizeLine ∧ lcD gd wt we G Γ ds (acc ++ [y]) M2 k) _ (fun y M2 hlt i => ⟨hlt, lc_inv I hG h0 hs hl ds _ M2 i⟩) (fun M2 i => lc_inv I hG h0 hs hl ds acc M2 i)

theorem strOk_lit {s : String} (h : PyData.strOk (Str.ofString s) = true) : PyData.strOk (Str.ofString s) = true := h
theorem shaped_str {s : Str} (h : PyData.strOk s = true) : SeqAt.shaped (.str s) = true := by
  unfold SeqAt.shaped PyData.canLay0 PyData.depth
  rw [h]; rfl
theorem shaped_int {i : Int} : SeqAt.shaped (.int i) = true := by
  unfold SeqAt.shaped PyData.canLay0 PyData.depth; rfl
theorem shaped_bl {i : Bool} : SeqAt.shaped (.bool i) = true := by
  unfold SeqAt.shaped PyData.canLay0 PyData.depth; rfl
theorem shaped_non : SeqAt.shaped .none = true := by
  unfold SeqAt.shaped PyData.canLay0 PyData.depth; rfl
theorem eq_str {f : Bool → Bool} {s t : Str} {M : Mem} {k : KD} (h1 : PyData.strOk s = true) (h2 : PyData.strOk t = true) (h : k (.bl (f (decide (s = t)))) M) : rdEq f (.str s) (.str t) M k := by
  exact h
theorem eq_int {f : Bool → Bool} {s t : Int} {M : Mem} {k : KD} (h : k (.bl (f (decide (s = t)))) M) : rdEq f (.int s) (.int t) M k := by
  refine ⟨shaped_int, shaped_int, ?_⟩
  have e : PyData.eqv (.int s) (.int t) = decide (s = t) := by
    show (s == t) = _
    rw [Bool.beq_eq_decide_eq]
  rw [e]; exact h
theorem eq_bl {f : Bool → Bool} {s t : Bool} {M : Mem} {k : KD} (h : k (.bl (f (decide (s = t)))) M) : rdEq f (.bl s) (.bl t) M k := by
  refine ⟨shaped_bl, shaped_bl, ?_⟩
  have e : PyData.eqv (.bool s) (.bool t) = decide (s = t) := by
    show (s == t) = _
    cases s <;> cases t <;> rfl
  rw [e]; exact h
/-- flat things: None, ints, texts -/
inductive Flat : D → Prop
  | non : Flat .non
  | int (i : Int) : Flat (.int i)
  | str (s : Str) : PyData.strOk s = true → Flat (.str s)
def eqS : D → D → Bool
  | .non, .non => true
  | .int i, .int j => decide (i = j)
  | .str s, .str t => decide (s = t)
  | _, _ => false
theorem eq_flat {f : Bool → Bool} {x y : D} {M : Mem} {k : KD} (hx : Flat x) (hy : Flat y) (h : k (.bl (f (eqS x y))) M) : rdEq f x y M k := by
  cases hx with
  | non =>
    cases hy with
    | non => exact ⟨shaped_non, shaped_non, h⟩
    | int j => exact ⟨shaped_non, shaped_int, h⟩
    | str t ht => exact ⟨shaped_non, shaped_str ht, h⟩
  | int i =>
    cases hy with
    | non => exact ⟨shaped_int, shaped_non, h⟩
    | int j => exact eq_int h
    | str t ht => exact ⟨shaped_int, shaped_str ht, h⟩
  | str s hs =>
    cases hy with
    | non => exact ⟨shaped_str hs, shaped_non, h⟩
    | int j => exact ⟨shaped_str hs, shaped_int, h⟩
    | str t ht => exact eq_str hs ht h
end DL

set_option autoImplicit false
set_option maxRecDepth 100000
namespace DL
open PySem L2
set_option maxHeartbeats 2000000
section
variable {M : Mem} {k : KD} {i j n : Int} {s t : Str} {d x y : D} {ds es : List D} {a : Addr} {c : Nat}
theorem at0 {α : Type} (x : α) (r : List α) : atI (x :: r) 0 = some x := by
  have := atI_nat (xs := x :: r) (j := 0) (v := x) rfl
  simpa using this
theorem at1 {α : Type} (x y : α) (r : List α) : atI (x :: y :: r) 1 = some y := by
  have := atI_nat (xs := x :: y :: r) (j := 1) (v := y) rfl
  simpa using this
theorem at2 {α : Type} (x y z : α) (r : List α) : atI (x :: y :: z :: r) 2 = some z := by
  have := atI_nat (xs := x :: y :: z :: r) (j := 2) (v := z) rfl
  simpa using this
theorem ix_cel (e : M a = some (.lst ds)) (h : atI ds i = some d) (hk : k d M) : rdIx (.cel a) (.int i) M k := by
  unfold rdIx seqD asR
  simp only [e, h]; exact hk
theorem ix_tup (h : atI ds i = some d) (hk : k d M) : rdIx (.tup ds) (.int i) M k := by
  unfold rdIx seqD
  simp only [h]; exact hk
theorem ix_lst (h : atI ds i = some d) (hk : k d M) : rdIx (.lst ds) (.int i) M k := by
  unfold rdIx seqD asR
  simp only [h]; exact hk
theorem ix_scr (h : atI ds i = some d) (hk : k d M) : rdIx (.scr ds) (.int i) M k := by
  unfold rdIx seqD asR
  simp only [h]; exact hk
theorem ix_str (hz : s.length ≤ sizeLine) (h : atI s.cps.toList i = some c) (hk : k (.str ⟨#[c]⟩) M) : rdIx (.str s) (.int i) M k := by
  unfold rdIx
  refine ⟨hz, ?_⟩
  rw [h]; exact hk
theorem r_add (hk : k (.int (i + j)) M) : rdAdd (.int i) (.int j) M k := hk
theorem r_addS (hz : s.length + t.length ≤ sizeLine) (hk : k (.str (s ++ t)) M) : rdAdd (.str s) (.str t) M k := ⟨hz, hk⟩
theorem r_addT (hz : ds.length + es.length ≤ sizeLine) (hk : k (.tup (ds ++ es)) M) : rdAdd (.tup ds) (.tup es) M k := ⟨hz, hk⟩
theorem r_addL (hz : ds.length + es.length ≤ sizeLine) (hk : k (.lst (ds ++ es)) M) : rdAdd (.lst ds) (.lst es) M k := ⟨hz, hk⟩
theorem r_I {C : Int → Int → Prop} {g : Int → Int → D} (h : C i j) (hk : k (g i j) M) : rdI C g (.int i) (.int j) M k := ⟨h, hk⟩
theorem r_mul (h : (-(2 ^ 64) < i ∧ i < 2 ^ 64) ∨ (-(2 ^ 64) < j ∧ j < 2 ^ 64)) (hk : k (.int (i * j)) M) : rdI CMul (fun i j => .int (i * j)) (.int i) (.int j) M k := ⟨h, hk⟩
theorem r_div (h : 0 < j) (h' : j < 1073741824) (hk : k (.int (i / j)) M) : rdI CDiv (fun i j => .int (i / j)) (.int i) (.int j) M k := ⟨⟨h, h'⟩, hk⟩
theorem r_mod (h : 0 < j) (hk : k (.int (i % j)) M) : rdI (fun _ j => 0 < j) (fun i j => .int (i % j)) (.int i) (.int j) M k := ⟨h, hk⟩
theorem r_pow (h : 0 ≤ j) (h2 : j ≤ 1000000) (h3 : i.natAbs < 2 ^ 64) (hk : k (.int (i ^ j.toNat)) M) : rdI CPow (fun i j => .int (i ^ j.toNat)) (.int i) (.int j) M k := ⟨⟨h, h2, h3⟩, hk⟩
theorem eq_intT {f : Bool → Bool} (hk : k (.bl (f true)) M) : rdEq f (.int i) (.int i) M k := eq_int (by rw [decide_eq_true rfl]; exact hk)
theorem eq_intF {f : Bool → Bool} (h : i ≠ j) (hk : k (.bl (f false)) M) : rdEq f (.int i) (.int j) M k := eq_int (by rw [decide_eq_false h]; exact hk)
theorem eq_strT {f : Bool → Bool} (h1 : PyData.strOk s = true) (hk : k (.bl (f true)) M) : rdEq f (.str s) (.str s) M k := eq_str h1 h1 (by rw [decide_eq_true rfl]; exact hk)
theorem eq_strF {f : Bool → Bool} (h1 : PyData.strOk s = true) (h2 : PyData.strOk t = true) (h : s ≠ t) (hk : k (.bl (f false)) M) : rdEq f (.str s) (.str t) M k := eq_str h1 h2 (by rw [decide_eq_false h]; exact hk)
theorem r_I0 {g : Int → Int → D} (hk : k (g i j) M) : rdI0 g (.int i) (.int j) M k := hk
theorem r_U {g : Int → D} (hk : k (g i) M) : rdU g (.int i) M k := hk
theorem r_ordI {p : Int → Int → Bool} {q : Str → Str → Bool} (hk : k (.bl (p i j)) M) : rdOrd p q (.int i) (.int j) M k := hk
theorem r_ordS {p : Int → Int → Bool} {q : Str → Str → Bool} (hk : k (.bl (q s t)) M) : rdOrd p q (.str s) (.str t) M k := hk
theorem r_isN {f : Bool → Bool} (hk : k (.bl (f true)) M) : rdIs f .non .non M k := hk
theorem r_isI {f : Bool → Bool} (hk : k (.bl (f false)) M) : rdIs f (.int i) .non M k := hk
theorem r_isS {f : Bool → Bool} (hk : k (.bl (f false)) M) : rdIs f (.str s) .non M k := hk
theorem r_isT {f : Bool → Bool} (hk : k (.bl (f false)) M) : rdIs f (.tup ds) .non M k := hk
theorem r_isB {f : Bool → Bool} {p : Bool} (hk : k (.bl (f false)) M) : rdIs f (.bl p) .non M k := hk
theorem r_isL {f : Bool → Bool} (hk : k (.bl (f false)) M) : rdIs f (.lst ds) .non M k := hk
theorem r_isC {f : Bool → Bool} (hk : k (.bl (f false)) M) : rdIs f (.cel a) .non M k := hk
theorem r_isBB {f : Bool → Bool} {p q : Bool} (hk : k (.bl (f (decide (p = q)))) M) : rdIs f (.bl p) (.bl q) M k := hk
/-- of a flat thing -/
theorem r_isF {f : Bool → Bool} (h : Flat d) (hk : k (.bl (f (match d with | .non => true | _ => false))) M) : rdIs f d .non M k := by
  cases h <;> exact hk
def isNon : D → Bool
  | .non => true
  | _ => false
theorem r_isP (h : Flat d) (hk : k (.bl (isNon d)) M) : rdIs id d .non M k := by
  cases h <;> exact hk
theorem r_isnP (h : Flat d) (hk : k (.bl (!isNon d)) M) : rdIs not d .non M k := by
  cases h <;> exact hk
theorem r_lenS (hz : s.length ≤ sizeLine) (hk : k (.int s.length) M) : rdLen [.str s] M k := ⟨hz, hk⟩
theorem r_lenT (hk : k (.int ds.length) M) : rdLen [.tup ds] M k := hk
theorem r_lenL (hk : k (.int ds.length) M) : rdLen [.lst ds] M k := hk
theorem r_lenR (hk : k (.int ds.length) M) : rdLen [.scr ds] M k := hk
theorem r_lenC (e : M a = some (.lst ds)) (hk : k (.int ds.length) M) : rdLen [.cel a] M k := by
  unfold rdLen seqD asR; simp only [e]; exact hk
theorem r_app (e : M a = some (.lst ds)) (hz : ds.length < sizeLine) (hk : k .non (setM M a (.lst (ds ++ [d])))) : rdAppend (.cel a) [d] M k := by
  unfold rdAppend; simp only [e]; exact ⟨hz, hk⟩
theorem r_pop (e : M a = some (.lst (ds ++ [d]))) (hk : k d (setM M a (.lst ds))) : rdPop (.cel a) [] M k := by
  unfold rdPop; simp only [e]
  have h1 : (ds ++ [d])[(ds ++ [d]).length - 1]? = some d := by simp
  rw [h1, List.dropLast_concat]; exact hk
theorem r_pop0 (e : M a = some (.lst (d :: ds))) (hk : k d (setM M a (.lst ds))) : rdPopAt (.cel a) [.int 0] M k := by
  unfold rdPopAt; simp only [e]
  refine ⟨by decide, ?_⟩
  have h1 : seqIndex? 0 (d :: ds).length = some 0 := by
    obtain ⟨h, _⟩ := ixN_seq (n := (d :: ds).length) (i := 0) (j := 0) (by unfold ixN; simp)
    exact h
  rw [h1]; exact hk
theorem isC (e : M a = some (.lst ds)) : isCel M (.cel a) := ⟨ds, e⟩
theorem cut_take {α : Type} (xs : List α) (n : Nat) : cutD xs none (some (n : Int)) = xs.take n := by
  unfold cutD
  rw [HT.sIx_none, HT.sIx_nat]
  simp
theorem cut_drop {α : Type} (xs : List α) (n : Nat) : cutD xs (some (n : Int)) none = xs.drop n := by
  unfold cutD
  rw [HT.sIx_none, HT.sIx_nat]
  by_cases h : n ≤ xs.length
  · rw [Nat.min_eq_left h, ← List.length_drop, List.take_length]
  · rw [Nat.min_eq_right (by omega), List.drop_eq_nil_of_le (Nat.le_refl _), List.drop_eq_nil_of_le (by omega)]; simp
theorem r_slT {lo hi : Option Int} (hk : k (.tup (cutD ds lo hi)) M) : rdSl (.tup ds) lo hi M k := hk
theorem r_slL {lo hi : Option Int} (hk : k (.lst (cutD ds lo hi)) M) : rdSl (.lst ds) lo hi M k := hk
theorem r_slR {lo hi : Option Int} (hk : k (.lst (cutD ds lo hi)) M) : rdSl (.scr ds) lo hi M k := hk
theorem r_slS {lo hi : Option Int} (hz : s.length ≤ sizeLine) (hk : k (.str (cutS s lo hi)) M) : rdSl (.str s) lo hi M k := ⟨hz, hk⟩
theorem r_tupL (hk : k (.tup ds) M) : rdTuple [.lst ds] M k := hk
theorem r_tupT (hk : k (.tup ds) M) : rdTuple [.tup ds] M k := hk
theorem r_tupC (e : M a = some (.lst ds)) (hk : k (.tup ds) M) : rdTuple [.cel a] M k := by
  unfold rdTuple seqD asR; simp only [e]; exact hk
theorem r_intB {b : Bool} (hk : k (.int (if b then 1 else 0)) M) : rdInt [.bl b] M k := hk
theorem r_isi {T S : String} (h1 : tyD M x = some S) (hT : ["bool", "int", "str", "tuple"].contains T = true) (h2 : ∀ l, x ≠ .scr l) (hk : k (.bl (isiB S T)) M) : rdIsiA [x, .ty T] M k := by
  unfold rdIsiA; simp only [h1]; exact ⟨hT, h2, hk⟩
theorem r_get {kvs : List (Key × D)} (e : M a = some (.dct kvs)) (h : lookD kvs (.inr s) = some d) (hk : k d M) : rdGet (.cel a) (.str s) M k := by
  unfold rdGet keyD; simp only [e, h]; exact hk
theorem r_inS {f : Bool → Bool} {l : List Str} (hk : k (.bl (f (decide (s ∈ l)))) M) : rdIn f (.str s) (.tup (l.map D.str)) M k := by
  unfold rdIn seqD flatD
  have h1 : ∀ l : List Str, flatsD (l.map D.str) = some (l.map V.str) := fun l => by
    induction l with
    | nil => rfl
    | cons t r ih => rw [List.map_cons]; unfold flatsD flatD; rw [ih]; rfl
  have h2 : inV (.str s) (l.map V.str) = decide (s ∈ l) := by
    clear hk
    unfold inV
    induction l with
    | nil => rfl
    | cons t r ih =>
      rw [List.map_cons, List.any_cons, ih]
      show ((t == s) || _) = _
      by_cases e : t = s
      · subst e; simp
      · have e' : ¬ s = t := fun z => e z.symm
        simp [e, e']
  simp only [h1, h2]; exact hk
theorem r_inI {f : Bool → Bool} {l : List Int} (hk : k (.bl (f (decide (i ∈ l)))) M) : rdIn f (.int i) (.tup (l.map D.int)) M k := by
  unfold rdIn seqD flatD
  have h1 : ∀ l : List Int, flatsD (l.map D.int) = some (l.map V.int) := fun l => by
    induction l with
    | nil => rfl
    | cons t r ih => rw [List.map_cons]; unfold flatsD flatD; rw [ih]; rfl
  have h2 : inV (.int i) (l.map V.int) = decide (i ∈ l) := by
    clear hk
    unfold inV
    induction l with
    | nil => rfl
    | cons t r ih =>
      rw [List.map_cons, List.any_cons, ih]
      show ((t == i) || _) = _
      by_cases e : t = i
      · subst e; simp
      · have e' : ¬ i = t := fun z => e z.symm
        simp [e, e']
  simp only [h1, h2]; exact hk
theorem r_st {v : D} {j : Nat} {kk : Mem → Prop} (e : M a = some (.lst ds)) (h : ixN ds.length i = some j) (hk : kk (setM M a (.lst (ds.set j v)))) : rdSt (.cel a) (.int i) v M kk := by
  unfold rdSt; simp only [e, h]; exact hk
theorem ix_nat {n i : Nat} (h : i < n) : ixN n (i : Int) = some i := by
  unfold ixN
  rw [if_pos (by omega), if_pos (by omega), Int.toNat_natCast]
theorem ix_last {n : Nat} (h : 0 < n) : ixN n (-1) = some (n - 1) := by
  unfold ixN
  rw [if_neg (by omega), if_pos (by omega)]
  congr 1; omega
theorem tt {A B : Prop} (h : A) : (if true = true then A else B) := by rw [if_pos rfl]; exact h
theorem ff {A B : Prop} (h : B) : (if false = true then A else B) := by rw [if_neg Bool.false_ne_true]; exact h
theorem tt' {b : Bool} {A B : Prop} (e : b = true) (h : A) : (if b = true then A else B) := by rw [if_pos e]; exact h
theorem ff' {b : Bool} {A B : Prop} (e : b = false) (h : B) : (if b = true then A else B) := by rw [e]; exact ff h
theorem bb {b : Bool} {A B : Prop} (h1 : b = true → A) (h2 : b = false → B) : (if b = true then A else B) := by
  cases b
  · exact ff (h2 rfl)
  · exact tt (h1 rfl)
theorem and_pure {wa wb : WT} {Γ : Env} {kt : Bool → Mem → Prop} {b1 b2 : Bool} (h1 : ∀ k : Bool → Mem → Prop, k b1 M → wa Γ M k) (h2 : b1 = true → ∀ k : Bool → Mem → Prop, k b2 M → wb Γ M k) (h : kt (b1 && b2) M) : wAndT wa wb Γ M kt := by
  refine h1 _ ?_
  cases b1 with
  | true => exact tt (h2 rfl _ h)
  | false => exact ff h
theorem or_pure {wa wb : WT} {Γ : Env} {kt : Bool → Mem → Prop} {b1 b2 : Bool} (h1 : ∀ k : Bool → Mem → Prop, k b1 M → wa Γ M k) (h2 : b1 = false → ∀ k : Bool → Mem → Prop, k b2 M → wb Γ M k) (h : kt (b1 || b2) M) : wOrT wa wb Γ M kt := by
  refine h1 _ ?_
  cases b1 with
  | true => exact tt h
  | false => exact ff (h2 rfl _ h)
theorem z1 {n : Nat} (h : n ≤ 1000000) : n ≤ sizeLine := Nat.le_trans h (by decide)
theorem z2 {n : Nat} (h : n ≤ 1000000) : n < sizeLine := Nat.lt_of_le_of_lt h (by decide)
end
end DL

set_option autoImplicit false
set_option maxRecDepth 100000
set_option maxHeartbeats 4000000
/-! sets of texts, made of a list of texts: counted, or laid out in their order -/
namespace TS
open PySem PySem.Spec PyProof.Rows L2 PySem.Froz
/-- the texts met, the newest first, each once -/
def addU (l : List Str) (k : Str) : List Str := if k ∈ l then l else k :: l
def uni (xs : List Str) : List Str := xs.foldl addU []
theorem addU_nd {l : List Str} {k : Str} (h : l.Nodup) : (addU l k).Nodup := by
  unfold addU; split
  · exact h
  · rename_i q; exact List.nodup_cons.mpr ⟨q, h⟩
theorem addU_mem {l : List Str} {k x : Str} : x ∈ addU l k ↔ x ∈ l ∨ x = k := by
  unfold addU; split
  · rename_i q; exact ⟨.inl, fun z => z.elim id fun e => e ▸ q⟩
  · rw [List.mem_cons]; exact Or.comm
theorem addU_len {l : List Str} {k : Str} : (addU l k).length ≤ l.length + 1 := by
  unfold addU; split
  · omega
  · simp
theorem fold_len : ∀ (xs l : List Str), (xs.foldl addU l).length ≤ l.length + xs.length
  | [], l => by simp
  | x :: xs, l => by
    have h := fold_len xs (addU l x)
    have := addU_len (l := l) (k := x)
    rw [List.foldl_cons, List.length_cons]; omega
theorem fold_nd : ∀ (xs l : List Str), l.Nodup → (xs.foldl addU l).Nodup
  | [], _, h => h
  | x :: xs, l, h => fold_nd xs _ (addU_nd h)
theorem fold_mem : ∀ (xs l : List Str) (y : Str), y ∈ xs.foldl addU l ↔ y ∈ l ∨ y ∈ xs
  | [], l, y => by simp
  | x :: xs, l, y => by
    rw [List.foldl_cons, fold_mem xs _ y, addU_mem, List.mem_cons, or_assoc]
theorem uni_nd (xs : List Str) : (uni xs).Nodup := fold_nd xs [] List.nodup_nil
theorem uni_mem (xs : List Str) (y : Str) : y ∈ uni xs ↔ y ∈ xs := by
  unfold uni; rw [fold_mem]; simp
theorem uni_len (xs : List Str) : (uni xs).length ≤ xs.length := by
  have := fold_len xs []; simpa [uni] using this
theorem uni_snoc (xs : List Str) (k : Str) : uni (xs ++ [k]) = addU (uni xs) k := by
  unfold uni; rw [List.foldl_append]; rfl
/-- two lists, one without repeats within the other, of one length -/
theorem perm_of_sub {α : Type} [DecidableEq α] : ∀ {l m : List α}, l.Nodup → (∀ x ∈ l, x ∈ m) → m.length ≤ l.length → m.Perm l
  | [], m, _, _, hl => by
    have : m = [] := List.length_eq_zero_iff.mp (by simpa using hl)
    rw [this]
  | x :: l, m, hn, hs, hl => by
    have hx := hs x List.mem_cons_self
    have p := List.perm_cons_erase hx
    obtain ⟨h1, h2⟩ := List.nodup_cons.mp hn
    refine p.trans (List.Perm.cons x (perm_of_sub h2 (fun y hy => ?_) ?_))
    · have hne : y ≠ x := fun e => h1 (e ▸ hy)
      exact (List.mem_erase_of_ne hne).mpr (hs y (List.mem_cons_of_mem _ hy))
    · have := p.length_eq
      simp only [List.length_cons] at this hl; omega
/-- the table rises and can be walked -/
def Way (w : World) (D : SD) : Prop := Ris D.2.2.place.toList ∧ (w.params.followText "set-order" = true ∨ D.2.2.led = true)
theorem way_tail {w : World} {ep : Nat} {es : Array (Int × Value)} {t : SetTable} {b : Bool} (h : Way w (es, ep, t)) : Way w (tailTx ep es t b) := by
  unfold tailTx; split
  · exact ⟨relayAll_ris t es _, h.2.imp id fun z => (relayAll_led t es _).trans z⟩
  · exact h
theorem way_add {w : World} {D : SD} {h : Int} {v : Value} (W : Way w D) : Way w (addTx h v D) := by
  unfold addTx
  refine way_tail ?_
  have a := layNew_ris D.2.2 D.1 h v W.1
  have b := W.2.imp id fun z => (layNew_led D.2.2 D.1 h v).trans z
  split
  · exact ⟨a, b⟩
  · exact ⟨a, b⟩
/-- the set at a holds the texts l -/
def SetS (P : Program) (w : World) (h : Heap) (a : Addr) (l : List Str) : Prop := ∃ D, h.get? a = some (sObj "set" D) ∧ TxOk P w D l ∧ Way w D
theorem SetS.at {P : Program} {w : World} {h h' : Heap} {a : Addr} {l : List Str} (x : SetS P w h a l) (k : ∀ o, h.get? a = some o → h'.get? a = some o) : SetS P w h' a l :=
  let ⟨D, e, r⟩ := x; ⟨D, k _ e, r⟩
section
variable {P : Program} {w : World} {A : Around} {E : Value → Shared → Prop} {s : Shared} {a : Addr} {l : List Str}
theorem add_s {k : Str} {u : Tok} {Q : Bool → Shared → Prop} (x : SetS P w s.heap a l) (hb : l.length + 1 < scanBound)
    (h : ∀ b h', Heap.SameBut a s.heap h' → SetS P w h' a (addU l k) → Q b { s with heap := h' }) : wpAny (model P w) A (setAddHashed a (.str k u) (hashStr w k)) Q E s := by
  obtain ⟨D, ho, F, W⟩ := x
  by_cases hk : k ∈ l
  · have h1 := h false s.heap (Heap.SameBut.refl a s.heap) ⟨D, ho, by unfold addU; rw [if_pos hk]; exact F, W⟩
    obtain ⟨es, ep, t⟩ := D
    have sz : es.size = l.length := F.sz
    have el : ElemsOf (strKind P w) es.toList := F.el
    have hf : t.fits es.size = true := F.fit
    have ky : (strKind P w).is k (.str k u) = true := is_str k u
    unfold setAddHashed setAddHashedIn
    apply wpAny_holding
    apply wpAny_bind
    refine wpAny_setState_of ho (show (sObj "set" (es, ep, t)).data = _ from rfl) hf ?_
    dsimp only
    rw [byScan_of (x := Value.str k u) rfl (by omega) el, if_pos rfl]
    unfold setAddByScan
    apply wpAny_bind
    apply wpAny_bind
    apply wpAny_rule
    apply wpAny_bind
    refine wpAny_setScan_of (knd := strKind P w) ky ho (show (sObj "set" (es, ep, t)).data = _ from rfl) hf el ?_
    cases q : List.findIdx? (fun e => (strKind P w).is k e.2) es.toList with
    | some j => exact wpAny_pure (wpAny_pure h1)
    | none =>
      obtain ⟨e, he, z⟩ := (F.mem k).mp hk
      have c := List.findIdx?_eq_none_iff.mp q e he
      rw [z] at c; cases c
  · refine add_x ho F hk hb (h true _ (Heap.SameBut.update s.heap a _) ⟨_, get_upd _ ho rfl, ?_, way_add W⟩)
    unfold addU; rw [if_neg hk]; exact add_ok u F
/-- the loop of update over texts -/
theorem loop {I : Addr} {fp wr : List Addr} {G : Array GenState → Array GenState → Prop} {n : Nat} {Pv : Nat → Value → Prop} {St : Nat → Shared → Prop} {R : Result → Shared → Prop} {xs : List Str} {S : Addr}
    (W : WalksS P w A.in1 I fp wr G n Pv St) (nf : S ∉ fp) (hn : xs.length = n) (hb : n + 1 < scanBound) (hv : ∀ i v, Pv i v → ∃ y t, xs[i]? = some y ∧ v = .str y t)
    : ∀ (k i : Nat) (s : Shared), k + i = n → St i s → SetS P w s.heap S (uni (xs.take i)) →
      (∀ s', Moved (S :: wr) G s s' → SetS P w s'.heap S (uni xs) → R (.ok (.ret .none)) s') → codeAny (model P w) A (.builtin "set.update.loop" ⟨[.ref S, .ref I], []⟩) R s := by
  have nw : S ∉ wr := fun z => nf (W.sub _ z)
  intro k
  induction k with
  | zero =>
    intro i s hk st hs hR
    have e : i = n := by omega
    subst e
    apply codeAny_builtin F.entry_set_update_loop
    rw [Around.under_plainId (F.plain_set_update_loop) _]
    apply wpAny_bind (m := pyNext (.ref I))
    refine W.done s _ _ st fun s' hm => ?_
    rw [List.take_of_length_le (by omega)] at hs
    refine wpAny_pure (hR s' (hm.mono fun b z => List.mem_cons_of_mem _ z) (hs.at fun o z => ?_))
    exact hm.heap S o nw z
  | succ k ih =>
    intro i s hk st hs hR
    apply codeAny_builtin F.entry_set_update_loop
    rw [Around.under_plainId (F.plain_set_update_loop) _]
    apply wpAny_bind (m := pyNext (.ref I))
    refine W.item i s _ _ (by omega) st fun v s' hP st' hm => ?_
    obtain ⟨y, t, hy, rfl⟩ := hv i v hP
    have hs' := hs.at (h' := s'.heap) fun o z => hm.heap S o nw z
    show wpAny _ A.in1 (holding [Value.str y t] (setAdd S (.str y t)) >>= _) _ _ s'
    apply wpAny_bind
    apply wpAny_holding
    unfold setAdd
    apply wpAny_holding
    apply wpAny_bind
    refine (strKind P w).pyHash (k := y) (is_str y t) ?_
    have ul := uni_len (xs.take i)
    rw [List.length_take] at ul
    refine add_s (s := { s' with toks := s'.toks + 1 }) hs' (by omega) fun b h' sb h2 => ?_
    refine wpAny_pure ⟨plainId_quiet (F.plain_set_update_loop) _, ih (i + 1) _ (by omega) (W.frame _ s' _ _ st' (Nat.le_succ _) fun c hc o e => ?_) ?_ fun s2 hm2 h3 => ?_⟩
    · exact (sb.2 c fun z => nf (z ▸ hc)).trans e
    · rw [List.take_add_one, hy, Option.toList_some, uni_snoc]; exact h2
    · refine hR s2 (Moved.trans W.gtrans ((hm.mono fun c z => List.mem_cons_of_mem _ z).then_heap (Nat.le_succ _) fun c o hc e => ?_) hm2) h3
      exact (sb.2 c fun z => hc (z ▸ List.mem_cons_self)).trans e
/-- the bare set that is laid first -/
def bare (w : World) : Obj := { cls := .type "set", dict := none, data := .set #[] 0 (.fresh 0 0 (!w.params.followText "set-order")) }
theorem bare_set {h : Heap} {b : Addr} (e : h.get? b = some (bare w)) : SetS P w h b [] := by
  refine ⟨(#[], 0, .fresh 0 0 (!w.params.followText "set-order")), e, TxOk.nil (by rfl), List.Pairwise.nil, ?_⟩
  show _ ∨ (!w.params.followText "set-order") = true
  cases w.params.followText "set-order"
  · exact .inr rfl
  · exact .inl rfl
set_option maxHeartbeats 16000000 in
theorem call_set {b : Addr} {its : Array Value} {xs : List Str} {Q : Value → Shared → Prop} (hh : A.handled = none) (hl : s.heap.IsList b its) (hv : StrsAre its.toList xs) (hb : xs.length + 1 < scanBound)
    (h : ∀ h' tk, SetS P w h' s.heap.objs.size (uni xs) → (∀ c o, s.heap.get? c = some o → h'.get? c = some o) → Q (.ref s.heap.objs.size) { s with heap := h', toks := tk }) :
    wpAny (model P w) A (call (.type "set") [.ref b]) Q E s := by
  have sz : xs.length = its.size := by rw [← StrsAre.len_eq hv, Array.length_toList]
  obtain ⟨mc, mt, hmro⟩ := F.called_set.mro
  have i1 := F.called_set.made
  have i2 := F.called_set.sub
  have i3 := F.called_set.notType
  have i4 := F.called_set.canCreate
  have i5 := F.typeCall_set_1 (.ref b)
  apply wpAny_call
  apply codeAny_of_tree
  show wpAny _ _ (callAny (.type "set") ⟨[.ref b], []⟩) _ _ _
  refine wpAny_pure ⟨Code.quiet_builtin _ (by decide +kernel), ?_⟩
  apply codeAny_builtin F.entry_type_call
  rw [Around.under_plain (weight_type_call_type "set" [.ref b] []) (by rfl)]
  repeat (any_goals first | assumption | wp_step)
  refine codeAny_mono (code_set_led1 (.ref b) (E := E) (Q₁ := fun v s1 => v = .ref s.heap.objs.size ∧ s1 = { s with heap := s.heap.push (bare w) }) ⟨rfl, rfl⟩) fun r s1 hr => ?_
  match r, hr with
  | .error _, hr => exact hr
  | .ok (.ret v), ⟨e1, e2⟩ =>
    subst e1; subst e2
    have g0 : (s.heap.push (bare w)).get? s.heap.objs.size = some (bare w) := Heap.get?_push_size _ rfl
    have ty0 : Shared.TypeIs { s with heap := s.heap.push (bare w) } (.ref s.heap.objs.size) "set" := ⟨_, g0, rfl⟩
    have j1 := F.called_set.init.lookup
    have j2 := F.called_set.init.bind (.ref s.heap.objs.size)
    repeat (any_goals first | assumption | wp_step)
    refine codeAny_mono (codeAny_call_builtin (R := wants (fun r s2 => r = .none ∧ ∃ h' tk, s2 = { s with heap := h', toks := tk } ∧ SetS P w h' s.heap.objs.size (uni xs) ∧ ∀ c o, s.heap.get? c = some o → h'.get? c = some o) E)
      F.called_set.init.plain F.entry_set_init (check_set_init_1 ty0 ?_)) fun r2 s2 hr2 => ?_
    · obtain ⟨lo, glo, lc, ln, ld⟩ := hl
      obtain ⟨cls, dic, dat, slo⟩ := lo
      simp only at lc ld
      subst lc; subst ld
      have glo' := Heap.get?_push_of_some (bare w) glo
      have isl : (s.heap.push (bare w)).IsList b its := ⟨_, glo', rfl, ln, rfl⟩
      have q1 := F.sub_list_set
      have q2 := F.sub_list_frozenset
      have q3 : (Value.type "list" == Value.type "dict") = false := by decide
      have blt : b < s.heap.objs.size := Heap.lt_size glo
      unfold Builtin.«set.__init__» noKeywords Builtin.Frozenset.updateFrom
      generalize hPI : pyIter = PI
      wp_walk
      subst hPI
      apply wpAny_pyIter_list isl
      apply wpAny_bind
      apply wpAny_runValue
      have sz2 : (s.heap.push (bare w)).objs.size = s.heap.objs.size + 1 := Heap.size_push ..
      have n1 : b ≠ (s.heap.push (bare w)).objs.size := fun z => by rw [sz2] at z; exact Nat.ne_of_lt (Nat.lt_succ_of_lt blt) z
      have n2 : s.heap.objs.size ∉ [(s.heap.push (bare w)).objs.size, b] := by
        intro z
        rcases List.mem_cons.mp z with z | z
        · rw [sz2] at z; exact Nat.ne_of_lt (Nat.lt_succ_self _) z
        · rw [List.mem_singleton] at z; exact Nat.ne_of_gt blt z
      have vals : ∀ (i : Nat) (v : Value), its[i]? = some v → ∃ y t, xs[i]? = some y ∧ v = .str y t := fun i v e => by
        have hi : i < xs.length := by rw [sz]; exact (Array.getElem?_eq_some_iff.mp e).1
        obtain ⟨t, et⟩ := SS.strs_at hv i v (by rw [Array.getElem?_toList]; exact e)
        exact ⟨xs[i], t, List.getElem?_eq_getElem hi, by rw [et, List.getD_eq_getElem?_getD, List.getElem?_eq_getElem hi] <;> rfl⟩
      have hd3 : A.in1.in1.in1.handled = none := by simp [hh]
      refine loop (Walks.list hd3 _ b n1 its).toS n2 sz (by omega) vals its.size 0 _ (by omega) ⟨⟨_, Heap.get?_push_size _ rfl, rfl, rfl⟩, isl.push _⟩ ?_ ?_
      · exact bare_set (Heap.get?_push_of_some _ g0)
      · intro s2 hm hs
        obtain ⟨h2, g2, d2, t2, o2⟩ := s2
        have eg : g2 = s.gens := hm.gens
        have ed : d2 = s.drawn := hm.drawn
        have eo : o2 = s.os := hm.os
        subst eg; subst ed; subst eo
        show wpAny _ _ _ _ _ _
        apply wpAny_pure
        show wpAny _ _ (ret Value.none) _ _ _
        refine wpAny_pure ⟨rfl, h2, t2, rfl, hs, fun c o e => ?_⟩
        have cl := Heap.lt_size e
        refine hm.heap c o (fun z => ?_) (Heap.get?_push_of_some _ (Heap.get?_push_of_some _ e))
        rcases List.mem_cons.mp z with z | z
        · exact Nat.ne_of_lt cl z
        · rw [List.mem_singleton, sz2] at z; exact Nat.ne_of_lt (Nat.lt_succ_of_lt cl) z
    · match r2, hr2 with
      | .error _, hr2 => exact hr2
      | .ok (.ret v), ⟨e1, h', tk, e2, y1, y2⟩ =>
        subst e1; subst e2
        repeat (any_goals first | assumption | wp_step)
        exact h _ _ y1 y2
      | .ok .next, hr2 => exact hr2.elim
      | .ok .brk, hr2 => exact hr2.elim
      | .ok .cont, hr2 => exact hr2.elim
  | .ok .next, hr => exact hr.elim
  | .ok .brk, hr => exact hr.elim
  | .ok .cont, hr => exact hr.elim
end
end TS

set_option autoImplicit false
set_option maxRecDepth 100000
set_option maxHeartbeats 4000000
namespace TS
open PySem PySem.Spec PyProof.Rows L2 PySem.Froz
section
variable {P : Program} {w : World} {A : Around} {E : Value → Shared → Prop} {s : Shared} {b : Addr} {l : List Str}
theorem is_val {k : Str} {v : Value} (h : (PySem.strKind P w).is k v = true) : ∃ u, v = .str k u := by
  have h : Value.isStrOf k v = true := h
  cases v with
  | str y u =>
    refine ⟨u, ?_⟩
    have : y = k := by simpa [Value.isStrOf] using h
    rw [this]
  | _ => simp [Value.isStrOf] at h
theorem sorted_s {Q : Value → Shared → Prop} (x : SetS P w s.heap b l) (nd : l.Nodup) (hh : A.handled = none) (hb : l.length < scanBound)
    (hQ : ∀ s' p (out : Array Value) (c : Nat) (ys : List Str), (∀ c o, s.heap.get? c = some o → s'.heap.get? c = some o) → s'.gens = s.gens → s'.os = s.os → s.heap.objs.size ≤ p →
      s'.heap.get? p = some (seqObj "list" out c) → StrsAre out.toList ys → ys.Perm l → sortedS ys = true → Q (.ref p) s') : wpAny (model P w) A (call (.builtin "sorted") [.ref b]) Q E s := by
  obtain ⟨⟨es, ep, t⟩, ho, F, ris, led⟩ := x
  have sz : es.size = l.length := F.sz
  have el : ElemsOf (PySem.strKind P w) es.toList := F.el
  have fs : l.length ≤ sizeLine := by rw [← sz]; exact fits_of_scanBound (by omega)
  apply Calls.call_function_entry kind_sorted plain_sorted entry_sorted (args_sorted1 _)
  unfold Builtin.«sorted»
  apply wpAny_bind (m := checkCount "sorted" 1 1 _)
  apply wpAny_pure
  apply wpAny_bind
  refine collect_set (A := A.in1) hh ⟨_, ho, rfl, rfl⟩ F.fit (by show es.size < _; omega) ris led fun s1 vs k1 z1 g1 o1 pm => ?_
  have all : ∀ v ∈ vs, ∃ y u, v = Value.str y u := fun v hv => by
    obtain ⟨e, he, rfl⟩ := List.mem_map.mp (pm.mem_iff.mp hv)
    obtain ⟨⟨k, hk, _⟩, _⟩ := el e he
    exact ⟨k, is_val hk⟩
  have sa : StrsAre vs (vs.map strOf) := strsAre_map vs all
  have vl : vs.length = l.length := by rw [pm.length_eq, List.length_map]; exact sz
  have pl : (vs.map strOf).Perm l := by
    refine perm_of_sub nd (fun y hy => ?_) (by rw [List.length_map, vl]; exact Nat.le_refl _)
    obtain ⟨e, he, q⟩ := (F.mem y).mp hy
    obtain ⟨u, eu⟩ := is_val q
    exact List.mem_map.mpr ⟨e.2, pm.mem_iff.mpr (List.mem_map.mpr ⟨e, he, rfl⟩), by rw [eu]; rfl⟩
  apply wpAny_bind
  refine wpAny_newList ?_ (by omega)
  have g3 : (s1.heap.push (seqObj "list" vs.toArray 0)).get? s1.heap.objs.size = some (seqObj "list" vs.toArray 0) := Heap.get?_push_size _ rfl
  apply wpAny_bind
  apply wpAny_holding
  refine wpAny_call_entry slot_list_sort ⟨_, g3, rfl⟩ entry_list_sort (list_sort_treeKAny strKind_oneLt g3 sa.keysOf (fun v1 v2 r e => keyKind_strs (by rw [← e]; exact sa)) (by omega) fun st hp hs => ⟨_, rfl, ?_⟩) (args_list_sort _)
  obtain ⟨ys, y1, y2, y3⟩ := sorted_out_str sa hp hs
  obtain ⟨c, hc⟩ := sortedHeap_at (vs := vs) (out := (arrOf st).map (·.2)) g3
  refine wpAny_pure ⟨_, rfl, hQ _ s1.heap.objs.size _ c ys (fun d u e => ?_) g1 o1 z1 hc y1 (y2.trans pl) y3⟩
  have q := k1 d u e
  have lt := Heap.lt_size q
  exact (sortedHeap_old (Nat.ne_of_lt lt) (by rw [size_push']; exact Nat.lt_succ_of_lt lt)).trans (Heap.get?_push_of_some _ q)
end
end TS

set_option autoImplicit false
set_option maxRecDepth 100000
set_option maxHeartbeats 4000000
/-! a tuple turned about: t[::-1] -/
namespace RT
open PySem PySem.Spec PyProof.Rows L2 HT
theorem back_adjust (n : Nat) : Builtin.Slice.sliceAdjust none none (-1) (n : Int) = ((n : Int) - 1, -1) := rfl
theorem back_places (n : Nat) : Builtin.Slice.slicePlaces ((n : Int) - 1) (-1) (-1) = n := by
  unfold Builtin.Slice.slicePlaces
  rw [if_neg (by decide)]
  by_cases h : (n : Int) - 1 > -1
  · rw [if_pos h]; simp
  · rw [if_neg h]; simp; omega
theorem fm_map {α β : Type} {f : α → Option β} {g : α → β} : ∀ l : List α, (∀ k ∈ l, f k = some (g k)) → l.filterMap f = l.map g
  | [], _ => rfl
  | a :: l, h => by
    rw [List.filterMap_cons, h a List.mem_cons_self, List.map_cons, fm_map l fun k hk => h k (List.mem_cons_of_mem _ hk)]
theorem back_pick (xs : Array Value) : ((List.range xs.size).filterMap fun (k : Nat) => xs[(((xs.size : Int) - 1) + (k : Int) * (-1)).toNat]?).toArray = xs.toList.reverse.toArray := by
  congr 1
  apply List.ext_getElem?
  intro i
  have e : ∀ k ∈ List.range xs.size, xs[(((xs.size : Int) - 1) + (k : Int) * (-1)).toNat]? = some ((fun k => xs.getD (xs.size - 1 - k) .none) k) := fun k hk => by
    have hk := List.mem_range.mp hk
    have : (((xs.size : Int) - 1) + (k : Int) * (-1)).toNat = xs.size - 1 - k := by omega
    rw [this]
    have lt : xs.size - 1 - k < xs.size := by omega
    simp [Array.getD, lt]
  rw [fm_map _ e]
  by_cases hi : i < xs.size
  · rw [List.getElem?_map, List.getElem?_range hi, List.getElem?_reverse (by simpa using hi)]
    have lt : xs.size - 1 - i < xs.size := by omega
    simp [Array.getD, lt]
  · rw [List.getElem?_eq_none (by simp; omega), List.getElem?_eq_none (by simp; omega)]
section
variable {P : Program} {w : World} {A : Around} {E : Value → Shared → Prop} {s : Shared}
theorem back_applied {sl : Addr} {u : Tok} {n : Nat} {Q : Int × Int × Nat → Shared → Prop} (hs : s.heap.IsSliceOf sl .none .none (.int (-1) u)) (h : Q ((n : Int) - 1, -1, n) s) :
    wpAny (model P w) A (Builtin.Slice.sliceApplied (.ref sl) (pure (n : Int))) Q E s := by
  obtain ⟨o, e1, e2, e3⟩ := id hs
  unfold Builtin.Slice.sliceApplied Builtin.Slice.sliceFields
  apply wpAny_bind
  refine wpAny_bind (wpAny_field e1 e3 (x := .none) (by rfl) (wpAny_bind (wpAny_field e1 e3 (x := .none) (by rfl) (wpAny_bind (wpAny_field e1 e3 (x := .int (-1) u) (by rfl) (wpAny_pure ?_))))))
  apply wpAny_bind
  refine slicePart_int ?_
  show wpAny _ _ (if ((-1 : Int) == 0) = true then _ else _) _ _ s
  rw [if_neg (by decide)]
  apply wpAny_bind
  refine slicePart_none ?_
  apply wpAny_bind
  refine slicePart_none ?_
  apply wpAny_bind
  apply wpAny_pure
  show wpAny _ _ (match Builtin.Slice.sliceAdjust none none (-1) (n : Int) with | (lo, hi) => pure (lo, (-1 : Int), Builtin.Slice.slicePlaces lo hi (-1))) _ _ s
  rw [back_adjust]
  show wpAny _ _ (pure ((n : Int) - 1, (-1 : Int), Builtin.Slice.slicePlaces ((n : Int) - 1) (-1) (-1))) _ _ s
  rw [back_places]
  exact wpAny_pure h
theorem back_tuple {t sl : Addr} {items : Array Value} {u : Tok} {Q : Value → Shared → Prop} (ht : IsTup s.heap t items) (hs : s.heap.IsSliceOf sl .none .none (.int (-1) u)) (hz : items.size ≤ sizeLine)
    (h : Q (.ref s.heap.objs.size) { s with heap := s.heap.push { cls := .type "tuple", data := .seq items.toList.reverse.toArray } }) : wpAny (model P w) A (getItem (.ref t) (.ref sl)) Q E s := by
  have fit : sizeOk (.seq items.toList.reverse.toArray) := by
    show items.toList.reverse.toArray.size ≤ sizeLine
    simpa using hz
  obtain ⟨o, e1, e2, e3⟩ := id hs
  have ty : s.TypeIs (.ref sl) "slice" := ⟨o, e1, e2⟩
  unfold getItem
  try (with_reducible apply wpAny_holding)
  first | (refine wpAny_bind (wpAny_pure ?_)) | skip
  refine wpAny_bind (wpAny_sequenceKey (ht.typeIs) (by decide) ?_)
  apply wpAny_bind
  refine wpAny_callSpecial?_slot (name := Str.ofString "__getitem__") ht.typeIs PyProof.Rows.slot_tuple_getitem (wpAny_call_entry PyProof.Rows.slot_tuple_getitem ht.typeIs entry_tuple_getitem ?_ (args_tuple_getitem _ _))
  show wpAny _ _ (Builtin.Tuple.tupleItemsOf (.ref t) >>= _) _ _ s
  apply wpAny_bind
  refine tupleItemsOf_ ht ?_
  apply wpAny_bind
  refine wpAny_typeOf ty ?_
  rw [if_pos (by decide)]
  apply wpAny_bind
  refine back_applied hs ?_
  have no : ¬ ((((items.size : Int) - 1) == 0 && (-1 : Int) == 1 && items.size == items.size) = true) := by
    intro q
    rw [Bool.and_eq_true, Bool.and_eq_true] at q
    exact absurd q.1.2 (by decide)
  show wpAny _ _ (if (((items.size : Int) - 1) == 0 && (-1 : Int) == 1 && items.size == items.size) = true then _ else _) _ _ s
  rw [if_neg no, back_pick]
  first
    | exact wpAny_bind (m := Builtin.Tuple.tupleExact _) (wpAny_newObj_type (wpAny_pure (⟨_, rfl, wpAny_pure h⟩)) fit)
    | exact wpAny_bind (m := Builtin.Tuple.tupleExact _) (wpAny_newObj_type (wpAny_bind (wpAny_pure (wpAny_pure (⟨_, rfl, wpAny_pure h⟩)))) fit)
    | exact wpAny_bind (wpAny_bind (m := Builtin.Tuple.tupleExact _) (wpAny_newObj_type (wpAny_pure (wpAny_pure (⟨_, rfl, wpAny_pure h⟩))) fit))
    | exact wpAny_bind (wpAny_bind (m := Builtin.Tuple.tupleExact _) (wpAny_newObj_type (wpAny_pure (⟨_, rfl, wpAny_pure h⟩)) fit))
end
section
variable {X : Cx}
def tBack (K : PySem.W.Frag) (te : TE) : TE := fun σ H Q => te σ H fun x H1 => ∃ a xs, x = .ref a ∧ SqT K H1 a xs ∧ ∀ p, H1 p = none → Q (.ref p) (upd H1 p (.tup xs.reverse))
theorem pe_back {e : Expr} {te : TE} {k : Nat} {p1 p2 p3 pos : Pos} (he : PE X e te) : PE X (.Subscript e (.Slice none none (some (.UnaryOp .USub (.Constant (.int 1) k p1) p2)) p3) pos) (tBack X.K te) := by
  refine ⟨fun pins s σ H Q I h => Subscript_ (thn (he.run pins s σ H _ I h) fun v s1 ⟨x, H1, I1, r1, q1⟩ => ?_)⟩
  obtain ⟨a, xs, rfl, hx, q⟩ := q1
  cases r1
  have st : PO X (some (.UnaryOp .USub (.Constant (.int 1) k p1) p2)) (tPart (tUn (rU fun i => .int (-i)) (tC (.int 1)))) := po_some (pe_un un_neg pe_int)
  refine wpAny_Slice (thn (po_none.run pins s1 σ H1 (fun o z => o = none ∧ z = H1) I1 (And.intro rfl rfl)) fun vl s2 ⟨l, H2, I2, pl, el, e2⟩ => ?_)
  subst el; subst e2
  refine thn (po_none.run pins s2 σ H2 (fun o z => o = none ∧ z = H2) I2 (And.intro rfl rfl)) fun vu s3 ⟨u, H3, I3, pu, eu, e3⟩ => ?_
  subst eu; subst e3
  refine thn (st.run pins s3 σ H3 (fun o z => o = some (-1) ∧ z = H3) I3 ⟨1, rfl, -1, rfl, rfl, rfl⟩) fun vs s4 ⟨o, H4, I4, ps, eo, e4⟩ => ?_
  subst eo; subst e4
  cases pl; cases pu
  cases ps with
  | int i t =>
  have I5 : Inv X pins σ H4 { s4 with heap := s4.heap.push { cls := .type "slice", data := .fields #[.none, .none, .int (-1) t] } } := I4.kept (t' := s4.toks) fun b ob q => Heap.get?_push_of_some _ q
  obtain ⟨its, r, ht, hz⟩ := I5.tuple hx
  have hl := r.length
  show wpAny (model X.prog X.w) X.A (subscriptTail e (.Slice none none (some (.UnaryOp .USub (.Constant (.int 1) k p1) p2)) p3) (.ref a) (.ref s4.heap.objs.size)) (EP X pins σ Q) X.xe { s4 with heap := s4.heap.push { cls := .type "slice", data := .fields #[.none, .none, .int (-1) t] } }
  refine tail_any (ops := [.ref a, .ref s4.heap.objs.size]) ht.typeIs PyProof.Rows.slot_tuple_getitem.lookup ?_ (by with_unfolding_all rfl)
  refine back_tuple ht (Heap.IsSliceOf.new _ .none .none _) (by rw [List.size_toArray]; omega) ?_
  refine ⟨.ref _, _, I5.laid (t' := s4.toks) (o := .tup xs.reverse) (fun b ob q => Heap.get?_push_of_some _ q) (Nat.le_refl _) ?_, rfl, q _ (I5.hok.fresh (Nat.le_refl _))⟩
  exact ⟨by rw [List.length_reverse]; exact hz, _, r.reverse, IsTup.new _ _⟩
end
end RT

set_option autoImplicit false
set_option maxRecDepth 100000
set_option maxHeartbeats 4000000
namespace DL
open PySem PySem.Spec PyProof.Rows L2
section
variable {X : Cx}
/-! ### the truth of a value -/
def rdTru : D → Mem → (Bool → Mem → Prop) → Prop := fun d M k => match d with
  | .non => k false M
  | .bl b => k b M
  | .int i => k (i != 0) M
  | .str y => y.length ≤ sizeLine ∧ k ((y.length : Int) != 0) M
  | .tup ds => k (!ds.isEmpty) M
  | d => (match asR M d with | some ds => k (!ds.isEmpty) M | none => False)
def wTru (we : WE) : WT := fun Γ M k => we Γ M fun d M1 => rdTru d M1 k
theorem dats_emp {K : PySem.W.Frag} {H : Hp} {vs : List V} {ds : List D} (h : Dats K H vs ds) : (!ds.isEmpty) = !vs.isEmpty := by cases h <;> rfl
theorem tru_ok {Fr H0 H : Hp} {M : Mem} {v : V} {d : D} {k : Bool → Mem → Prop} {Q : Bool → Hp → Prop} (w : Wd X.K Fr H0 M H) (r : Dat X.K H0 v d) (h : rdTru d M k) (c : ContT X.K Fr H0 k Q) : ∃ b, TruV X.K v H b ∧ Q b H := by
  have fin : ∀ ds, asR M d = some ds → k (!ds.isEmpty) M → ∃ b, TruV X.K v H b ∧ Q b H := fun ds e h => by
    obtain ⟨a, ws, rfl, hs, hd⟩ := asR_ok w r e
    exact ⟨_, .inl ⟨_, hs, rfl⟩, c _ H0 H M (Same.refl _) w (by rw [← dats_emp hd]; exact h)⟩
  cases d with
  | non => cases r; exact ⟨_, rfl, c _ H0 H M (Same.refl _) w h⟩
  | bl b => cases r; exact ⟨_, rfl, c _ H0 H M (Same.refl _) w h⟩
  | int i => cases r; exact ⟨_, rfl, c _ H0 H M (Same.refl _) w h⟩
  | str y => cases r; exact ⟨_, ⟨h.1, rfl⟩, c _ H0 H M (Same.refl _) w h.2⟩
  | tup ds =>
    cases r with
    | tup hs hd => exact ⟨_, .inr (.inl ⟨_, same_t w.ex hs, rfl⟩), c _ H0 H M (Same.refl _) w (by rw [← dats_emp hd]; exact h)⟩
  | _ =>
    simp only [rdTru] at h
    split at h
    · rename_i ds e; exact fin ds e h
    · exact h.elim
theorem dt_truth {e : Expr} {w : WE} (h : DE X e w) (he : ∀ whole, isTrue e X.env whole = (do let v ← whole; standAt e.pos; holding [v] (truthy v)) := by intro _; rfl) : DT X e (wTru w) :=
  dt_of (pt_truth h.run he) fun σ H Q Γ Fr H0 M k h1 h2 h3 h4 => ⟨Γ, Fr, H0, M, _, h1, h2, h3, fun v H1 H' d M' e1 w1 r1 q1 => tru_ok w1 r1 q1 (fun b H2 H'' M'' e2 w2 q2 => h4 b H2 H'' M'' (e1.trans e2) w2 q2)⟩
/-! ### t[::-1] -/
def rdBack : D → Mem → KD → Prop := fun d M k => match d with
  | .tup ds => k (.tup ds.reverse) M
  | _ => False
theorem Dats.rev {K : PySem.W.Frag} {H : Hp} : ∀ {vs : List V} {ds : List D}, Dats K H vs ds → Dats K H vs.reverse ds.reverse
  | _, _, .nil => .nil
  | _, _, .cons (vs := vs) (ds := ds) h t => by
    rw [List.reverse_cons, List.reverse_cons]
    exact Dats.append (Dats.rev t) (.cons h .nil)
theorem de_back {e : Expr} {we : WE} {k : Nat} {p1 p2 p3 pos : Pos} (he : DE X e we) : DE X (.Subscript e (.Slice none none (some (.UnaryOp .USub (.Constant (.int 1) k p1) p2)) p3) pos) (wUn rdBack we) :=
  de_of (RT.pe_back he.run) fun σ H Q Γ Fr H0 M k h1 h2 h3 h4 => ⟨Γ, Fr, H0, M, _, h1, h2, h3, fun v H1 H' d M' e1 w1 r1 q1 => by
    unfold rdBack at q1
    split at q1
    · cases r1 with
      | tup hs hd => exact ⟨_, _, rfl, same_t w1.ex hs, fun p hp => h4 _ _ _ _ M' (e1.trans (same_new (w1.fresh hp))) (w1.new hp) (.tup (.of upd_same) ((Dats.rev hd).mono (same_new (w1.fresh hp)))) q1⟩
    · exact q1.elim⟩
/-! ### {} -/
def wDNew : WE := fun _ M k => ∀ p, M p = none → k (.cel p) (setM M p (.dct []))
theorem de_dnew {pos : Pos} : DE X (.Dict [] [] pos) wDNew :=
  de_of pe_dnewK fun σ H Q Γ Fr H0 M k h1 h2 h3 h4 p hp => h4 _ H0 _ _ _ (Same.refl _) (h2.newM hp (.dct .nil)) (.cel p) (h3 p (h2.freshM hp))
/-! ### list(x) -/
def rdList : FD := fun ds M k => match ds with
  | [x] => (match seqD M x with | some xs => k (.lst xs) M | none => False)
  | _ => False
theorem calld_list {K : PySem.W.Frag} : CallD K (fun xs H Q => ∃ p ys, xs = [.ref p] ∧ (SqL K H p ys ∨ SqT K H p ys) ∧ ∀ l, H l = none → Q (.ref l) (upd H l (.lst ys))) rdList := fun Fr H0 M H vs ds k Q w r h c => by
  unfold rdList at h
  split at h
  · obtain ⟨v, rfl, rv⟩ := dats1 r
    split at h
    · rename_i xs e
      obtain ⟨a, ws, rfl, hs, hd⟩ := seqD_ok w rv e
      exact ⟨a, ws, rfl, hs, fun l hl => c _ _ _ _ M (same_new (w.fresh hl)) (w.new hl) (.lst upd_same (hd.mono (same_new (w.fresh hl)))) h⟩
    · exact h.elim
  · exact h.elim
theorem de_list {e : Expr} {we : WE} {p pos : Pos} (hm : X.mg "list" = none) (he : DE X e we) (hs : starEach [e] X.env = (false, eval e X.env) :: starEach [] X.env := by rfl) (hg : Gl X "list" := by rfl) (hpl : (backTo pos (starEach [] X.env)).any (·.1) = false := by rfl) :
    DE X (.Call (.Name "list" p) [e] [] pos) (wCall rdList (wCons we wNil)) :=
  de_callTy call_list_of calld_list hm PyProof.Rows.boot_list (da_cons he da_nil hs) hg (by decide) (by decide) hs hpl
theorem vals_strs : ∀ {us : List Value} {ys : List Str}, StrsAre us ys → Vals (ys.map V.str) us
  | _, _, .nil => .nil
  | _, _, .cons y t h => .cons ⟨t, rfl⟩ (vals_strs h)
/-! ### len(set(xs)), sorted(set(xs)), xs a list of texts -/
def rdLenSet : FD := fun ds M k => match ds with
  | [x] => (match asR M x with | some xs => (match strsD xs with | some l => l.length + 1 < scanBound ∧ k (.int (TS.uni l).length) M | none => False) | none => False)
  | _ => False
def rdSortSet : FD := fun ds M k => match ds with
  | [x] => (match asR M x with | some xs => (match strsD xs with | some l => l.length + 1 < scanBound ∧ ∀ ys, ys.Perm (TS.uni l) → sortedS ys = true → k (.lst (ys.map D.str)) M | none => False) | none => False)
  | _ => False
theorem pe_lenSetS {a : Expr} {ta : TE} {p p2 q pos : Pos} (hc : X.calm = true) (hg : Gl X "len") (hm : X.mg "len" = none) (hg2 : Gl X "set") (hm2 : X.mg "set" = none) (ha : PE X a ta)
    (na : starEach [a] X.env = (false, eval a X.env) :: starEach [] X.env) :
    PE X (.Call (.Name "len" p) [.Call (.Name "set" p2) [a] [] q] [] pos) (fun σ H Q => ta σ H fun x H1 => ∃ l, ∃ xs : List Str, x = .ref l ∧ SqL X.K H1 l (xs.map V.str) ∧ xs.length + 1 < scanBound ∧ Q (.int (TS.uni xs).length) H1) := by
  refine ⟨fun pins s σ H Q I h => Call_ (ld_blt I hg hm boot_len ?_)⟩
  refine PyProof.Rows.callWith_builtin1 (PyProof.Rows.args_cons (Call_ (ld_blt I hg2 hm2 boot_set ?_)) rfl) rfl rfl
  refine PyProof.Rows.callWith_type1 (PyProof.Rows.args_cons (thn (ha.run pins s σ H _ I h) fun v s1 ⟨x, H1, I1, r1, q1⟩ => PyProof.Rows.args_nil ?_) na) na rfl
  obtain ⟨l, xs, rfl, hq, hb, q1⟩ := q1
  cases r1
  obtain ⟨its, r, pl, hz⟩ := I1.list hq
  refine TS.call_set (I1.ok.hd hc) pl.isList (by simpa using strsAre_of r) hb fun h' tk ⟨D, g, F, _⟩ hk => ?_
  refine PyProof.Rows.args_nil ?_
  have I2 : Inv X pins σ H1 { s1 with heap := h', toks := tk } := I1.kept fun b o e => hk b o e
  have sz : D.1.size = (TS.uni xs).length := F.sz
  have ul := TS.uni_len xs
  have sb : scanBound = 4096 := rfl
  refine call_len_set g ⟨rfl, rfl, rfl⟩ rfl F.fit (by omega) ⟨.int (TS.uni xs).length, H1, I2.tok _, ⟨_, by rw [sz]⟩, q1⟩
theorem pe_sortSetS {a : Expr} {ta : TE} {p p2 q pos : Pos} (hc : X.calm = true) (hg : Gl X "sorted") (hm : X.mg "sorted" = none) (hg2 : Gl X "set") (hm2 : X.mg "set" = none) (ha : PE X a ta)
    (na : starEach [a] X.env = (false, eval a X.env) :: starEach [] X.env) :
    PE X (.Call (.Name "sorted" p) [.Call (.Name "set" p2) [a] [] q] [] pos) (fun σ H Q => ta σ H fun x H1 => ∃ l, ∃ xs : List Str, x = .ref l ∧ SqL X.K H1 l (xs.map V.str) ∧ xs.length + 1 < scanBound ∧
      ∀ (ys : List Str) (p : Addr), ys.Perm (TS.uni xs) → sortedS ys = true → H1 p = none → Q (.ref p) (upd H1 p (.lst (ys.map V.str)))) := by
  refine ⟨fun pins s σ H Q I h => Call_ (ld_blt I hg hm boot_sorted ?_)⟩
  refine PyProof.Rows.callWith_builtin1 (PyProof.Rows.args_cons (Call_ (ld_blt I hg2 hm2 boot_set ?_)) rfl) rfl rfl
  refine PyProof.Rows.callWith_type1 (PyProof.Rows.args_cons (thn (ha.run pins s σ H _ I h) fun v s1 ⟨x, H1, I1, r1, q1⟩ => PyProof.Rows.args_nil ?_) na) na rfl
  obtain ⟨l, xs, rfl, hq, hb, q1⟩ := q1
  cases r1
  obtain ⟨its, r, pl, hz⟩ := I1.list hq
  refine TS.call_set (I1.ok.hd hc) pl.isList (by simpa using strsAre_of r) hb fun h' tk st hk => ?_
  refine PyProof.Rows.args_nil ?_
  have I2 : Inv X pins σ H1 { s1 with heap := h', toks := tk } := I1.kept fun b o e => hk b o e
  have ul := TS.uni_len xs
  have st2 : TS.SetS X.prog X.w ({ s1 with heap := h', toks := tk } : Shared).heap s1.heap.objs.size (TS.uni xs) := st
  have hb2 : (TS.uni xs).length < scanBound := by omega
  have sb : scanBound = 4096 := rfl
  generalize s1.heap.objs.size = b at st2 ⊢
  generalize ({ s1 with heap := h', toks := tk } : Shared) = s2 at I2 st2 ⊢
  refine TS.sorted_s st2 (TS.uni_nd xs) (I2.ok.hd hc) hb2 fun s' p' out c ys k g o hp hg hv hp2 hs => ?_
  have hn : H1 p' = none := I2.hok.fresh hp
  have hlen : (ys.map V.str).length ≤ sizeLine := by rw [List.length_map, hp2.length_eq, sizeLine_eq]; omega
  have J : Inv X pins σ (upd H1 p' (.lst (ys.map V.str))) { s2 with heap := s'.heap, gens := s'.gens, drawn := s'.drawn, toks := s'.toks } :=
    I2.call (ch := []) (Un.laid k hp hn) (I2.hok.laid k hp ⟨hlen, out.toList, c, vals_strs hv, hg⟩) (by rw [g]; exact I2.bare) (fun _ z => nomatch z)
  have e : s' = { s2 with heap := s'.heap, gens := s'.gens, drawn := s'.drawn, toks := s'.toks } := by cases s'; cases s2; cases o; rfl
  rw [e]
  exact ⟨.ref p', _, J, rfl, q1 ys p' hp2 hs hn⟩
theorem set_ok {Fr H0 H : Hp} {M : Mem} {v : V} {d : D} {xs : List D} {l : List Str} (w : Wd X.K Fr H0 M H) (r : Dat X.K H0 v d) (e : asR M d = some xs) (el : strsD xs = some l) : ∃ a, v = .ref a ∧ SqL X.K H a (l.map V.str) := by
  obtain ⟨a, ws, rfl, hs, hd⟩ := asR_ok w r e
  have := strsD_ok hd el
  subst this
  exact ⟨a, rfl, hs⟩
theorem de_lenSet {a : Expr} {we : WE} {p p2 q pos : Pos} (hc : X.calm = true) (hm : X.mg "len" = none) (hm2 : X.mg "set" = none) (ha : DE X a we) (na : starEach [a] X.env = (false, eval a X.env) :: starEach [] X.env := by rfl)
    (hg : Gl X "len" := by rfl) (hg2 : Gl X "set" := by rfl) : DE X (.Call (.Name "len" p) [.Call (.Name "set" p2) [a] [] q] [] pos) (wCall rdLenSet (wCons we wNil)) :=
  de_of (pe_lenSetS hc hg hm hg2 hm2 ha.run na) fun σ H Q Γ Fr H0 M k h1 h2 h3 h4 => ⟨Γ, Fr, H0, M, _, h1, h2, h3, fun v H1 H' d M' e1 w1 r1 q1 => by
    simp only [wNil, rdLenSet] at q1
    split at q1
    · rename_i xs e
      split at q1
      · rename_i l el
        obtain ⟨b, rfl, hs⟩ := set_ok w1 r1 e el
        exact ⟨b, l, rfl, hs, q1.1, h4 _ H1 H' _ M' e1 w1 (.int _) q1.2⟩
      · exact q1.elim
    · exact q1.elim⟩
theorem dats_strs' {K : PySem.W.Frag} {H : Hp} : ∀ l : List Str, Dats K H (l.map V.str) (l.map D.str)
  | [] => .nil
  | s :: l => .cons (.str s) (dats_strs' l)
theorem de_sortSet {a : Expr} {we : WE} {p p2 q pos : Pos} (hc : X.calm = true) (hm : X.mg "sorted" = none) (hm2 : X.mg "set" = none) (ha : DE X a we) (na : starEach [a] X.env = (false, eval a X.env) :: starEach [] X.env := by rfl)
    (hg : Gl X "sorted" := by rfl) (hg2 : Gl X "set" := by rfl) : DE X (.Call (.Name "sorted" p) [.Call (.Name "set" p2) [a] [] q] [] pos) (wCall rdSortSet (wCons we wNil)) :=
  de_of (pe_sortSetS hc hg hm hg2 hm2 ha.run na) fun σ H Q Γ Fr H0 M k h1 h2 h3 h4 => ⟨Γ, Fr, H0, M, _, h1, h2, h3, fun v H1 H' d M' e1 w1 r1 q1 => by
    simp only [wNil, rdSortSet] at q1
    split at q1
    · rename_i xs e
      split at q1
      · rename_i l el
        obtain ⟨b, rfl, hs⟩ := set_ok w1 r1 e el
        exact ⟨b, l, rfl, hs, q1.1, fun ys p' hp hs2 hn => h4 _ _ _ _ M' (e1.trans (same_new (w1.fresh hn))) (w1.new hn) (.lst upd_same (dats_strs' ys)) (q1.2 ys hp hs2)⟩
      · exact q1.elim
    · exact q1.elim⟩
end
end DL

set_option autoImplicit false
set_option maxRecDepth 100000
set_option maxHeartbeats 4000000
namespace DL
open PySem PySem.Spec PyProof.Rows L2
section
variable {X : Cx}
/-- a module's tuple -/
theorem de_gtup {x : Str} {A : Addr} {vs : List V} {ds : List D} {pos : Pos} (hm : X.mg x = some (.ref A)) (hs : ∀ H, SqT X.K H A vs) (hd : ∀ H, Dats X.K H vs ds) (hg : Gl X x := by rfl) (hb : (x == ("__debug__" : Str)) = false := by decide) : DE X (.Name x pos) (wC (.tup ds)) :=
  de_c (v := .ref A) (pe_glob hg hm rfl hb) fun H => .tup (hs H) (hd H)
end
/-! ### data without cells, and its equality -/
mutual
def clean : D → Bool
  | .non => true
  | .bl _ => true
  | .int _ => true
  | .str s => PyData.strOk s
  | .tup ds => cleans ds
  | .lst ds => cleans ds
  | _ => false
def cleans : List D → Bool
  | [] => true
  | d :: ds => clean d && cleans ds
end
mutual
def deep : D → Nat
  | .tup ds => deeps ds + 1
  | .lst ds => deeps ds + 1
  | _ => 0
def deeps : List D → Nat
  | [] => 0
  | d :: ds => max (deep d) (deeps ds)
end
mutual
theorem clean_toP (M : Mem) : ∀ d, clean d = true → ∃ p, toP M d = some p ∧ p.canLay0 = true ∧ p.depth = deep d
  | .non, _ => ⟨_, rfl, by unfold PyData.canLay0; rfl, by unfold PyData.depth deep; rfl⟩
  | .bl _, _ => ⟨_, rfl, by unfold PyData.canLay0; rfl, by unfold PyData.depth deep; rfl⟩
  | .int _, _ => ⟨_, rfl, by unfold PyData.canLay0; rfl, by unfold PyData.depth deep; rfl⟩
  | .str s, h => ⟨_, rfl, by unfold PyData.canLay0; unfold clean at h; exact h, by unfold PyData.depth deep; rfl⟩
  | .tup ds, h => by
    unfold clean at h
    obtain ⟨ps, e, a, b⟩ := clean_toPs M ds h
    exact ⟨.tuple ps, by unfold toP; rw [e], by unfold PyData.canLay0; exact a, by unfold PyData.depth deep; rw [b]⟩
  | .lst ds, h => by
    unfold clean at h
    obtain ⟨ps, e, a, b⟩ := clean_toPs M ds h
    exact ⟨.list ps, by unfold toP; rw [e], by unfold PyData.canLay0; exact a, by unfold PyData.depth deep; rw [b]⟩
  | .scr _, h => by unfold clean at h; cases h
  | .cel _, h => by unfold clean at h; cases h
  | .ty _, h => by unfold clean at h; cases h
theorem clean_toPs (M : Mem) : ∀ ds, cleans ds = true → ∃ ps, toPs M ds = some ps ∧ PyData.canLayAll0 ps = true ∧ PyData.depthAll ps = deeps ds
  | [], _ => ⟨[], rfl, by unfold PyData.canLayAll0; rfl, by unfold PyData.depthAll deeps; rfl⟩
  | d :: ds, h => by
    unfold cleans at h
    rw [Bool.and_eq_true] at h
    obtain ⟨p, e1, a1, b1⟩ := clean_toP M d h.1
    obtain ⟨ps, e2, a2, b2⟩ := clean_toPs M ds h.2
    exact ⟨p :: ps, by unfold toPs; rw [e1, e2], by unfold PyData.canLayAll0; rw [a1, a2]; rfl, by unfold PyData.depthAll deeps; rw [b1, b2]⟩
end
theorem cleans_mem : ∀ {ds : List D}, (∀ d ∈ ds, clean d = true) → cleans ds = true
  | [], _ => by unfold cleans; rfl
  | d :: ds, h => by
    unfold cleans
    rw [h d List.mem_cons_self, cleans_mem fun e he => h e (List.mem_cons_of_mem _ he)]; rfl
theorem deeps_mem {n : Nat} : ∀ {ds : List D}, (∀ d ∈ ds, deep d ≤ n) → deeps ds ≤ n
  | [], _ => by unfold deeps; omega
  | d :: ds, h => by
    unfold deeps
    have := h d List.mem_cons_self
    have := deeps_mem (n := n) fun e he => h e (List.mem_cons_of_mem _ he)
    omega
theorem shaped_clean {M : Mem} {d : D} (h : clean d = true) (hd : deep d ≤ 64) : ∃ p, toP M d = some p ∧ SeqAt.shaped p = true := by
  obtain ⟨p, e, a, b⟩ := clean_toP M d h
  exact ⟨p, e, by unfold SeqAt.shaped; rw [a, b, decide_eq_true hd]; rfl⟩
theorem toPC_lst {M : Mem} {ds : List D} : toPC M (.lst ds) = toP M (.lst ds) := rfl
/-- xs == [] -/
theorem eq_nil {f : Bool → Bool} {ds : List D} {M : Mem} {k : KD} (h : cleans ds = true) (hd : deeps ds ≤ 63) (hk : k (.bl (f ds.isEmpty)) M) : rdEq f (.lst ds) (.lst []) M k := by
  obtain ⟨ps, e, a, b⟩ := clean_toPs M ds h
  have e1 : toPC M (.lst ds) = some (.list ps) := by
    show toP M (.lst ds) = _
    unfold toP; rw [e]
  show rdEqP f (.lst ds) (.lst []) M k
  unfold rdEqP
  rw [e1, show toPC M (.lst []) = some (.list []) from rfl]
  refine ⟨?_, ?_, ?_⟩
  · unfold SeqAt.shaped PyData.canLay0 PyData.depth
    rw [a, b, decide_eq_true (by omega)]; rfl
  · unfold SeqAt.shaped PyData.canLay0 PyData.depth PyData.canLayAll0 PyData.depthAll; rfl
  · have : PyData.eqv (.list ps) (.list []) = ds.isEmpty := by
      cases ds with
      | nil => cases e; unfold PyData.eqv PyData.eqvAll; rfl
      | cons d ds =>
        unfold toPs at e
        split at e
        · cases e; unfold PyData.eqv PyData.eqvAll; rfl
        · cases e
    rw [this]; exact hk
/-- lists of texts -/
theorem toPs_strs (M : Mem) : ∀ l : List Str, toPs M (l.map D.str) = some (l.map PyData.str)
  | [] => rfl
  | s :: l => by rw [List.map_cons]; unfold toPs toP; rw [toPs_strs M l]; rfl
theorem eqv_strs : ∀ l m : List Str, PyData.eqvAll (l.map .str) (m.map .str) = decide (l = m)
  | [], [] => by unfold PyData.eqvAll; rfl
  | [], _ :: _ => by rw [List.map_nil, List.map_cons]; unfold PyData.eqvAll; simp
  | _ :: _, [] => by rw [List.map_nil, List.map_cons]; unfold PyData.eqvAll; simp
  | a :: l, b :: m => by
    rw [List.map_cons, List.map_cons]
    unfold PyData.eqvAll
    rw [eqv_strs l m]
    unfold PyData.eqv
    rw [Bool.eq_iff_iff]
    simp
theorem eq_strs {f : Bool → Bool} {l m : List Str} {M : Mem} {k : KD} (h1 : ∀ s ∈ l, PyData.strOk s = true) (h2 : ∀ s ∈ m, PyData.strOk s = true) (hk : k (.bl (f (decide (l = m)))) M) : rdEq f (.lst (l.map D.str)) (.lst (m.map D.str)) M k := by
  have sh : ∀ l : List Str, (∀ s ∈ l, PyData.strOk s = true) → SeqAt.shaped (.list (l.map PyData.str)) = true := fun l h => by
    have c : PyData.canLayAll0 (l.map PyData.str) = true ∧ PyData.depthAll (l.map PyData.str) = 0 := by
      induction l with
      | nil => exact ⟨by unfold PyData.canLayAll0; rfl, by unfold PyData.depthAll; rfl⟩
      | cons a l ih =>
        have ih := ih fun s hs => h s (List.mem_cons_of_mem _ hs)
        rw [List.map_cons]
        unfold PyData.canLayAll0 PyData.depthAll
        rw [ih.1, ih.2]
        exact ⟨by unfold PyData.canLay0; rw [h a List.mem_cons_self]; rfl, by unfold PyData.depth; rfl⟩
    unfold SeqAt.shaped PyData.canLay0 PyData.depth
    rw [c.1, c.2]; rfl
  have tp : ∀ l : List Str, toPC M (.lst (l.map D.str)) = some (.list (l.map PyData.str)) := fun l => by
    show toP M (.lst _) = _
    unfold toP; rw [toPs_strs]
  show rdEqP f (.lst (l.map D.str)) (.lst (m.map D.str)) M k
  unfold rdEqP
  rw [tp, tp]
  refine ⟨sh l h1, sh m h2, ?_⟩
  have : PyData.eqv (.list (l.map .str)) (.list (m.map .str)) = decide (l = m) := by unfold PyData.eqv; exact eqv_strs l m
  rw [this]; exact hk
end DL

set_option autoImplicit false
set_option maxRecDepth 100000
set_option maxHeartbeats 4000000
/-! what repr tells of data: nested lists and tuples, bare dicts among them -/
namespace RP
open PySem PySem.Spec PyProof.Rows L2
mutual
inductive DR (K : PySem.W.Frag) (H : Hp) : V → PyData → Prop
  | non : DR K H .non .none
  | bl (b : Bool) : DR K H (.bl b) (.bool b)
  | int (i : Int) : DR K H (.int i) (.int i)
  | str (y : Str) : DR K H (.str y) (.str y)
  | lst {a : Addr} {vs : List V} {ps : List PyData} : SqL K H a vs → DRs K H vs ps → DR K H (.ref a) (.list ps)
  | tup {a : Addr} {vs : List V} {ps : List PyData} : SqT K H a vs → DRs K H vs ps → DR K H (.ref a) (.tuple ps)
  | bare {a : Addr} : Rd H a (.dK []) → DR K H (.ref a) (.dict [])
inductive DRs (K : PySem.W.Frag) (H : Hp) : List V → List PyData → Prop
  | nil : DRs K H [] []
  | cons {v : V} {vs : List V} {p : PyData} {ps : List PyData} : DR K H v p → DRs K H vs ps → DRs K H (v :: vs) (p :: ps)
end
section
variable {X : Cx} {P : Program} {w : World} {pins : List (Addr × Obj)} {σ : List (Option V)} {H : Hp} {s : Shared}
/-- how the value at hand is shown within another -/
def Part (P : Program) (w : World) (s : Shared) (u : Value) (p : PyData) : Prop := ∃ as bs, Reads s.heap u p as ∧ ReadAtMost s.heap p.depth bs ∧ ReprK P w bs s.heap p.depth u p.shown
def Parts (P : Program) (w : World) (s : Shared) (us : List Value) (ps : List PyData) : Prop :=
  ∃ as bs, ReadsAll s.heap us ps as ∧ ReadAtMost s.heap (PyData.depthAll ps) bs ∧ ReprAllK P w bs s.heap (PyData.depthAll ps) us (PyData.shownAll ps)
theorem leaf {u : Value} {p : PyData} (r : Reads s.heap u p []) (h : ReprIs P w u p.shown) : Part P w s u p := ⟨[], [], r, (fun _ z => by cases z), .of_is h _ _ _⟩
/-- a bare dict's place -/
theorem bare_at (I : Inv X pins σ H s) {a : Addr} (e : Rd H a (.dK [])) : ∃ o n, s.heap.get? a = some o ∧ o.cls = .type "dict" ∧ o.data = .dict #[] n ∧ (a == sysModules) = false := by
  obtain ⟨_, hs, vs, r, o, es, ep, g, ex, d, _, pr, _⟩ := dk_rd I.hok e
  cases r
  have : es.toList = [] := by
    cases q : es.toList with
    | nil => rfl
    | cons e l => rw [q] at pr; cases pr
  have he : es = #[] := by cases es; simp only at this; rw [this]
  rw [he] at d
  exact ⟨o, ep, g, ex.1, d, hs⟩
mutual
theorem DR.part (I : Inv X pins σ H s) : ∀ (p : PyData) (v : V) (u : Value), DR X.K H v p → RelV v u → p.showable = true → p.shown.length ≤ sizeLine → Part P w s u p
  | .none, _, _, h, r, _, _ => by cases h; cases r; exact leaf .none (by unfold PyData.shown; exact ReprIs.none)
  | .bool b, _, _, h, r, _, _ => by cases h; cases r; exact leaf (.bool b) (by unfold PyData.shown; exact ReprIs.bool b)
  | .int i, _, _, h, r, hs, _ => by
    cases h; obtain ⟨t, rfl⟩ := r
    exact leaf (.int i t) (by unfold PyData.shown; exact ReprIs.int t (by unfold PyData.showable at hs; simpa using hs))
  | .str y, _, _, h, r, _, hz => by
    cases h; obtain ⟨t, rfl⟩ := r
    exact leaf (.str y t) (by unfold PyData.shown at *; exact ReprIs.str y t hz)
  | .list ps, _, _, h, r, hs, hz => by
    cases h with
    | lst sq hd =>
      cases r
      obtain ⟨its, rv, ⟨o, n, g, hc, _, dt⟩, _⟩ := I.list sq
      have hz2 : (listText (PyData.shownAll ps)).length ≤ sizeLine := by unfold PyData.shown at hz; exact hz
      obtain ⟨as, bs, r1, r2, r3⟩ := DR.parts I ps _ its hd rv (by unfold PyData.showable at hs; exact hs) fun t ht => Nat.le_trans (listText_mem_le ht) hz2
      have rd : Reads s.heap _ (.list ps) _ := .list g hc dt r1
      have dd : PyData.depthAll ps + 1 = PyData.depth (.list ps) := by unfold PyData.depth; rfl
      have nm := not_mem_of_deeper rd (n := PyData.depthAll ps) (by omega) r2
      refine ⟨_, _, rd, ReadAtMost.cons rd (by omega) r2, ?_⟩
      rw [← dd]
      unfold PyData.shown
      cases its with
      | nil =>
        cases r1
        unfold PyData.shownAll
        rw [listText_nil]
        exact ReprK.listEmpty g hc dt
      | cons x l => exact ReprK.list g hc dt nm (by simpa using r3.length_eq) fun i y e => r3.item i y (by simpa using e)
  | .tuple ps, _, _, h, r, hs, hz => by
    cases h with
    | tup sq hd =>
      cases r
      obtain ⟨its, rv, ⟨o, g, hc, n, dt⟩, _⟩ := I.tuple sq
      have hz2 : (tupleText (PyData.shownAll ps)).length ≤ sizeLine := by unfold PyData.shown at hz; exact hz
      obtain ⟨as, bs, r1, r2, r3⟩ := DR.parts I ps _ its hd rv (by unfold PyData.showable at hs; exact hs) fun t ht => Nat.le_trans (tupleText_mem_le ht) hz2
      have rd : Reads s.heap _ (.tuple ps) _ := .tuple g hc dt r1
      have dd : PyData.depthAll ps + 1 = PyData.depth (.tuple ps) := by unfold PyData.depth; rfl
      have nm := not_mem_of_deeper rd (n := PyData.depthAll ps) (by omega) r2
      refine ⟨_, _, rd, ReadAtMost.cons rd (by omega) r2, ?_⟩
      rw [← dd]
      unfold PyData.shown
      exact ReprK.tuple g hc dt nm r3
  | .dict kvs, _, _, h, r, hs, hz => by
    cases h with
    | bare e =>
      cases r
      obtain ⟨o, n, g, hc, dt, sm⟩ := bare_at I e
      have rd : Reads s.heap _ (.dict []) _ := .dict (kvs := []) g hc dt .nil .nil
      refine ⟨_, _, rd, ReadAtMost.cons (n := 0) (bs := []) rd (Nat.zero_le _) (fun _ z => by cases z), ?_⟩
      have dd : PyData.depth (.dict []) = 0 + 1 := by unfold PyData.depth PyData.depthKv; rfl
      rw [dd]
      unfold PyData.shown PyData.shownKv
      exact ReprK.dict g hc dt sm (fun z => by cases z) .nil
theorem DR.parts (I : Inv X pins σ H s) : ∀ (ps : List PyData) (vs : List V) (us : List Value), DRs X.K H vs ps → Vals vs us → PyData.showableAll ps = true → (∀ t ∈ PyData.shownAll ps, t.length ≤ sizeLine) → Parts P w s us ps
  | [], _, _, h, r, _, _ => by
    cases h; cases r
    exact ⟨[], [], .nil, (fun _ z => by cases z), by unfold PyData.shownAll; exact .nil⟩
  | p :: ps, _, _, h, r, hs, hz => by
    cases h with
    | cons h1 h2 =>
      cases r with
      | cons q1 q2 =>
        unfold PyData.showableAll at hs
        rw [Bool.and_eq_true] at hs
        unfold PyData.shownAll at hz
        obtain ⟨a1, b1, x1, x2, x3⟩ := DR.part I p _ _ h1 q1 hs.1 (hz _ List.mem_cons_self)
        obtain ⟨a2, b2, y1, y2, y3⟩ := DR.parts I ps _ _ h2 q2 hs.2 fun t ht => hz t (List.mem_cons_of_mem _ ht)
        refine ⟨_, b1 ++ b2, .cons x1 y1, ?_, ?_⟩
        · unfold PyData.depthAll
          exact (x2.mono (Nat.le_max_left _ _)).append (y2.mono (Nat.le_max_right _ _))
        · unfold PyData.depthAll PyData.shownAll
          exact .cons ((x3.more fun b hb => List.mem_append_left _ hb).level_le (Nat.le_max_left _ _)) (y3.more_le (fun b hb => List.mem_append_right _ hb) (Nat.le_max_right _ _))
end
/-- the same at the outmost place -/
theorem shows (I : Inv X pins σ H s) {a : Addr} {p : PyData} (h : DR X.K H (.ref a) p) (hs : p.showable = true) (hz : p.shown.length ≤ sizeLine) : ∃ T idr, ShowsBy P w s.heap a p T idr := by
  cases h with
  | lst sq hd =>
    rename_i vs ps
    obtain ⟨its, rv, ⟨o, n, g, hc, _, dt⟩, _⟩ := I.list sq
    have hz2 : (listText (PyData.shownAll ps)).length ≤ sizeLine := by unfold PyData.shown at hz; exact hz
    obtain ⟨as, bs, r1, r2, r3⟩ := DR.parts (P := P) (w := w) I ps _ its hd rv (by unfold PyData.showable at hs; exact hs) fun t ht => Nat.le_trans (listText_mem_le ht) hz2
    have rd : Reads s.heap _ (.list ps) _ := .list g hc dt r1
    have dd : PyData.depthAll ps + 1 = PyData.depth (.list ps) := by unfold PyData.depth; rfl
    have nm := not_mem_of_deeper rd (n := PyData.depthAll ps) (by omega) r2
    refine ⟨"list", "list.__repr__", F.slot_list_repr.toG, F.slot_list_str, F.slot_list_format, fun s' k => ⟨o, k _ _ g, hc⟩, fun A E s' Q hg hu hk hQ => ?_⟩
    rw [← dd] at hu
    unfold PyData.shown at hQ
    cases its with
    | nil =>
      cases r1
      unfold PyData.shownAll at hQ
      rw [listText_nil] at hQ
      exact call_list_repr_empty ⟨o, hk _ _ g, hc⟩ (hk _ _ g) dt (hQ s'.heap _ _ fun _ _ z => z)
    | cons x l => exact call_list_reprK g hc dt nm (by simpa using r3.length_eq) (fun i y e => r3.item i y (by simpa using e)) hg (fun b _ => Clear.nil b) hu hk hQ hz2
  | tup sq hd =>
    rename_i vs ps
    obtain ⟨its, rv, ⟨o, g, hc, n, dt⟩, _⟩ := I.tuple sq
    have hz2 : (tupleText (PyData.shownAll ps)).length ≤ sizeLine := by unfold PyData.shown at hz; exact hz
    obtain ⟨as, bs, r1, r2, r3⟩ := DR.parts (P := P) (w := w) I ps _ its hd rv (by unfold PyData.showable at hs; exact hs) fun t ht => Nat.le_trans (tupleText_mem_le ht) hz2
    have rd : Reads s.heap _ (.tuple ps) _ := .tuple g hc dt r1
    have dd : PyData.depthAll ps + 1 = PyData.depth (.tuple ps) := by unfold PyData.depth; rfl
    have nm := not_mem_of_deeper rd (n := PyData.depthAll ps) (by omega) r2
    refine ⟨"tuple", "tuple.__repr__", F.slot_tuple_repr, F.slot_tuple_str, F.slot_tuple_format, fun s' k => ⟨o, k _ _ g, hc⟩, fun A E s' Q hg hu hk hQ => ?_⟩
    rw [← dd] at hu
    unfold PyData.shown at hQ
    exact call_tuple_reprK g hc dt nm r3 hg (fun b _ => Clear.nil b) hu hk hQ hz2
  | bare e =>
    obtain ⟨o, n, g, hc, dt, sm⟩ := bare_at I e
    refine ⟨"dict", "dict.__repr__", F.slot_dict_repr, F.slot_dict_str, F.slot_dict_format, fun s' k => ⟨o, k _ _ g, hc⟩, fun A E s' Q hg hu hk hQ => ?_⟩
    have dd : PyData.depth (.dict []) = 0 + 1 := by unfold PyData.depth PyData.depthKv; rfl
    rw [dd] at hu
    unfold PyData.shown PyData.shownKv at hQ
    exact call_dict_reprK (as := []) g hc dt sm (fun z => by cases z) .nil hg (fun b _ => Clear.nil b) hu hk hQ (by unfold PyData.shown PyData.shownKv at hz; exact hz)
end
def rRepr (K : PySem.W.Frag) : List V → Hp → VK → Prop := fun xs H Q => ∃ v p, xs = [v] ∧ DR K H v p ∧ p.showable = true ∧ p.shown.length ≤ sizeLine ∧ p.depth ≤ 64 ∧ Q (.str p.shown) H
theorem call_repr {X : Cx} {k : Nat} (hr : DG.RoomG k X.A) : CallR X (.builtin "repr") (rRepr X.K) := by
  intro pins s σ H xs us Q I rs h
  obtain ⟨v, p, rfl, hd, hs, hz, dp, q⟩ := h
  obtain ⟨u, rfl, r⟩ := vals1 rs
  have un := hr.r.un
  cases v with
  | ref a =>
    cases r
    obtain ⟨T, idr, S⟩ := shows (P := X.prog) (w := X.w) I hd hs hz
    refine call_repr_slot (by omega) (S.typeIs s fun _ _ z => z) S.slotRepr (S.call X.A.in1 _ s _ hr.g (by show X.A.units + 1 + p.depth < cLine; omega) (fun _ _ z => z) fun h' u' tk hk => ⟨_, _, rfl, ?_⟩)
    exact ⟨.str p.shown, H, I.kept (t' := tk) fun b o e => hk b o e, ⟨_, rfl⟩, q⟩
  | non =>
    cases hd; cases r
    unfold PyData.shown at q
    exact PySem.P.repr_of_none ⟨.str _, H, I.tok _, ⟨_, rfl⟩, q⟩
  | bl b =>
    cases hd; cases r
    unfold PyData.shown at q
    exact PySem.P.repr_of_bool ⟨.str _, H, I.tok _, ⟨_, rfl⟩, q⟩
  | int i =>
    cases hd; obtain ⟨t, rfl⟩ := r
    unfold PyData.shown at q
    exact PySem.P.repr_of_int (by unfold PyData.showable at hs; simpa using hs) ⟨.str _, H, I.tok _, ⟨_, rfl⟩, q⟩
  | str y =>
    cases hd; obtain ⟨t, rfl⟩ := r
    unfold PyData.shown at q hz
    exact PySem.P.repr_of_str ⟨.str _, H, I.tok _, ⟨_, rfl⟩, q⟩ hz
  | _ => cases hd
/-- str(x) of what is no text -/
def rStr (K : PySem.W.Frag) : List V → Hp → VK → Prop := fun xs H Q => ∃ v p, xs = [v] ∧ DR K H v p ∧ p.showable = true ∧ p.shown.length ≤ sizeLine ∧ p.depth ≤ 64 ∧ (∀ y, v ≠ .str y) ∧ Q (.str p.shown) H
theorem call_str {X : Cx} {k : Nat} (hr : DG.RoomG k X.A) : CallR X (.type "str") (rStr X.K) := by
  intro pins s σ H xs us Q I rs h
  obtain ⟨v, p, rfl, hd, hs, hz, dp, nt, q⟩ := h
  obtain ⟨u, rfl, r⟩ := vals1 rs
  have un := hr.r.un
  cases v with
  | ref a =>
    cases r
    have sh : ∀ (P : Program) (w : World), ∃ T idr, ShowsBy P w s.heap a p T idr := fun P w => shows I hd hs hz
    refine callType_new F.called_str (by decide) (F.typeCall_str_1 _) (F.newCall_str_1 _) (fun obj => F.args_object_init_2 obj _) F.entry_str_new
      (meets_str_new (S := fun A' R s' => A'.guards = some [] ∧ A'.units + (p.depth + 2) < cLine ∧ (∀ b o, s.heap.get? b = some o → s'.heap.get? b = some o) ∧
        ∀ h' u tk, (∀ b o, s'.heap.get? b = some o → h'.get? b = some o) → R (.ok (.ret (.str p.shown u))) { s' with heap := h', toks := tk }) fun P w A' R s' z => ?_) ?_
    · obtain ⟨T, idr, S⟩ := sh P w
      exact wpAny_strOf_slot rfl (by have := z.2.1; show A'.units + 1 + 1 < cLine; omega) (S.typeIs s' z.2.2.1) S.slotStr S.slotRepr
        (S.call A'.in1.in1 _ s' _ z.1 (by have := z.2.1; show A'.units + 1 + 1 + p.depth < cLine; omega) z.2.2.1 fun h' u tk hk => ⟨_, _, rfl, z.2.2.2 h' u tk hk⟩)
    · exact ⟨hr.g, (by show X.A.units + 1 + (p.depth + 2) < cLine; omega), (fun _ _ z => z), fun h' u tk hk => ⟨typeIs_str _ _ _, ⟨.str p.shown, H, I.kept (t' := tk) fun b o e => hk b o e, ⟨_, rfl⟩, q⟩⟩⟩
  | non =>
    cases hd; cases r
    unfold PyData.shown at q
    exact PySem.P.str_of_none ⟨.str _, H, I.tok _, ⟨_, rfl⟩, q⟩
  | bl b =>
    cases hd; cases r
    unfold PyData.shown at q
    exact PySem.P.str_of_bool ⟨.str _, H, I.tok _, ⟨_, rfl⟩, q⟩
  | int i =>
    cases hd; obtain ⟨t, rfl⟩ := r
    unfold PyData.shown at q
    exact PySem.P.str_of_int (by unfold PyData.showable at hs; simpa using hs) ⟨.str _, H, I.tok _, ⟨_, rfl⟩, q⟩
  | str y => exact absurd rfl (nt y)
  | _ => cases hd
end RP

set_option autoImplicit false
set_option maxRecDepth 100000
set_option maxHeartbeats 4000000
/-! repr in the layer; truths as numbers; a text's capitals; str() of anything -/
namespace DL
open PySem PySem.Spec PyProof.Rows L2
mutual
def toR (M : Mem) : D → Option PyData
  | .non => some .none
  | .bl b => some (.bool b)
  | .int i => some (.int i)
  | .str s => some (.str s)
  | .tup ds => match toRs M ds with | some ps => some (.tuple ps) | none => none
  | .lst ds => match toRs M ds with | some ps => some (.list ps) | none => none
  | .cel a => match M a with | some (.dct []) => some (.dict []) | _ => none
  | _ => none
def toRs (M : Mem) : List D → Option (List PyData)
  | [] => some []
  | d :: ds => match toR M d, toRs M ds with | some p, some ps => some (p :: ps) | _, _ => none
end
section
variable {K : PySem.W.Frag} {Fr H0 H : Hp} {M : Mem}
mutual
theorem toR_ok (w : Wd K Fr H0 M H) : ∀ (d : D) (v : V) (p : PyData), Dat K H0 v d → toR M d = some p → RP.DR K H v p
  | .non, _, _, .non, e => by cases e; exact .non
  | .bl _, _, _, .bl b, e => by cases e; exact .bl b
  | .int _, _, _, .int b, e => by cases e; exact .int b
  | .str _, _, _, .str b, e => by cases e; exact .str b
  | .tup ds, _, _, .tup hs hd, e => by
    unfold toR at e
    split at e
    · rename_i ps q; cases e; exact .tup (same_t w.ex hs) (toRs_ok w ds _ ps hd q)
    · cases e
  | .lst ds, _, _, .lst hs hd, e => by
    unfold toR at e
    split at e
    · rename_i ps q; cases e; exact .lst (.of (w.ex _ _ hs)) (toRs_ok w ds _ ps hd q)
    · cases e
  | .cel a, _, _, .cel _, e => by
    unfold toR at e
    split at e
    · rename_i q
      cases e
      obtain ⟨_, o, ho, hc⟩ := w.mem _ _ q
      cases hc with
      | dct r => cases r; exact .bare (.inl ho)
    · cases e
  | .scr _, _, _, _, e => by cases e
  | .ty _, _, _, _, e => by cases e
theorem toRs_ok (w : Wd K Fr H0 M H) : ∀ (ds : List D) (vs : List V) (ps : List PyData), Dats K H0 vs ds → toRs M ds = some ps → RP.DRs K H vs ps
  | [], _, _, .nil, e => by cases e; exact .nil
  | d :: ds, _, _, .cons h t, e => by
    unfold toRs at e
    split at e
    · rename_i p ps q1 q2
      cases e
      exact .cons (toR_ok w d _ p h q1) (toRs_ok w ds _ ps t q2)
    · cases e
end
def rdRepr : FD := fun ds M k => match ds with
  | [x] => (match toR M x with | some p => p.showable = true ∧ p.shown.length ≤ sizeLine ∧ p.depth ≤ 64 ∧ k (.str p.shown) M | none => False)
  | _ => False
theorem calld_repr : CallD K (RP.rRepr K) rdRepr := fun Fr H0 M H vs ds k Q w r h c => by
  unfold rdRepr at h
  split at h
  · obtain ⟨v, rfl, rv⟩ := dats1 r
    split at h
    · rename_i p e
      exact ⟨v, p, rfl, toR_ok w _ _ _ rv e, h.1, h.2.1, h.2.2.1, c _ H0 H _ M (Same.refl _) w (.str _) h.2.2.2⟩
    · exact h.elim
  · exact h.elim
end
theorem boot_repr : bootBuiltins "repr" = some (.builtin "repr") := by decide +kernel
theorem de_repr {X : Cx} {k : Nat} {e : Expr} {we : WE} {p pos : Pos} (hr : DG.RoomG k X.A) (hm : X.mg "repr" = none) (he : DE X e we) (hs : starEach [e] X.env = (false, eval e X.env) :: starEach [] X.env := by rfl) (hg : Gl X "repr" := by rfl) (hpl : (backTo pos (starEach [] X.env)).any (·.1) = false := by rfl) :
    DE X (.Call (.Name "repr" p) [e] [] pos) (wCall rdRepr (wCons we wNil)) :=
  de_callB (RP.call_repr hr) calld_repr hm boot_repr (da_cons he da_nil hs) hg (by decide) (by decide) hs hpl
end DL

set_option autoImplicit false
set_option maxRecDepth 100000
set_option maxHeartbeats 4000000
/-! a tuple of anything, held against the empty one -/
namespace EQ
open PySem PySem.Spec PyProof.Rows L2
def rMt (K : PySem.W.Frag) (f : Bool → Bool) : R2 := fun x y H Q => ∃ a b xs, x = .ref a ∧ y = .ref b ∧ SqT K H a xs ∧ SqT K H b [] ∧ Q (.bl (f xs.isEmpty)) H
theorem mt_size {xs : List V} {its : List Value} (r : Vals xs its) : ((List.range (min its.toArray.size (#[] : Array Value).size)).all (fun _ => true) && its.toArray.size == (#[] : Array Value).size) = xs.isEmpty := by
  cases r <;> simp
section
variable {X : Cx}
theorem op_eqMt (hu : X.A.units + 64 < cLine) : OpR X (compareOp .Eq) (rMt X.K id) := by
  intro pins s σ H x y v u Q I rx ry h
  obtain ⟨a, b, xs, rfl, rfl, ha, hb, q⟩ := h
  cases rx; cases ry
  obtain ⟨its, r, pl, _⟩ := I.tuple ha
  obtain ⟨jts, r2, pl2, _⟩ := I.tuple hb
  cases r2
  refine SeqAt.eq_tupleAt (e := fun _ => true) pl pl2 (by omega) (fun j h1 h2 => absurd h2 (Nat.not_lt_zero _)) ?_
  have e : ((List.range (min its.toArray.size ([] : List Value).toArray.size)).all (fun _ => true) && its.toArray.size == ([] : List Value).toArray.size) = xs.isEmpty := mt_size r
  rw [e]
  exact ⟨.bl _, H, I, rfl, q⟩
theorem op_neMt (hu : X.A.units + 64 < cLine) : OpR X (compareOp .NotEq) (rMt X.K not) := by
  intro pins s σ H x y v u Q I rx ry h
  obtain ⟨a, b, xs, rfl, rfl, ha, hb, q⟩ := h
  cases rx; cases ry
  obtain ⟨its, r, pl, _⟩ := I.tuple ha
  obtain ⟨jts, r2, pl2, _⟩ := I.tuple hb
  cases r2
  refine SeqAt.RcNeAt.tuples (e := fun _ => true) pl pl2 (by omega) (fun j h1 h2 => absurd h2 (Nat.not_lt_zero _)) _ _ _ _ ?_
  have e : ((List.range (min its.toArray.size ([] : List Value).toArray.size)).all (fun _ => true) && its.toArray.size == ([] : List Value).toArray.size) = xs.isEmpty := mt_size r
  rw [e]
  exact ⟨.bl _, H, I, rfl, q⟩
end
/-! a text held against a dict -/
open PySem.AutoSeq1 (wpAny_loadPart') in
theorem str_dict0 (b : Str) (u : Tok) (l : Addr) (c : Value) (es : Array DictEntry) (n : Nat) (dd : Option Addr) (sl : Array (Option Value)) :
    Meets (Builtin.«str.__eq__» ⟨[.str b u, .ref l], []⟩) (fun _ R s => s.heap.get? l = some { cls := c, dict := dd, data := .dict es n, slots := sl } ∧ R (.ok (.ret .notImplemented)) s) :=
  .of_wp fun P w A R s h => by
    obtain ⟨hp, g, d, tk, os⟩ := s
    obtain ⟨q1, q2⟩ := h
    wp_walk using wpAny_loadPart' q1, wpAny_load q1
    exact ⟨_, rfl, q2⟩
open PySem.AutoSeq1 (wpAny_loadPart') in
theorem dict_str0 (b : Str) (u : Tok) (l : Addr) (es : Array DictEntry) (n : Nat) (dd : Option Addr) (sl : Array (Option Value)) (f : isSubtype (.type "str") (.type "dict") = pure false) :
    Meets (Builtin.«dict.__eq__» ⟨[.ref l, .str b u], []⟩) (fun _ R s => s.heap.get? l = some { cls := .type "dict", dict := dd, data := .dict es n, slots := sl } ∧ R (.ok (.ret .notImplemented)) s) :=
  .of_wp fun P w A R s h => by
    obtain ⟨hp, g, d, tk, os⟩ := s
    obtain ⟨q1, q2⟩ := h
    wp_walk using wpAny_loadPart' q1, wpAny_load q1
    exact ⟨_, rfl, q2⟩
theorem eq_str_dict {A : Around} {s : Shared} {l : Addr} {o : Obj} {es : Array DictEntry} {n : Nat} (b : Str) (u : Tok) (ho : s.heap.get? l = some o) (hc : o.cls = .type "dict") (hd : o.data = .dict es n) (hu : A.units < cLine) :
    SeqAt.EqAt A s (.str b u) (.ref l) false := fun P w E Q h => by
  obtain ⟨cls, dd, data, sl⟩ := o
  simp only at hc hd
  subst hc hd
  unfold eqBool
  apply wpAny_holding
  refine wpAny_ite_split (fun e => absurd (eq_of_beq e) nofun) fun _ => wpAny_bind ?_
  exact SeqAt.rc_eq_decline_or (k := false) (typeIs_str s b u) ⟨_, ho, rfl⟩ (by decide) PySem.F.sub_dict_str PySem.F.slot_str_eq PySem.F.slot_dict_eq_refl
    (fun _ z => call_meets PySem.F.slot_str_eq (typeIs_str s b u) PySem.F.entry_str_eq (PySem.F.args_str_eq_2 _ _) (str_dict0 b u l (.type "dict") es n dd sl) ⟨ho, z⟩)
    (fun _ z => call_meets PySem.F.slot_dict_eq_refl ⟨_, ho, rfl⟩ PySem.F.entry_dict_eq (PySem.F.args_dict_eq_2 _ _) (dict_str0 b u l es n dd sl PySem.F.sub_str_dict) ⟨ho, z⟩)
    (fun _ z => wpAny_of_eq (show isSame (.str b u) (.ref l) = pure false from rfl) z) (.inr hu) (wpAny_truthy_bool h)
/-! such a thing in a list or tuple of texts -/
def Odd (K : PySem.W.Frag) (H : Hp) (x : V) : Prop := ∃ a, x = .ref a ∧ ((∃ xs, SqL K H a xs) ∨ (∃ xs, SqT K H a xs) ∨ ∃ kvs, Rd H a (.dK kvs))
section
variable {X : Cx} {pins : List (Addr × Obj)} {σ : List (Option V)} {H : Hp} {s : Shared}
theorem odd_str (I : Inv X pins σ H s) {A : Around} {x : V} {v : Value} (h : Odd X.K H x) (r : RelV x v) (hu : A.units < cLine) (b : Str) (u : Tok) : SeqAt.EqAt A s (.str b u) v false := by
  obtain ⟨a, rfl, h⟩ := h
  cases r
  rcases h with ⟨xs, h⟩ | ⟨xs, h⟩ | ⟨kvs, h⟩
  · obtain ⟨its, _, pl, _⟩ := I.list h
    exact SeqAt.EqAt.str_list b u pl.isList hu
  · obtain ⟨its, _, pl, _⟩ := I.tuple h
    exact SeqAt.EqAt.str_tuple b u pl hu
  · obtain ⟨_, _, vs, _, o, es, ep, g, ex, d, _⟩ := dk_rd I.hok h
    exact eq_str_dict b u g ex.1 d hu
def rInOdd (K : PySem.W.Frag) (f : Bool → Bool) : R2 := fun x y H Q => ∃ p, ∃ l : List Str, y = .ref p ∧ (SqL K H p (l.map V.str) ∨ SqT K H p (l.map V.str)) ∧ Odd K H x ∧ Q (.bl (f false)) H
theorem texts_odd (I : Inv X pins σ H s) {A : Around} {x : V} {v : Value} (h : Odd X.K H x) (r : RelV x v) (hu : A.units < cLine) : ∀ {l : List Str} {us : List Value}, Vals (l.map V.str) us → ∀ z ∈ us, SeqAt.EqAt A s z v ((fun _ => false) z)
  | [], _, .nil => fun z hz => by cases hz
  | b :: l, _, .cons r1 r2 => fun z hz => by
    rcases List.mem_cons.mp hz with e | e
    · obtain ⟨u, e1⟩ := r1
      rw [e, e1]; exact odd_str I h r hu b u
    · exact texts_odd I h r hu r2 z e
theorem op_inOdd (hu : X.A.units + 64 < cLine) : OpR X (compareOp .In) (rInOdd X.K id) := by
  intro pins s σ H x y v u Q I rx ry h
  obtain ⟨p, l, rfl, hq, ho, q⟩ := h
  cases ry
  have no : ∀ us : List Value, us.toArray.any (fun _ => false) = false := fun us => by simp
  rcases hq with hq | hq
  · obtain ⟨its, r, pl, _⟩ := I.list hq
    refine SeqAt.in_listAt (fun _ => false) pl.isList (fun z hz => texts_odd I ho rx (by show X.A.units + 1 < _; omega) r z (by simpa using hz)) ?_
    rw [no]; exact ⟨.bl _, H, I, rfl, q⟩
  · obtain ⟨its, r, pl, _⟩ := I.tuple hq
    refine SeqAt.in_tupleAt (fun _ => false) pl (fun z hz => texts_odd I ho rx (by show X.A.units + 1 < _; omega) r z (by simpa using hz)) ?_
    rw [no]; exact ⟨.bl _, H, I, rfl, q⟩
theorem op_ninOdd (hu : X.A.units + 64 < cLine) : OpR X (compareOp .NotIn) (rInOdd X.K not) := by
  intro pins s σ H x y v u Q I rx ry h
  obtain ⟨p, l, rfl, hq, ho, q⟩ := h
  cases ry
  have no : ∀ us : List Value, us.toArray.any (fun _ => false) = false := fun us => by simp
  rcases hq with hq | hq
  · obtain ⟨its, r, pl, _⟩ := I.list hq
    refine SeqAt.notIn_listAt (fun _ => false) pl.isList (fun z hz => texts_odd I ho rx (by show X.A.units + 1 < _; omega) r z (by simpa using hz)) ?_
    rw [no]; exact ⟨.bl _, H, I, rfl, q⟩
  · obtain ⟨its, r, pl, _⟩ := I.tuple hq
    refine SeqAt.notIn_tupleAt (fun _ => false) pl (fun z hz => texts_odd I ho rx (by show X.A.units + 1 < _; omega) r z (by simpa using hz)) ?_
    rw [no]; exact ⟨.bl _, H, I, rfl, q⟩
end
end EQ

set_option autoImplicit false
set_option maxRecDepth 100000
set_option maxHeartbeats 4000000
/-! held against the empty tuple; anything looked for among texts -/
namespace DL
open PySem PySem.Spec PyProof.Rows L2
def rdEqMt (f : Bool → Bool) : D → D → Mem → KD → Prop := fun x y M k => match x, y with
  | .tup ds, .tup [] => k (.bl (f ds.isEmpty)) M
  | _, _ => False
section
variable {X : Cx} {K : PySem.W.Frag}
theorem opd_mt {f : Bool → Bool} : OpD K (EQ.rMt K f) (rdEqMt f) := fun Fr H0 M H x y vx vy k Q w rx ry h c => by
  unfold rdEqMt at h
  split at h
  · cases rx with
    | tup h1 d1 =>
      cases ry with
      | tup h2 d2 =>
        cases d2
        refine ⟨_, _, _, rfl, rfl, same_t w.ex h1, same_t w.ex h2, c _ H0 H _ M (Same.refl _) w (.bl _) ?_⟩
        have : ∀ {vs : List V} {ds : List D}, Dats K H0 vs ds → vs.isEmpty = ds.isEmpty := fun h => by cases h <;> rfl
        rw [this d1]; exact h
  · exact h.elim
theorem c_eqMt {k : Nat} (hr : DG.RoomG k X.A) : CmpD X .Eq (rdEqMt id) := ⟨_, EQ.op_eqMt hr.r.units, opd_mt⟩
theorem c_neMt {k : Nat} (hr : DG.RoomG k X.A) : CmpD X .NotEq (rdEqMt not) := ⟨_, EQ.op_neMt hr.r.units, opd_mt⟩
/-- a list, a tuple, a dict -/
def oddD (M : Mem) : D → Bool
  | .tup _ => true
  | .lst _ => true
  | .cel a => (M a).isSome
  | _ => false
def rdInX (f : Bool → Bool) : D → D → Mem → KD → Prop := fun x y M k => match seqD M y with
  | some ds => (match strsD ds with
    | some l => (match flatD x with
      | some v => k (.bl (f (inV v (l.map V.str)))) M
      | none => oddD M x = true ∧ k (.bl (f false)) M)
    | none => False)
  | none => False
theorem odd_ok {Fr H0 H : Hp} {M : Mem} {v : V} {d : D} (w : Wd K Fr H0 M H) (r : Dat K H0 v d) (h : oddD M d = true) : EQ.Odd K H v := by
  cases d with
  | tup ds => cases r with | tup hs hd => exact ⟨_, rfl, .inr (.inl ⟨_, same_t w.ex hs⟩)⟩
  | lst ds => cases r with | lst hs hd => exact ⟨_, rfl, .inl ⟨_, .of (w.ex _ _ hs)⟩⟩
  | cel a =>
    cases r
    have h : (M a).isSome = true := h
    cases q : M a with
    | none => rw [q] at h; cases h
    | some c =>
      obtain ⟨_, o, ho, hc⟩ := w.mem _ _ q
      cases hc with
      | lst rd => exact ⟨_, rfl, .inl ⟨_, .of ho⟩⟩
      | dct rd => exact ⟨_, rfl, .inr (.inr ⟨_, .inl ho⟩)⟩
  | _ => cases h
theorem opd_inX {f : Bool → Bool} {neg : Bool} (hf : ∀ c, f c = if neg then !c else c) : OpD K (fun x y H Q => rIn K neg x y H Q ∨ EQ.rInOdd K f x y H Q) (rdInX f) := fun Fr H0 M H x y vx vy k Q w rx ry h c => by
  unfold rdInX at h
  split at h
  · rename_i ds e
    obtain ⟨a, vs, rfl, hs, hd⟩ := seqD_ok w ry e
    split at h
    · rename_i l el
      have := strsD_ok hd el
      subst this
      split at h
      · rename_i v e1
        obtain ⟨rfl, f1⟩ := flatD_ok rx e1
        rw [hf] at h
        refine .inl ⟨a, _, rfl, hs, f1, flat_strs l, ?_⟩
        cases neg
        · exact c _ H0 H _ M (Same.refl _) w (.bl _) h
        · exact c _ H0 H _ M (Same.refl _) w (.bl _) h
      · exact .inr ⟨a, l, rfl, hs, odd_ok w rx h.1, c _ H0 H _ M (Same.refl _) w (.bl _) h.2⟩
    · exact h.elim
  · exact h.elim
theorem c_inX {k : Nat} (hr : DG.RoomG k X.A) : CmpD X .In (rdInX id) := ⟨_, op_in_seq.or (EQ.op_inOdd hr.r.units), opd_inX fun _ => rfl⟩
theorem c_ninX {k : Nat} (hr : DG.RoomG k X.A) : CmpD X .NotIn (rdInX not) := ⟨_, op_notIn_seq.or (EQ.op_ninOdd hr.r.units), opd_inX fun _ => rfl⟩
end
end DL

set_option autoImplicit false
set_option maxRecDepth 100000
set_option maxHeartbeats 4000000
/-! str() of what is no text, a text's capitals -/
namespace DL
open PySem PySem.Spec PyProof.Rows L2
def rdStr : FD := fun ds M k => match ds with
  | [.str _] => False
  | [x] => (match toR M x with | some p => p.showable = true ∧ p.shown.length ≤ sizeLine ∧ p.depth ≤ 64 ∧ k (.str p.shown) M | none => False)
  | _ => False
theorem calld_str {K : PySem.W.Frag} : CallD K (RP.rStr K) rdStr := fun Fr H0 M H vs ds k Q w r h c => by
  unfold rdStr at h
  split at h
  · exact h.elim
  · rename_i x hx
    obtain ⟨v, rfl, rv⟩ := dats1 r
    split at h
    · rename_i p e
      refine ⟨v, p, rfl, toR_ok w _ _ _ rv e, h.1, h.2.1, h.2.2.1, fun y z => ?_, c _ H0 H _ M (Same.refl _) w (.str _) h.2.2.2⟩
      subst z
      cases rv
      exact hx _ rfl
    · exact h.elim
  · exact h.elim
theorem boot_str : bootBuiltins "str" = some (.type "str") := by decide +kernel
section
variable {X : Cx}
theorem de_strof {k : Nat} {e : Expr} {we : WE} {p pos : Pos} (hr : DG.RoomG k X.A) (hm : X.mg "str" = none) (he : DE X e we) (hs : starEach [e] X.env = (false, eval e X.env) :: starEach [] X.env := by rfl) (hg : Gl X "str" := by rfl) (hpl : (backTo pos (starEach [] X.env)).any (·.1) = false := by rfl) :
    DE X (.Call (.Name "str" p) [e] [] pos) (wCall rdStr (wCons we wNil)) :=
  de_callTy (RP.call_str hr) calld_str hm boot_str (da_cons he da_nil hs) hg (by decide) (by decide) hs hpl
theorem pe_upper {o : Expr} {to : TE} {apos pos : Pos} (ho : PE X o to) (hbase : attributeBase o "upper" X.env (eval o X.env) = eval o X.env) (hline : (apos.endLine == pos.line) = true) :
    PE X (.Call (.Attribute o "upper" apos) [] [] pos) (fun σ H Q => to σ H fun x H1 => ∃ z : Str, x = .str z ∧ z.length ≤ 5592405 ∧ Q (.str (Txt.upper z)) H1) := by
  refine ⟨fun pins s σ H Q I h => wpAny_Call_method0_late hbase hline (thn (ho.run pins s σ H _ I h) fun v s1 ⟨x, H1, I1, r1, q1⟩ => ?_)⟩
  obtain ⟨z, rfl, hz, q1⟩ := q1
  obtain ⟨tz, rfl⟩ := r1
  refine ⟨"str", _, PySem.F.plainAttrs_str, PySem.F.slot_str_upper, PySem.F.type_str_upper, typeIs_str _ _ _, (fun _ e => nomatch e), ?_⟩
  refine Calls.callWith_builtin rfl (PySem.evalArgs_none (PySem.SC.upper (PyProof.Rows.short24 (by have := PyProof.Rows.len_upper z; omega)) ?_))
  exact ⟨.str (Txt.upper z), H1, I1.tok _, ⟨_, rfl⟩, q1⟩
def rdUpper : D → Mem → KD → Prop := fun d M k => match d with
  | .str z => z.length ≤ 5592405 ∧ k (.str (Txt.upper z)) M
  | _ => False
theorem de_upper {o : Expr} {wo : WE} {apos pos : Pos} (ho : DE X o wo) (hbase : attributeBase o "upper" X.env (eval o X.env) = eval o X.env := by rfl) (hline : (apos.endLine == pos.line) = true := by rfl) :
    DE X (.Call (.Attribute o "upper" apos) [] [] pos) (wUn rdUpper wo) :=
  de_of (pe_upper ho.run hbase hline) fun σ H Q Γ Fr H0 M k h1 h2 h3 h4 => ⟨Γ, Fr, H0, M, _, h1, h2, h3, fun v H1 H' d M' e1 w1 r1 q1 => by
    unfold rdUpper at q1
    split at q1
    · cases r1; exact ⟨_, rfl, q1.1, h4 _ H1 H' _ M' e1 w1 (.str _) q1.2⟩
    · exact q1.elim⟩
/-! + and - where a truth may stand for a number -/
def numV : V → Option Int
  | .int i => some i
  | .bl b => some (if b = true then 1 else 0)
  | _ => none
def numD : D → Option Int
  | .int i => some i
  | .bl b => some (if b = true then 1 else 0)
  | _ => none
def isI : D → Bool
  | .int _ => true
  | _ => false
def rNum (g : Int → Int → Int) : R2 := fun x y H Q => (∃ i j, x = .int i ∧ y = .int j ∧ Q (.int (g i j)) H) ∨ (∃ b j, x = .bl b ∧ y = .int j ∧ Q (.int (g (if b = true then 1 else 0) j)) H) ∨ ∃ i b, x = .int i ∧ y = .bl b ∧ Q (.int (g i (if b = true then 1 else 0))) H
theorem op_addNum : OpR X (binaryOp .Add) (rNum fun i j => i + j) := by
  intro pins s σ H x y v u Q I rx ry h
  rcases h with ⟨i, j, rfl, rfl, q⟩ | ⟨i, j, rfl, rfl, q⟩ | ⟨i, j, rfl, rfl, q⟩
  · exact op_add pins s σ H _ _ v u Q I rx ry ⟨i, j, rfl, rfl, q⟩
  · obtain ⟨t, rfl⟩ := ry; cases rx
    exact PySem.IntBool.add_bool_int ⟨.int _, H, I.tok _, ⟨_, rfl⟩, q⟩
  · obtain ⟨t, rfl⟩ := rx; cases ry
    exact add_int_bool ⟨.int _, H, I.tok _, ⟨_, rfl⟩, q⟩
theorem op_subNum : OpR X (binaryOp .Sub) (rNum fun i j => i - j) := by
  intro pins s σ H x y v u Q I rx ry h
  rcases h with ⟨i, j, rfl, rfl, q⟩ | ⟨i, j, rfl, rfl, q⟩ | ⟨i, j, rfl, rfl, q⟩
  · exact op_sub pins s σ H _ _ v u Q I rx ry ⟨i, j, rfl, rfl, q⟩
  · obtain ⟨t, rfl⟩ := ry; cases rx
    exact PySem.IntBool.sub_bool_int ⟨.int _, H, I.tok _, ⟨_, rfl⟩, q⟩
  · obtain ⟨t, rfl⟩ := rx; cases ry
    exact PySem.IntBool.sub_int_bool ⟨.int _, H, I.tok _, ⟨_, rfl⟩, q⟩
def rdNum (g : Int → Int → Int) : D → D → Mem → KD → Prop := fun x y M k => (isI x || isI y) = true ∧ match numD x, numD y with
  | some i, some j => k (.int (g i j)) M
  | _, _ => False
theorem opd_num {K : PySem.W.Frag} {g : Int → Int → Int} : OpD K (rNum g) (rdNum g) := fun Fr H0 M H x y vx vy k Q w rx ry h c => by
  obtain ⟨h1, h2⟩ := h
  cases x with
  | int i =>
    cases y with
    | int j => cases rx; cases ry; exact .inl ⟨_, _, rfl, rfl, c _ H0 H _ M (Same.refl _) w (.int _) h2⟩
    | bl b => cases rx; cases ry; exact .inr (.inr ⟨_, _, rfl, rfl, c _ H0 H _ M (Same.refl _) w (.int _) h2⟩)
    | _ => exact h2.elim
  | bl b =>
    cases y with
    | int j => cases rx; cases ry; exact .inr (.inl ⟨_, _, rfl, rfl, c _ H0 H _ M (Same.refl _) w (.int _) h2⟩)
    | bl b => cases h1
    | _ => exact h2.elim
  | _ => exact h2.elim
theorem de_addN {a b : Expr} {wa wb : WE} {pos : Pos} (ha : DE X a wa) (hb : DE X b wb) : DE X (.BinOp a .Add b pos) (wOp (rdNum fun i j => i + j) wa wb) := de_op op_addNum opd_num ha hb
theorem de_subN {a b : Expr} {wa wb : WE} {pos : Pos} (ha : DE X a wa) (hb : DE X b wb) : DE X (.BinOp a .Sub b pos) (wOp (rdNum fun i j => i - j) wa wb) := de_op op_subNum opd_num ha hb
end
end DL

set_option autoImplicit false
set_option maxRecDepth 100000
set_option maxHeartbeats 4000000
/-! data whose showing fits: plain signs, numbers below 10 ** 12, bare dicts alone; its weight and depth -/
namespace DL
open PySem PySem.Spec PyProof.Rows L2
def plain (s : Str) : Bool := s.cps.toList.all fun c => decide (c < 128)
mutual
def fit (N : Nat) (M : Mem) : D → Bool
  | .non => true
  | .bl _ => true
  | .int i => decide (i.natAbs < N)
  | .str s => plain s
  | .tup ds => fits N M ds
  | .lst ds => fits N M ds
  | .cel a => match M a with | some (.dct []) => true | _ => false
  | _ => false
def fits (N : Nat) (M : Mem) : List D → Bool
  | [] => true
  | d :: ds => fit N M d && fits N M ds
end
mutual
def heavy : D → Nat
  | .int _ => 41
  | .str s => s.length
  | .tup ds => heavies ds
  | .lst ds => heavies ds
  | _ => 0
def heavies : List D → Nat
  | [] => 0
  | d :: ds => heavy d + 1 + heavies ds
end
mutual
def far : D → Nat
  | .tup ds => fars ds + 1
  | .lst ds => fars ds + 1
  | .cel _ => 1
  | _ => 0
def fars : List D → Nat
  | [] => 0
  | d :: ds => max (far d) (fars ds)
end
theorem log_small {i : Int} (h : i.natAbs < 10 ^ 12) : i.natAbs.log2 ≤ 40 := by
  by_cases z : i.natAbs = 0
  · rw [z]; decide
  · have : i.natAbs.log2 < 41 := (Nat.log2_lt z).mpr (by omega)
    omega
mutual
theorem fit_R {N : Nat} {M : Mem} (hN : N ≤ 10 ^ 12) : ∀ d, fit N M d = true → ∃ p, toR M d = some p ∧ p.showable = true ∧ p.leavesShort 13 = true ∧ p.weight ≤ heavy d ∧ p.depth = far d
  | .non, _ => ⟨_, rfl, by unfold PyData.showable; rfl, by unfold PyData.leavesShort; rfl, by unfold PyData.weight; omega, by unfold PyData.depth far; rfl⟩
  | .bl _, _ => ⟨_, rfl, by unfold PyData.showable; rfl, by unfold PyData.leavesShort; rfl, by unfold PyData.weight; omega, by unfold PyData.depth far; rfl⟩
  | .int i, h => by
    unfold fit at h
    have h : i.natAbs < 10 ^ 12 := Nat.lt_of_lt_of_le (of_decide_eq_true h) hN
    have lg := log_small h
    refine ⟨_, rfl, by unfold PyData.showable; exact decide_eq_true (by omega), by unfold PyData.leavesShort; exact decide_eq_true (PyData.shown_int_le h), ?_, by unfold PyData.depth far; rfl⟩
    unfold PyData.weight heavy
    split <;> omega
  | .str s, h => by
    unfold fit plain at h
    refine ⟨_, rfl, by unfold PyData.showable; rfl, ?_, by unfold PyData.weight heavy; exact Nat.le_refl _, by unfold PyData.depth far; rfl⟩
    unfold PyData.leavesShort
    rw [List.all_eq_true] at h ⊢
    intro c hc
    have := of_decide_eq_true (h c hc)
    exact decide_eq_true (by omega)
  | .tup ds, h => by
    unfold fit at h
    obtain ⟨ps, e, a, b, c, d⟩ := fits_R hN ds h
    exact ⟨.tuple ps, by unfold toR; rw [e], by unfold PyData.showable; exact a, by unfold PyData.leavesShort; exact b, by unfold PyData.weight heavy; exact c, by unfold PyData.depth far; rw [d]⟩
  | .lst ds, h => by
    unfold fit at h
    obtain ⟨ps, e, a, b, c, d⟩ := fits_R hN ds h
    exact ⟨.list ps, by unfold toR; rw [e], by unfold PyData.showable; exact a, by unfold PyData.leavesShort; exact b, by unfold PyData.weight heavy; exact c, by unfold PyData.depth far; rw [d]⟩
  | .cel a, h => by
    unfold fit at h
    split at h
    · rename_i q
      exact ⟨.dict [], by unfold toR; rw [q], by unfold PyData.showable PyData.showableKv; rfl, by unfold PyData.leavesShort PyData.leavesShortKv; rfl, by unfold PyData.weight PyData.weightKv; omega, by unfold PyData.depth PyData.depthKv far; rfl⟩
    · cases h
  | .scr _, h => by unfold fit at h; cases h
  | .ty _, h => by unfold fit at h; cases h
theorem fits_R {N : Nat} {M : Mem} (hN : N ≤ 10 ^ 12) : ∀ ds, fits N M ds = true → ∃ ps, toRs M ds = some ps ∧ PyData.showableAll ps = true ∧ PyData.leavesShortAll 13 ps = true ∧ PyData.weightAll ps ≤ heavies ds ∧ PyData.depthAll ps = fars ds
  | [], _ => ⟨[], rfl, by unfold PyData.showableAll; rfl, by unfold PyData.leavesShortAll; rfl, by unfold PyData.weightAll heavies; omega, by unfold PyData.depthAll fars; rfl⟩
  | d :: ds, h => by
    unfold fits at h
    rw [Bool.and_eq_true] at h
    obtain ⟨p, e1, a1, b1, c1, d1⟩ := fit_R hN d h.1
    obtain ⟨ps, e2, a2, b2, c2, d2⟩ := fits_R hN ds h.2
    refine ⟨p :: ps, by unfold toRs; rw [e1, e2], by unfold PyData.showableAll; rw [a1, a2]; rfl, by unfold PyData.leavesShortAll; rw [b1, b2]; rfl, ?_, by unfold PyData.depthAll fars; rw [d1, d2]⟩
    unfold PyData.weightAll heavies
    omega
end
/-- repr of such data: some text, the same whenever it is asked -/
theorem r_repr {N : Nat} {M : Mem} {d : D} {k : KD} (hN : N ≤ 10 ^ 12) (h : fit N M d = true) (hh : heavy d ≤ 1000000) (hf : far d ≤ 64) (hk : ∀ p, toR M d = some p → k (.str p.shown) M) : rdRepr [d] M k := by
  obtain ⟨p, e, a, b, c, dd⟩ := fit_R hN d h
  unfold rdRepr
  simp only [e]
  exact ⟨a, PyData.shown_fits (by decide) (by decide) b (by omega), by omega, hk p e⟩
end DL

set_option autoImplicit false
set_option maxRecDepth 100000
set_option maxHeartbeats 4000000
/-! what is shown of plain data is plain; capitals of plain texts -/
namespace DL
open PySem PySem.Spec PyProof.Rows L2
theorem plain_iff {s : Str} : plain s = true ↔ ∀ c ∈ s.cps.toList, c < 128 := by
  unfold plain
  rw [List.all_eq_true]
  exact ⟨fun h c hc => of_decide_eq_true (h c hc), fun h c hc => decide_eq_true (h c hc)⟩
theorem plain_app {s t : Str} (h : plain s = true) (g : plain t = true) : plain (s ++ t) = true := by
  rw [plain_iff] at *
  intro c hc
  have e : (s ++ t).cps.toList = s.cps.toList ++ t.cps.toList := by show (s.cps ++ t.cps).toList = _; simp
  rw [e] at hc
  rcases List.mem_append.mp hc with z | z
  · exact h c z
  · exact g c z
theorem char_plain : ∀ q ∈ [34, 39], ∀ c < 128, (PySem.Builtin.Str.reprChar q c).all (fun x => decide (x < 128)) = true := by decide +kernel
theorem quote_in (x : Str) : reprQuote x ∈ [34, 39] := by
  unfold reprQuote; split <;> simp
theorem fold_plain (q : Nat) (hq : q ∈ [34, 39]) : ∀ (l : List Nat) (acc : Array Nat), (∀ c ∈ l, c < 128) → (∀ c ∈ acc.toList, c < 128) → ∀ c ∈ (l.foldl (fun out c => out ++ (PySem.Builtin.Str.reprChar q c).toArray) acc).toList, c < 128
  | [], acc, _, h => h
  | a :: l, acc, hl, h => by
    rw [List.foldl_cons]
    refine fold_plain q hq l _ (fun c hc => hl c (List.mem_cons_of_mem _ hc)) fun c hc => ?_
    rw [Array.toList_append] at hc
    rcases List.mem_append.mp hc with z | z
    · exact h c z
    · have := List.all_eq_true.mp (char_plain q hq a (hl a List.mem_cons_self)) c (by simpa using z)
      exact of_decide_eq_true this
theorem text_plain {x : Str} (h : plain x = true) : plain (reprText x) = true := by
  rw [plain_iff] at *
  have q := quote_in x
  have q2 : reprQuote x < 128 := by
    simp only [List.mem_cons, List.not_mem_nil, or_false] at q
    omega
  intro c hc
  unfold reprText at hc
  simp only [Array.toList_push, ← Array.foldl_toList] at hc
  rcases List.mem_append.mp hc with z | z
  · exact fold_plain _ q x.cps.toList #[reprQuote x] h (fun c hc => by simp at hc; omega) c z
  · rw [List.mem_singleton] at z; omega
theorem join_plain (sep : Str) (hs : plain sep = true) : ∀ ts : List Str, (∀ t ∈ ts, plain t = true) → plain (Str.join sep ts) = true
  | [], _ => by show plain Str.empty = true; decide
  | [x], h => h x List.mem_cons_self
  | x :: y :: r, h => by
    show plain (x ++ sep ++ Str.join sep (y :: r)) = true
    exact plain_app (plain_app (h x List.mem_cons_self) hs) (join_plain sep hs (y :: r) fun t ht => h t (List.mem_cons_of_mem _ ht))
theorem from_plain : ∀ (ts : List Str) (k : Nat) (acc : Str), plain acc = true → (∀ t ∈ ts, plain t = true) → plain (textFrom k acc ts) = true
  | [], _, acc, h, _ => h
  | t :: ts, k, acc, h, g => by
    refine from_plain ts (k + 1) _ (plain_app (plain_app h ?_) (g t List.mem_cons_self)) fun t ht => g t (List.mem_cons_of_mem _ ht)
    split <;> decide +kernel
theorem list_plain {ts : List Str} (h : ∀ t ∈ ts, plain t = true) : plain (listText ts) = true :=
  plain_app (from_plain ts 0 _ (by decide +kernel) h) (by decide +kernel)
theorem tup_plain {ts : List Str} (h : ∀ t ∈ ts, plain t = true) : plain (tupleText ts) = true := by
  unfold tupleText
  refine plain_app (plain_app (by decide +kernel) (join_plain _ (by decide +kernel) ts h)) ?_
  split <;> decide +kernel
theorem num_plain (i : Int) : plain (Str.ofString (toString i)) = true := by
  rw [plain_iff]
  intro c hc
  rcases Nat.lt_or_ge c 128 with h | h
  · exact h
  · exact absurd hc (int_text_free' c ⟨by omega, by omega⟩ i)
mutual
theorem shown_plain {N : Nat} {M : Mem} : ∀ (d : D) (p : PyData), fit N M d = true → toR M d = some p → plain p.shown = true
  | .non, _, _, e => by cases e; unfold PyData.shown; decide +kernel
  | .bl b, _, _, e => by cases e; unfold PyData.shown; cases b <;> decide +kernel
  | .int i, _, _, e => by cases e; unfold PyData.shown; exact num_plain i
  | .str s, _, h, e => by cases e; unfold PyData.shown; unfold fit at h; exact text_plain h
  | .tup ds, _, h, e => by
    unfold fit at h
    unfold toR at e
    split at e
    · rename_i ps q; cases e; unfold PyData.shown; exact tup_plain (showns_plain ds ps h q)
    · cases e
  | .lst ds, _, h, e => by
    unfold fit at h
    unfold toR at e
    split at e
    · rename_i ps q; cases e; unfold PyData.shown; exact list_plain (showns_plain ds ps h q)
    · cases e
  | .cel a, _, h, e => by
    unfold toR at e
    split at e
    · cases e; unfold PyData.shown PyData.shownKv; decide +kernel
    · cases e
  | .scr _, _, _, e => by cases e
  | .ty _, _, _, e => by cases e
theorem showns_plain {N : Nat} {M : Mem} : ∀ (ds : List D) (ps : List PyData), fits N M ds = true → toRs M ds = some ps → ∀ t ∈ PyData.shownAll ps, plain t = true
  | [], _, _, e => by cases e; unfold PyData.shownAll; intro t ht; cases ht
  | d :: ds, _, h, e => by
    unfold fits at h
    rw [Bool.and_eq_true] at h
    unfold toRs at e
    split at e
    · rename_i p ps q1 q2
      cases e
      unfold PyData.shownAll
      intro t ht
      rcases List.mem_cons.mp ht with z | z
      · rw [z]; exact shown_plain d p h.1 q1
      · exact showns_plain ds ps h.2 q2 t z
    · cases e
end
/-- str of such data that is no text: a plain text, its length bounded by the weight -/
theorem r_str {N : Nat} {M : Mem} {d : D} {k : KD} (hN : N ≤ 10 ^ 12) (h : fit N M d = true) (nt : ∀ s, d ≠ .str s) (hh : heavy d ≤ 1000000) (hf : far d ≤ 64) (hk : ∀ s : Str, plain s = true → s.length ≤ 15 * heavy d + 13 → k (.str s) M) : rdStr [d] M k := by
  obtain ⟨p, e, a, b, c, dd⟩ := fit_R hN d h
  have sl := PyData.shown_le 13 (by decide) p b
  have go : p.showable = true ∧ p.shown.length ≤ sizeLine ∧ p.depth ≤ 64 ∧ k (.str p.shown) M := ⟨a, PyData.shown_fits (by decide) (by decide) b (by omega), by omega, hk _ (shown_plain d p h e) (by
    have : (13 + 2) * p.weight ≤ 15 * heavy d := Nat.mul_le_mul_left 15 c
    omega)⟩
  unfold rdStr
  cases d with
  | str s => exact absurd rfl (nt s)
  | _ => simp only [e]; exact go
theorem upper_plain {s : Str} (h : plain s = true) : plain (Txt.upper s) = true ∧ (Txt.upper s).length = s.length := by
  rw [plain_iff] at h
  rw [upper_ascii h]
  refine ⟨?_, by show (s.cps.map up1).size = s.cps.size; simp⟩
  rw [plain_iff]
  intro c hc
  have hc : c ∈ (s.cps.map up1).toList := hc
  rw [Array.toList_map] at hc
  obtain ⟨x, hx, rfl⟩ := List.mem_map.mp hc
  have := h x hx
  unfold up1
  split <;> omega
end DL

set_option autoImplicit false
set_option maxRecDepth 100000
set_option maxHeartbeats 4000000
/-! a module's dict with text keys: get, an item, in; statements one behind another -/
namespace DL
open PySem PySem.Spec PyProof.Rows L2
inductive Ents : List (Str × V) → List DictEntry → Prop
  | nil : Ents [] []
  | cons {k : Str} {v : V} {kvs : List (Str × V)} {e : DictEntry} {es : List DictEntry} (t : Tok) : e.key = .str k t → RelV v e.val → Ents kvs es → Ents ((k, v) :: kvs) (e :: es)
def lookT {α : Type} (kvs : List (Str × α)) (s : Str) : Option α := (kvs.find? fun p => decide (p.1 = s)).map (·.2)
theorem Ents.refs {kvs : List (Str × V)} {es : List DictEntry} (h : Ents kvs es) : es.any (·.refKey) = false := by
  induction h with
  | nil => rfl
  | cons t h1 _ _ ih =>
    rw [List.any_cons, ih]
    unfold DictEntry.refKey
    rw [h1]; rfl
theorem Ents.find {kvs : List (Str × V)} {es : List DictEntry} (h : Ents kvs es) (s : Str) : (∃ v e, lookT kvs s = some v ∧ es.find? (·.key.isStr s) = some e ∧ RelV v e.val) ∨ (lookT kvs s = none ∧ es.find? (·.key.isStr s) = none) := by
  induction h with
  | nil => exact .inr ⟨rfl, rfl⟩
  | @cons k v kvs e es t h1 h2 _ ih =>
    unfold lookT at ih ⊢
    rw [List.find?_cons, List.find?_cons]
    have e1 : e.key.isStr s = decide (k = s) := by
      rw [h1]
      show (k == s) = _
      by_cases q : k = s <;> simp [q]
    by_cases q : k = s
    · subst q
      simp only [e1, decide_true]
      exact .inl ⟨v, e, rfl, rfl, h2⟩
    · simp only [e1, q, decide_false]
      exact ih
structure MDict (K : PySem.W.Frag) (w : World) (mg : Str → Option Value) (x : Str) (kvs : List (Str × V)) : Prop where
  ex : ∃ a es n, mg x = some (.ref a) ∧ KDict K w a es n ∧ Ents kvs es.toList
theorem ents_ns {K : PySem.W.Frag} {w : World} {a : Addr} {es : Array DictEntry} {n : Nat} {kvs : List (Str × V)} (D : KDict K w a es n) (h : Ents kvs es.toList) (s : Str) :
    ∃ r, PySem.W.nsIn K a s = some r ∧ ((∃ v u, lookT kvs s = some v ∧ r = some u ∧ RelV v u) ∨ (lookT kvs s = none ∧ r = none)) := by
  unfold PySem.W.nsIn
  rw [D.at_]
  simp only
  rcases h.find s with ⟨v, e, h1, h2, h3⟩ | ⟨h1, h2⟩
  · rw [h2]; exact ⟨_, rfl, .inl ⟨v, _, h1, rfl, h3⟩⟩
  · rw [h2, h.refs]; exact ⟨_, rfl, .inr ⟨h1, rfl⟩⟩
section
variable {X : Cx} {x : Str} {kvs : List (Str × V)} {p apos cpos pos : Pos} {e : Expr} {ty : TE}
theorem pe_mget (D : MDict X.K X.w X.mg x kvs) (hg : Gl X x) (he : PE X e ty) (m : M1 X (.Name x p) "get" apos e cpos) (hdb : (x == ("__debug__" : Str)) = false) :
    PE X (.Call (.Attribute (.Name x p) "get" apos) [e] [] cpos) (fun σ H Q => ty σ H fun y H1 => ∃ z, y = .str z ∧ Q ((lookT kvs z).getD .non) H1) := by
  obtain ⟨a, es, n, hm, kd, en⟩ := D.ex
  refine ⟨fun pins s σ H Q I h => ?_⟩
  have ho : PE X (.Name x p) (tC (.ref a)) := pe_glob hg hm rfl hdb
  refine wpAny_Call_method m.base m.few m.line PySem.F.plainAttrs_dict PySem.F.slot_dict_get PySem.F.type_dict_get (thn (ho.run pins s σ H (fun v H1 => v = .ref a ∧ H1 = H) I ⟨rfl, rfl⟩) fun u s1 ⟨v, H1, I1, rx, e1, e2⟩ => ?_)
  subst e1 e2
  obtain rfl : u = Value.ref a := rx
  have mo := PySem.W.mapOf_K (prog := X.prog) (w := X.w) I1.kIn kd.at_ kd.lit
  refine ⟨mo.typeIs, fun b q => ?_, ?_⟩
  · cases q
    obtain ⟨ob, _, _, h1, h2, _⟩ := mo
    exact ⟨ob, h1, h2.2.1⟩
  rw [m.trees]
  refine Calls.callWith_builtin rfl (Calls.evalArgs_plain (Calls.spliced_cons (thn (he.run pins s1 σ H1 _ I1 h) fun iv s2 ⟨y, H2, I2, ry, z, ez, q2⟩ => Calls.spliced_nil ?_)))
  subst ez
  obtain ⟨t, rfl⟩ := (show ∃ t, iv = Value.str z t from ry)
  obtain ⟨r, hr, hv⟩ := ents_ns kd en z
  have mo := PySem.W.mapOf_K (prog := X.prog) (w := X.w) I2.kIn kd.at_ kd.lit
  refine call_meetsIn PySem.F.slot_dict_get mo.typeIs PySem.F.entry_dict_get (PySem.F.args_dict_get_2 _ _) (meets_dict_get (PySem.strKind X.prog X.w) a (PySem.strKind_is X.prog X.w z t) kd.low) ⟨_, mo, ?_⟩
  rw [PySem.W.find_K kd.at_ hr]
  rcases hv with ⟨v, u, h1, rfl, h3⟩ | ⟨h1, rfl⟩
  · rw [h1] at q2; exact ⟨v, H2, I2.tok _, h3, q2⟩
  · rw [h1] at q2; exact ⟨.non, H2, I2.tok _, rfl, q2⟩
theorem pe_mix (D : MDict X.K X.w X.mg x kvs) (hg : Gl X x) (he : PE X e ty) (hs : PlainIx e) (hdb : (x == ("__debug__" : Str)) = false) :
    PE X (.Subscript (.Name x p) e pos) (fun σ H Q => ty σ H fun y H1 => ∃ z v, y = .str z ∧ lookT kvs z = some v ∧ Q v H1) := by
  obtain ⟨a, es, n, hm, kd, en⟩ := D.ex
  have ho : PE X (.Name x p) (tC (.ref a)) := pe_glob hg hm rfl hdb
  refine ⟨fun pins s σ H Q I h => ?_⟩
  refine Subscript_ (thn (ho.run pins s σ H (fun v H1 => v = .ref a ∧ H1 = H) I ⟨rfl, rfl⟩) fun v s1 ⟨x0, H1, I1, r1, e1, e2⟩ => ?_)
  subst e1 e2
  refine thn (he.run pins s1 σ H1 _ I1 h) fun u s2 ⟨y, H2, I2, r2, z, v0, ez, l, q⟩ => ?_
  subst ez
  obtain ⟨r, hr, hv⟩ := ents_ns kd en z
  rcases hv with ⟨v1, u0, h1, rfl, h3⟩ | ⟨h1, _⟩
  · rw [h1] at l
    cases l
    exact ix_kdict _ e pins s2 σ H2 (.ref a) (.str z) v u Q I2 r1 r2 ⟨a, z, _, rfl, rfl, ⟨es, n, u0, kd.at_, kd.lit, hr, h3⟩, q⟩ (hs _ _)
  · rw [h1] at l; cases l
theorem pe_min (D : MDict X.K X.w X.mg x kvs) (hg : Gl X x) (he : PE X e ty) (hm : behindInMarks .In (.Name x p) = false) (hdb : (x == ("__debug__" : Str)) = false) :
    PE X (.Compare e [.In] [.Name x p] pos) (fun σ H Q => ty σ H fun y H1 => ∃ z, y = .str z ∧ Q (.bl (lookT kvs z).isSome) H1) := by
  obtain ⟨a, es, n, hm', kd, en⟩ := D.ex
  have ho : PE X (.Name x p) (tC (.ref a)) := pe_glob hg hm' rfl hdb
  refine ⟨fun pins s σ H Q I h => ?_⟩
  refine wpAny_Compare1 (thn (he.run pins s σ H _ I h) fun u s1 ⟨y, H1, I1, r1, z, ez, q⟩ => ?_) hm
  refine thn (ho.run pins s1 σ H1 (fun v H2 => v = .ref a ∧ H2 = H1) I1 ⟨rfl, rfl⟩) fun v s2 ⟨x0, H2, I2, r2, e1, e2⟩ => ?_
  subst e1 e2 ez
  obtain ⟨r, hr, hv⟩ := ents_ns kd en z
  refine op_in_kd kd pins s2 σ H2 (.str z) (.ref a) u v Q I2 r1 r2 ⟨z, r, rfl, rfl, hr, ?_⟩
  rcases hv with ⟨v1, u0, h1, rfl, h3⟩ | ⟨h1, rfl⟩
  · rw [h1] at q; exact q
  · rw [h1] at q; exact q
theorem pe_mnin (D : MDict X.K X.w X.mg x kvs) (hg : Gl X x) (he : PE X e ty) (hm : behindInMarks .NotIn (.Name x p) = false) (hdb : (x == ("__debug__" : Str)) = false) :
    PE X (.Compare e [.NotIn] [.Name x p] pos) (fun σ H Q => ty σ H fun y H1 => ∃ z, y = .str z ∧ Q (.bl (!(lookT kvs z).isSome)) H1) := by
  obtain ⟨a, es, n, hm', kd, en⟩ := D.ex
  have ho : PE X (.Name x p) (tC (.ref a)) := pe_glob hg hm' rfl hdb
  refine ⟨fun pins s σ H Q I h => ?_⟩
  refine wpAny_Compare1 (thn (he.run pins s σ H _ I h) fun u s1 ⟨y, H1, I1, r1, z, ez, q⟩ => ?_) hm
  refine thn (ho.run pins s1 σ H1 (fun v H2 => v = .ref a ∧ H2 = H1) I1 ⟨rfl, rfl⟩) fun v s2 ⟨x0, H2, I2, r2, e1, e2⟩ => ?_
  subst e1 e2 ez
  obtain ⟨r, hr, hv⟩ := ents_ns kd en z
  refine op_notIn_kd kd pins s2 σ H2 (.str z) (.ref a) u v Q I2 r1 r2 ⟨z, r, rfl, rfl, hr, ?_⟩
  rcases hv with ⟨v1, u0, h1, rfl, h3⟩ | ⟨h1, rfl⟩
  · rw [h1] at q; exact q
  · rw [h1] at q; exact q
end
/-! by data -/
def vF : D → V
  | .int i => .int i
  | .str s => .str s
  | .bl b => .bl b
  | .cel a => .ref a
  | _ => .non
def okF : D → Bool
  | .int _ => true
  | .str _ => true
  | .bl _ => true
  | .cel _ => true
  | .non => true
  | _ => false
theorem dat_vF {K : PySem.W.Frag} {H : Hp} : ∀ {d : D}, okF d = true → Dat K H (vF d) d
  | .int i, _ => .int i
  | .str s, _ => .str s
  | .bl b, _ => .bl b
  | .cel a, _ => .cel a
  | .non, _ => .non
abbrev MDictD (K : PySem.W.Frag) (w : World) (mg : Str → Option Value) (x : Str) (kvs : List (Str × D)) : Prop := (∀ p ∈ kvs, okF p.2 = true) ∧ MDict K w mg x (kvs.map fun p => (p.1, vF p.2))
theorem lookT_map (kvs : List (Str × D)) (s : Str) : lookT (kvs.map fun p => (p.1, vF p.2)) s = (lookT kvs s).map vF := by
  unfold lookT
  induction kvs with
  | nil => rfl
  | cons p r ih =>
    rw [List.map_cons, List.find?_cons, List.find?_cons]
    by_cases q : p.1 = s
    · simp [q]
    · simp only [q, decide_false]; exact ih
theorem lookT_mem {α : Type} {kvs : List (Str × α)} {s : Str} {d : α} (h : lookT kvs s = some d) : (s, d) ∈ kvs := by
  unfold lookT at h
  cases q : kvs.find? fun p => decide (p.1 = s) with
  | none => rw [q] at h; cases h
  | some p =>
    rw [q] at h
    cases h
    have := List.find?_some q
    have e : p.1 = s := of_decide_eq_true this
    rw [← e]; exact List.mem_of_find?_eq_some q
def rdMGet (kvs : List (Str × D)) : D → Mem → KD → Prop := fun d M k => match d with | .str s => k ((lookT kvs s).getD .non) M | _ => False
def rdMIx (kvs : List (Str × D)) : D → Mem → KD → Prop := fun d M k => match d with | .str s => (match lookT kvs s with | some x => k x M | none => False) | _ => False
def rdMIn (f : Bool → Bool) (kvs : List (Str × D)) : D → Mem → KD → Prop := fun d M k => match d with | .str s => k (.bl (f (lookT kvs s).isSome)) M | _ => False
section
variable {X : Cx} {x : Str} {kvs : List (Str × D)} {p apos cpos pos : Pos} {e : Expr} {we : WE}
theorem de_mget (D : MDictD X.K X.w X.mg x kvs) (he : DE X e we) (hg : Gl X x := by rfl) (m : M1 X (.Name x p) "get" apos e cpos := by exact ⟨rfl, rfl, rfl, rfl⟩) (hdb : (x == ("__debug__" : Str)) = false := by decide) :
    DE X (.Call (.Attribute (.Name x p) "get" apos) [e] [] cpos) (wUn (rdMGet kvs) we) :=
  de_of (pe_mget D.2 hg he.run m hdb) fun σ H Q Γ Fr H0 M k h1 h2 h3 h4 => ⟨Γ, Fr, H0, M, _, h1, h2, h3, fun v H1 H' d M' e1 w1 r1 q1 => by
    unfold rdMGet at q1
    split at q1
    · rename_i s
      cases r1
      refine ⟨s, rfl, ?_⟩
      rw [lookT_map]
      cases q : lookT kvs s with
      | none => rw [q] at q1; exact h4 _ _ _ .non _ e1 w1 .non q1
      | some y => rw [q] at q1; exact h4 _ _ _ y _ e1 w1 (dat_vF (D.1 _ (lookT_mem q))) q1
    · exact q1.elim⟩
theorem de_mix (D : MDictD X.K X.w X.mg x kvs) (he : DE X e we) (hg : Gl X x := by rfl) (hs : PlainIx e := by exact fun _ _ => rfl) (hdb : (x == ("__debug__" : Str)) = false := by decide) :
    DE X (.Subscript (.Name x p) e pos) (wUn (rdMIx kvs) we) :=
  de_of (pe_mix D.2 hg he.run hs hdb) fun σ H Q Γ Fr H0 M k h1 h2 h3 h4 => ⟨Γ, Fr, H0, M, _, h1, h2, h3, fun v H1 H' d M' e1 w1 r1 q1 => by
    unfold rdMIx at q1
    split at q1
    · rename_i s
      cases r1
      split at q1
      · rename_i y q
        exact ⟨s, vF y, rfl, by rw [lookT_map, q]; rfl, h4 _ _ _ y _ e1 w1 (dat_vF (D.1 _ (lookT_mem q))) q1⟩
      · exact q1.elim
    · exact q1.elim⟩
theorem de_min (D : MDictD X.K X.w X.mg x kvs) (he : DE X e we) (hg : Gl X x := by rfl) (hm : behindInMarks .In (.Name x p) = false := by first | exact nomark _ | (with_unfolding_all rfl)) (hdb : (x == ("__debug__" : Str)) = false := by decide) :
    DE X (.Compare e [.In] [.Name x p] pos) (wUn (rdMIn id kvs) we) :=
  de_of (pe_min D.2 hg he.run hm hdb) fun σ H Q Γ Fr H0 M k h1 h2 h3 h4 => ⟨Γ, Fr, H0, M, _, h1, h2, h3, fun v H1 H' d M' e1 w1 r1 q1 => by
    unfold rdMIn at q1
    split at q1
    · rename_i s
      cases r1
      refine ⟨s, rfl, ?_⟩
      rw [lookT_map]
      have : ((lookT kvs s).map vF).isSome = (lookT kvs s).isSome := by cases lookT kvs s <;> rfl
      rw [this]
      exact h4 _ _ _ (.bl _) _ e1 w1 (.bl _) q1
    · exact q1.elim⟩
theorem de_mnin (D : MDictD X.K X.w X.mg x kvs) (he : DE X e we) (hg : Gl X x := by rfl) (hm : behindInMarks .NotIn (.Name x p) = false := by first | exact nomark _ | (with_unfolding_all rfl)) (hdb : (x == ("__debug__" : Str)) = false := by decide) :
    DE X (.Compare e [.NotIn] [.Name x p] pos) (wUn (rdMIn not kvs) we) :=
  de_of (pe_mnin D.2 hg he.run hm hdb) fun σ H Q Γ Fr H0 M k h1 h2 h3 h4 => ⟨Γ, Fr, H0, M, _, h1, h2, h3, fun v H1 H' d M' e1 w1 r1 q1 => by
    unfold rdMIn at q1
    split at q1
    · rename_i s
      cases r1
      refine ⟨s, rfl, ?_⟩
      rw [lookT_map]
      have : ((lookT kvs s).map vF).isSome = (lookT kvs s).isSome := by cases lookT kvs s <;> rfl
      rw [this]
      exact h4 _ _ _ (.bl _) _ e1 w1 (.bl _) q1
    · exact q1.elim⟩
/-! statements one behind another -/
theorem seq_step {u v : WS} {k : KS} {Γ : DL.Env} {M : Mem} (h : u ⟨v k, k.rt, k.bk, k.ct⟩ Γ M) : wSeq u v k Γ M := h
/-- a cut: what holds between them -/
theorem seq_join {u v : WS} {k : KS} {Γ : DL.Env} {M : Mem} (J : DL.Env → Mem → Prop) (h1 : ∀ Γ' M', J Γ' M' → v k Γ' M') (h2 : ∀ n : DL.Env → Mem → Prop, (∀ Γ' M', J Γ' M' → n Γ' M') → u ⟨n, k.rt, k.bk, k.ct⟩ Γ M) : wSeq u v k Γ M := h2 _ h1
end
section
variable {P : Program} {w : World} {K : PySem.W.Frag} {mg : Str → Option Value} {base : Heap}
theorem DFn.or {k : Nat} {f : Addr} {fd : FuncData} {ps : List Str} {F1 F2 : FD} (G1 : DFn P w K mg base k f fd ps F1) (G2 : DFn P w K mg base k f fd ps F2) : DFn P w K mg base k f fd ps (fun ds M kd => F1 ds M kd ∨ F2 ds M kd) :=
  ⟨fun vs H Q E ⟨Fr, H0, M, ds, kd, a, b, c, d⟩ => c.elim (fun q => G1.len vs H Q E ⟨Fr, H0, M, ds, kd, a, b, q, d⟩) (fun q => G2.len vs H Q E ⟨Fr, H0, M, ds, kd, a, b, q, d⟩),
   fun A o s H as us vs Q E r e bi v ⟨Fr, H0, M, ds, kd, a, b, c, d⟩ => c.elim (fun q => G1.run A o s H as us vs Q E r e bi v ⟨Fr, H0, M, ds, kd, a, b, q, d⟩) (fun q => G2.run A o s H as us vs Q E r e bi v ⟨Fr, H0, M, ds, kd, a, b, q, d⟩)⟩
/-- a contract over many -/
theorem DFn.all {ι : Type} {k : Nat} {f : Addr} {fd : FuncData} {ps : List Str} {F : ι → FD} (i0 : ι) (G : ∀ i, DFn P w K mg base k f fd ps (F i)) : DFn P w K mg base k f fd ps (fun ds M kd => ∃ i, F i ds M kd) :=
  ⟨fun vs H Q E ⟨Fr, H0, M, ds, kd, a, b, ⟨i, c⟩, d⟩ => (G i).len vs H Q E ⟨Fr, H0, M, ds, kd, a, b, c, d⟩,
   fun A o s H as us vs Q E r e bi v ⟨Fr, H0, M, ds, kd, a, b, ⟨i, c⟩, d⟩ => (G i).run A o s H as us vs Q E r e bi v ⟨Fr, H0, M, ds, kd, a, b, c, d⟩⟩
theorem DFn.none {k : Nat} {f : Addr} {fd : FuncData} {ps : List Str} : DFn P w K mg base k f fd ps (fun _ _ _ => False) :=
  ⟨fun vs H Q E ⟨_, _, _, _, _, _, _, h, _⟩ => h.elim, fun A outer s H args us vs Q E _ _ _ _ ⟨_, _, _, _, _, _, _, h, _⟩ => h.elim⟩
end
end DL

set_option autoImplicit false
set_option maxRecDepth 100000
set_option maxHeartbeats 4000000
/-! a def called without arguments -/
namespace DG
open PySem PySem.Spec PyProof.Rows L2
theorem pe_callG0 {X : Cx} {CX : CXT} {k : Nat} {f : Addr} {fd : FuncData} {sp : Sp} {E : XK} {x : Str} {p pos : Pos} (F : FnG X.prog X.w X.K X.mg X.base CX k f fd [] sp) (hr : RoomG k X.A) (hg : Gl X x) (hm : X.mg x = some (.ref f))
    (hk : PySem.W.keepIn X.K (.ref f) = true) (hb : Binds X.K fd [] []) (hx : Passes CX X E) (hdb : (x == ("__debug__" : Str)) = false := by decide) : PE X (.Call (.Name x p) [] [] pos) (tCall sp [] E tNil) := by
  refine ⟨fun pins s σ H Q I h => wpAny_Call_Name_kw (ld_glob I hg hm ?_ hdb)⟩
  refine PySem.W.callWith_K0 I.kIn hk (wpAny_call ?_)
  have q : sp ([] ++ []) H Q E := h
  have b := hb s [] I.kIn rfl
  refine codeAny_mono (F.run X.A X.stack s H ⟨[], []⟩ [] [] Q E hr I.env0 b .nil q) fun r s' z => ?_
  match r, z with
  | .error e, z => exact hx pins σ H s e s' I z
  | .ok (.ret u), z => exact I.after z
  | .ok .next, z => exact z.elim
  | .ok .brk, z => exact z.elim
  | .ok .cont, z => exact z.elim
end DG
namespace DL
open PySem PySem.Spec PyProof.Rows L2
theorem pt_min {X : Cx} {x : Str} {kvs : List (Str × V)} {p pos : Pos} {e : Expr} {ty : TE} (D : MDict X.K X.w X.mg x kvs) (hg : Gl X x) (he : PE X e ty) (hm : behindInMarks .In (.Name x p) = false) (hdb : (x == ("__debug__" : Str)) = false) :
    PT X (.Compare e [.In] [.Name x p] pos) (fun σ H Q => ty σ H fun y H1 => ∃ z, y = .str z ∧ Q ((lookT kvs z).isSome) H1) := by
  obtain ⟨a, es, n, hm', kd, en⟩ := D.ex
  have ho : PE X (.Name x p) (tC (.ref a)) := pe_glob hg hm' rfl hdb
  refine ⟨fun pins s σ H Q I h => ?_⟩
  refine wpAny_isTrue_Compare1 (thn (he.run pins s σ H _ I h) fun u s1 ⟨y, H1, I1, r1, z, ez, q⟩ => ?_) hm
  refine thn (ho.run pins s1 σ H1 (fun v H2 => v = .ref a ∧ H2 = H1) I1 ⟨rfl, rfl⟩) fun v s2 ⟨x0, H2, I2, r2, e1, e2⟩ => ?_
  subst e1 e2 ez
  obtain ⟨r, hr, hv⟩ := ents_ns kd en z
  refine thn (op_in_kd kd pins s2 σ H2 (.str z) (.ref a) u v (fun c H3 => c = .bl ((lookT kvs z).isSome) ∧ H3 = H2) I2 r1 r2 ⟨z, r, rfl, rfl, hr, ?_⟩) fun c s3 ⟨c0, H3, I3, r3, e3, e4⟩ => ?_
  · rcases hv with ⟨v1, u0, h1, rfl, h3⟩ | ⟨h1, rfl⟩
    · rw [h1]; exact ⟨rfl, rfl⟩
    · rw [h1]; exact ⟨rfl, rfl⟩
  · subst e3 e4
    cases r3
    exact wpAny_truthy_bool ⟨_, I3, q⟩
theorem dt_min {X : Cx} {x : Str} {kvs : List (Str × D)} {p pos : Pos} {e : Expr} {we : WE} (D : MDictD X.K X.w X.mg x kvs) (he : DE X e we) (hg : Gl X x := by rfl) (hm : behindInMarks .In (.Name x p) = false := by first | exact nomark _ | (with_unfolding_all rfl)) (hdb : (x == ("__debug__" : Str)) = false := by decide) :
    DT X (.Compare e [.In] [.Name x p] pos) (wTst (wUn (rdMIn id kvs) we)) :=
  dt_of (pt_min D.2 hg he.run hm hdb) fun σ H Q Γ Fr H0 M k h1 h2 h3 h4 => ⟨Γ, Fr, H0, M, _, h1, h2, h3, fun v H1 H' d M' e1 w1 r1 q1 => by
    unfold rdMIn at q1
    split at q1
    · rename_i s
      cases r1
      refine ⟨s, rfl, ?_⟩
      rw [lookT_map]
      have : ((lookT kvs s).map vF).isSome = (lookT kvs s).isSome := by cases lookT kvs s <;> rfl
      rw [this]
      exact h4 _ _ _ _ e1 w1 q1
    · exact q1.elim⟩
theorem pt_mnin {X : Cx} {x : Str} {kvs : List (Str × V)} {p pos : Pos} {e : Expr} {ty : TE} (D : MDict X.K X.w X.mg x kvs) (hg : Gl X x) (he : PE X e ty) (hm : behindInMarks .NotIn (.Name x p) = false) (hdb : (x == ("__debug__" : Str)) = false) :
    PT X (.Compare e [.NotIn] [.Name x p] pos) (fun σ H Q => ty σ H fun y H1 => ∃ z, y = .str z ∧ Q (!(lookT kvs z).isSome) H1) := by
  obtain ⟨a, es, n, hm', kd, en⟩ := D.ex
  have ho : PE X (.Name x p) (tC (.ref a)) := pe_glob hg hm' rfl hdb
  refine ⟨fun pins s σ H Q I h => ?_⟩
  refine wpAny_isTrue_Compare1 (thn (he.run pins s σ H _ I h) fun u s1 ⟨y, H1, I1, r1, z, ez, q⟩ => ?_) hm
  refine thn (ho.run pins s1 σ H1 (fun v H2 => v = .ref a ∧ H2 = H1) I1 ⟨rfl, rfl⟩) fun v s2 ⟨x0, H2, I2, r2, e1, e2⟩ => ?_
  subst e1 e2 ez
  obtain ⟨r, hr, hv⟩ := ents_ns kd en z
  refine thn (op_notIn_kd kd pins s2 σ H2 (.str z) (.ref a) u v (fun c H3 => c = .bl (!(lookT kvs z).isSome) ∧ H3 = H2) I2 r1 r2 ⟨z, r, rfl, rfl, hr, ?_⟩) fun c s3 ⟨c0, H3, I3, r3, e3, e4⟩ => ?_
  · rcases hv with ⟨v1, u0, h1, rfl, h3⟩ | ⟨h1, rfl⟩
    · rw [h1]; exact ⟨rfl, rfl⟩
    · rw [h1]; exact ⟨rfl, rfl⟩
  · subst e3 e4
    cases r3
    exact wpAny_truthy_bool ⟨_, I3, q⟩
theorem dt_mnin {X : Cx} {x : Str} {kvs : List (Str × D)} {p pos : Pos} {e : Expr} {we : WE} (D : MDictD X.K X.w X.mg x kvs) (he : DE X e we) (hg : Gl X x := by rfl) (hm : behindInMarks .NotIn (.Name x p) = false := by first | exact nomark _ | (with_unfolding_all rfl)) (hdb : (x == ("__debug__" : Str)) = false := by decide) :
    DT X (.Compare e [.NotIn] [.Name x p] pos) (wTst (wUn (rdMIn not kvs) we)) :=
  dt_of (pt_mnin D.2 hg he.run hm hdb) fun σ H Q Γ Fr H0 M k h1 h2 h3 h4 => ⟨Γ, Fr, H0, M, _, h1, h2, h3, fun v H1 H' d M' e1 w1 r1 q1 => by
    unfold rdMIn at q1
    split at q1
    · rename_i s
      cases r1
      refine ⟨s, rfl, ?_⟩
      rw [lookT_map]
      have : ((lookT kvs s).map vF).isSome = (lookT kvs s).isSome := by cases lookT kvs s <;> rfl
      rw [this]
      exact h4 _ _ _ _ e1 w1 q1
    · exact q1.elim⟩
theorem r_mget {kvs : List (Str × D)} {s : Str} {M : Mem} {k : KD} (h : k ((lookT kvs s).getD .non) M) : rdMGet kvs (.str s) M k := h
theorem r_mix {kvs : List (Str × D)} {s : Str} {d : D} {M : Mem} {k : KD} (e : lookT kvs s = some d) (h : k d M) : rdMIx kvs (.str s) M k := by
  show (match lookT kvs s with | some x => k x M | none => False)
  rw [e]; exact h
theorem r_min {f : Bool → Bool} {kvs : List (Str × D)} {s : Str} {M : Mem} {k : KD} (h : k (.bl (f (lookT kvs s).isSome)) M) : rdMIn f kvs (.str s) M k := h
section
variable {X : Cx} {K : PySem.W.Frag} {e a b : Expr} {es : List Expr}
def wCall0 (F : FD) : WE := fun _ M k => F [] M k
theorem de_own0 {F : FD} {f : Addr} {fd : FuncData} {x : Str} {st : Stmt} {k j : Nat} {p pos : Pos} (d : Def X.K X.mg x st [] f fd) (G : DFn X.prog X.w X.K X.mg X.base k f fd [] F) (hr : DG.RoomG j X.A) (hk : k ≤ j) (hg : Gl X x := by rfl) (hdb : (x == ("__debug__" : Str)) = false := by decide) :
    DE X (.Call (.Name x p) [] [] pos) (wCall0 F) :=
  de_of (DG.pe_callG0 G (hr.mono hk) hg d.at_ d.F.kp d.b pass0 hdb) fun σ H Q Γ Fr H0 M k h1 h2 h3 h4 => ⟨Fr, H0, M, [], k, h2, .nil, h3, h4⟩
/-- two lists one behind the other, as a new cell -/
def rdAddM : D → D → Mem → KD → Prop := fun x y M k => match asL M x, asL M y with
    | some xs, some ys => xs.length + ys.length ≤ sizeLine ∧ ∀ p, M p = none → k (.cel p) (setM M p (.lst (xs ++ ys)))
    | _, _ => False
theorem opd_addM : OpD K rCat rdAddM := fun Fr H0 M H x y vx vy k Q w rx ry h c => by
  unfold rdAddM at h
  split at h
  · rename_i xs ys e1 e2
    obtain ⟨a, vs, rfl, h1, d1⟩ := asL_ok w rx e1
    obtain ⟨b, ws, rfl, h2, d2⟩ := asL_ok w ry e2
    refine ⟨a, b, vs, ws, rfl, rfl, h1, h2, by rw [d1.length, d2.length]; exact h.1, fun p hp => ?_⟩
    exact c _ H0 _ _ _ (Same.refl _) (w.newM hp (.lst (d1.append d2))) (.cel p) (h.2 p (w.freshM hp))
  · exact h.elim
theorem de_addM {wa wb : WE} {pos : Pos} (ha : DE X a wa) (hb : DE X b wb) : DE X (.BinOp a .Add b pos) (wOp rdAddM wa wb) := de_op op_cat opd_addM ha hb
theorem r_addLM {M : Mem} {xs ys : List D} {k : KD} (hz : xs.length + ys.length ≤ sizeLine) (hk : ∀ p, M p = none → k (.cel p) (setM M p (.lst (xs ++ ys)))) : rdAddM (.lst xs) (.lst ys) M k := ⟨hz, hk⟩
/-- abs -/
def rdAbs : FD := fun ds M k => match ds with | [.int i] => k (.int (if i < 0 then -i else i)) M | _ => False
theorem calld_abs : CallD K (fun xs H Q => ∃ i, xs = [.int i] ∧ Q (.int (if i < 0 then -i else i)) H) rdAbs := fun Fr H0 M H vs ds k Q w r h c => by
  unfold rdAbs at h
  split at h
  · obtain ⟨v, rfl, r1⟩ := dats1 r
    cases r1
    exact ⟨_, rfl, c _ H0 H _ M (Same.refl _) w (.int _) h⟩
  · exact h.elim
theorem boot_abs : bootBuiltins "abs" = some (.builtin "abs") := by decide +kernel
theorem de_abs {we : WE} {p pos : Pos} (hm : X.mg "abs" = none) (he : DE X e we) (hs : starEach [e] X.env = (false, eval e X.env) :: starEach [] X.env := by rfl) (hg : Gl X "abs" := by rfl) (hpl : (backTo pos (starEach [] X.env)).any (·.1) = false := by rfl) :
    DE X (.Call (.Name "abs" p) [e] [] pos) (wCall rdAbs (wCons we wNil)) := de_callB call_abs calld_abs hm boot_abs (da_cons he da_nil hs) hg (by decide) (by decide) hs hpl
theorem r_abs {M : Mem} {i : Int} {k : KD} (hk : k (.int (if i < 0 then -i else i)) M) : rdAbs [.int i] M k := hk
/-- two texts as they are -/
theorem eq_strA {f : Bool → Bool} {s t : Str} {M : Mem} {k : KD} (h : k (.bl (f (decide (s = t)))) M) : rdEq f (.str s) (.str t) M k := h
theorem at_first {α : Type} {xs : List α} (h : xs ≠ []) : ∃ x, x ∈ xs ∧ atI xs 0 = some x := by
  cases xs with
  | nil => exact absurd rfl h
  | cons x r => exact ⟨x, List.mem_cons_self, at0 _ _⟩
theorem at_last {α : Type} {xs : List α} (h : xs ≠ []) : ∃ x, x ∈ xs ∧ atI xs (-1) = some x := by
  refine ⟨xs.getLast h, List.getLast_mem h, ?_⟩
  have := atI_last xs.dropLast (xs.getLast h)
  rwa [List.dropLast_concat_getLast h] at this
end
end DL

set_option autoImplicit false
set_option maxRecDepth 100000
set_option maxHeartbeats 4000000
/-! a local that holds one of several defs -/
namespace DG
open PySem PySem.Spec PyProof.Rows L2
def tCallGL (i : Nat) (f : Addr) (sp : Sp) (t : TA) : TE := fun σ H Q => σ[i]? = some (some (.ref f)) ∧ t σ H fun vs H1 => sp (vs ++ []) H1 Q fun _ _ _ => False
section
variable {X : Cx} {k i : Nat} {x : Str} {p pos : Pos} {e : Expr} {es : List Expr} {t : TA}
/-- which defs may be called so -/
structure HeldG (P : Program) (w : World) (K : PySem.W.Frag) (mg : Str → Option Value) (base : Heap) (k : Nat) (f : Addr) (sp : Sp) : Prop where
  ex : ∃ (fd : FuncData) (ps : List Str), FnG P w K mg base CX0 k f fd ps sp ∧ PySem.W.keepIn K (.ref f) = true ∧ Binds K fd ps []
theorem pe_callGA {S : Addr → Sp → Prop} (A : ∀ f sp, S f sp → HeldG X.prog X.w X.K X.mg X.base k f sp) (hr : RoomG k X.A) (hN : X.N[i]? = some x) (hv : Vis X.env.scope x) (ha : PA X (e :: es) t)
    (hdb : (x == ("__debug__" : Str)) = false := by decide) (hcd : (x == ("__classdict__" : Str)) = false := by decide)
    (he : starEach (e :: es) X.env = (false, eval e X.env) :: starEach es X.env := by rfl) (hpl : (backTo pos (starEach es X.env)).any (·.1) = false := by rfl) :
    PE X (.Call (.Name x p) (e :: es) [] pos) (fun σ H Q => ∃ f sp, S f sp ∧ tCallGL i f sp t σ H Q) := by
  refine ⟨fun pins s σ H Q I h => ?_⟩
  obtain ⟨f, sp, hS, hs, ht⟩ := h
  obtain ⟨fd, ps, F, hk, hb⟩ := (A f sp hS).ex
  refine wpAny_Call_Name_kw (thn ((pe_var (pos := p) hN hv hdb hcd).run pins s σ H (fun v H1 => v = .ref f ∧ H1 = H) I ⟨.ref f, hs, rfl, rfl⟩) fun u s1 ⟨v, H1, I1, r1, q1⟩ => ?_)
  obtain ⟨rfl, rfl⟩ := q1
  cases r1
  refine PySem.W.callWith_K (h₀ := X.base) I.ok.mod.kin hk (thn (ha.run pos pins s1 σ _ _ I1 ht) fun us s2 ⟨vs, H2, I2, r, q⟩ => ⟨I2.kIn, wpAny_call ?_⟩) he hpl
  have q : sp (vs ++ []) H2 Q (fun _ _ _ => False) := q
  rw [List.append_nil] at q
  have hl : (us ++ []).length = ps.length := by rw [List.append_nil, ← r.length]; exact F.len _ _ _ _ q
  have b := hb s2 us I2.kIn hl
  rw [List.append_nil] at b
  refine codeAny_mono (F.run X.A X.stack s2 H2 ⟨us, []⟩ us vs Q _ hr I2.env0 b r q) fun r s' z => ?_
  match r, z with
  | .error e, z => exact z.elim
  | .ok (.ret u), z => exact I2.after z
  | .ok .next, z => exact z.elim
  | .ok .brk, z => exact z.elim
  | .ok .cont, z => exact z.elim
end
end DG
namespace DL
open PySem PySem.Spec PyProof.Rows L2
section
variable {X : Cx} {K : PySem.W.Frag} {e a b : Expr} {es : List Expr}
/-- a call of what a local holds: S tells the defs with their promises -/
def wCallL (i : Nat) (S : Addr → FD → Prop) (wa : WA) : WE := fun Γ M k => ∃ f F, S f F ∧ Γ[i]? = some (some (.cel f)) ∧ wa Γ M fun ds M1 => F ds M1 k
structure HeldD (P : Program) (w : World) (K : PySem.W.Frag) (mg : Str → Option Value) (base : Heap) (k : Nat) (f : Addr) (F : FD) : Prop where
  ex : ∃ (fd : FuncData) (ps : List Str), DFn P w K mg base k f fd ps F ∧ PySem.W.keepIn K (.ref f) = true ∧ Binds K fd ps []
theorem Def.held {P : Program} {w : World} {K : PySem.W.Frag} {mg : Str → Option Value} {base : Heap} {k : Nat} {x : Str} {st : Stmt} {ps : List Str} {f : Addr} {fd : FuncData} {F : FD} (d : Def K mg x st ps f fd) (G : DFn P w K mg base k f fd ps F) : HeldD P w K mg base k f F :=
  ⟨fd, ps, G, d.F.kp, d.b⟩
theorem de_callL {i k j : Nat} {x : Str} {p pos : Pos} {wa : WA} {S : Addr → FD → Prop} (A : ∀ f F, S f F → HeldD X.prog X.w X.K X.mg X.base k f F) (hr : DG.RoomG j X.A) (hk : k ≤ j) (ha : DA X (e :: es) wa)
    (hN : X.N[i]? = some x := by rfl) (hv : Vis X.env.scope x := by first | exact Or.inl rfl | exact Or.inr (Or.inl rfl) | exact Or.inr (Or.inr rfl)) (hdb : (x == ("__debug__" : Str)) = false := by decide) (hcd : (x == ("__classdict__" : Str)) = false := by decide)
    (he : starEach (e :: es) X.env = (false, eval e X.env) :: starEach es X.env := by rfl) (hpl : (backTo pos (starEach es X.env)).any (·.1) = false := by rfl) : DE X (.Call (.Name x p) (e :: es) [] pos) (wCallL i S wa) := by
  refine de_of (DG.pe_callGA (S := fun f sp => ∃ F, S f F ∧ sp = liftF X.K F) (fun f sp ⟨F, hF, e⟩ => ?_) (hr.mono hk) hN hv ha.run hdb hcd he hpl) fun σ H Q Γ Fr H0 M k h1 h2 h3 h4 => ?_
  · obtain ⟨fd, ps, G, q1, q2⟩ := (A f F hF).ex
    subst e
    exact ⟨fd, ps, G, q1, q2⟩
  · obtain ⟨f, F, hS, hf, hw⟩ := h3
    obtain ⟨v, e1, r1⟩ := h1.get _ _ hf
    cases r1
    exact ⟨f, _, ⟨F, hS, rfl⟩, e1, Γ, Fr, H0, M, _, h1, h2, hw, fun vs H1 H' ds M' e1 w1 r1 q1 => ⟨Fr, H1, M', ds, k, w1, by rw [List.append_nil]; exact r1, q1, h4.mono e1⟩⟩
/-! a dict written with texts for keys and whole numbers -/
inductive DPs : List (Option Expr) → List Expr → List (Str × Int) → Prop
  | nil : DPs [] [] []
  | cons {s : Str} {i : Int} {j1 j2} {p1 p2 : Pos} {ks : List (Option Expr)} {vs : List Expr} {l : List (Str × Int)} : DPs ks vs l → DPs (some (.Constant (.str s) j1 p1) :: ks) (.Constant (.int i) j2 p2 :: vs) ((s, i) :: l)
def trsOf (l : List (Str × Int)) : List (TE × TE) := l.map fun p => (tC (.str p.1), tC (.int p.2))
theorem pps_of {pos : Pos} {ks : List (Option Expr)} {vs : List Expr} {l : List (Str × Int)} (h : DPs ks vs l) : PPs X pos ks vs (trsOf l) := by
  induction h with
  | nil => exact pps_nil
  | cons _ ih => exact pps_cons pe_str pe_int ih
theorem DPs.len {ks : List (Option Expr)} {vs : List Expr} {l : List (Str × Int)} (h : DPs ks vs l) : ks.length = l.length ∧ vs.length = l.length ∧ ks.all (·.isSome) = true := by
  induction h with
  | nil => exact ⟨rfl, rfl, rfl⟩
  | cons _ ih => obtain ⟨a, b, c⟩ := ih; exact ⟨by simp [a], by simp [b], by simp only [List.all_cons, c]; rfl⟩
theorem tpairs_const : ∀ (l : List (Str × Int)) (σ : L2.St) (H : Hp) (Q : List (V × V) → Hp → Prop), Q (l.map fun p => (V.str p.1, V.int p.2)) H → tPairs (trsOf l) σ H Q
  | [], σ, H, Q, h => h
  | (s, i) :: l, σ, H, Q, h => tpairs_const l σ H (fun ps H3 => Q ((V.str s, V.int i) :: ps) H3) h
def wDisp (l : List (Str × Int)) : WE := fun _ M k => ∀ p, M p = none → k (.cel p) (setM M p (.dct (mergeD [] (l.map fun p => (.inr p.1, .int p.2)))))
theorem merge_rel {K : PySem.W.Frag} {H : Hp} : ∀ (l : List (Str × Int)) (kvs : List (Key × V)) (kds : List (Key × D)), DKs K H kvs kds → DKs K H (mergeK kvs (l.map fun p => (Sum.inr p.1, V.int p.2))) (mergeD kds (l.map fun p => (Sum.inr p.1, D.int p.2)))
  | l, kvs, kds, h => paired_merge (by
      induction l with
      | nil => exact .nil
      | cons p r ih => exact .cons ⟨rfl, .int _⟩ ih) h
theorem de_disp {pos : Pos} {ks : List (Option Expr)} {vs : List Expr} {l : List (Str × Int)} (h : DPs ks vs l) (h0 : l ≠ []) (h15 : l.length ≤ 15) : DE X (.Dict ks vs pos) (wDisp l) := by
  obtain ⟨l1, l2, l3⟩ := h.len
  refine de_of (pe_disp (pps_of h) l3 (l1.trans l2.symm) (fun z => h0 (List.length_eq_zero_iff.mp (by rw [← l1, z]; rfl))) (by omega)) fun σ H Q Γ Fr H0 M k h1 h2 h3 h4 => ?_
  intro p hp
  refine tpairs_const l σ _ _ ⟨upd_same, l.map fun p => (.inr p.1, .int p.2), by rw [List.map_map]; rfl, by simpa using h15, ?_⟩
  have e : upd (upd H p (.dK [])) p (.dK (mergeK [] (l.map fun p => (Sum.inr p.1, V.int p.2)))) = upd H p (.dK (mergeK [] (l.map fun p => (Sum.inr p.1, V.int p.2)))) := by
    funext b
    by_cases q : b = p
    · subst q; rw [upd_same, upd_same]
    · rw [upd_ne q, upd_ne q, upd_ne q]
  rw [e]
  exact h4 _ H0 _ _ _ (Same.refl _) (h2.newM hp (.dct (merge_rel l [] [] .nil))) (.cel p) (h3 p (h2.freshM hp))
/-- d.get(k, x) -/
def rdGet2 : D → D → D → Mem → KD → Prop := fun x y z M k => match x, y with
  | .cel a, .str s => (match M a with | some (.dct kvs) => k ((lookD kvs (.inr s)).getD z) M | _ => False)
  | _, _ => False
def isDct (M : Mem) : D → Prop
  | .cel a => ∃ kvs, M a = some (.dct kvs)
  | _ => False
def wGet2 (wa wb wc : WE) : WE := fun Γ M k => wa Γ M fun x M1 => isDct M1 x ∧ wb Γ M1 fun y M2 => wc Γ M2 fun z M3 => rdGet2 x y z M3 k
theorem de_get2 {o f : Expr} {apos cpos : Pos} {wo we wf : WE} (hu : X.A.units + 1 < cLine) (ho : DE X o wo) (he : DE X e we) (hf : DE X f wf) (m : M2 X o "get" apos e f cpos := by exact ⟨rfl, rfl, rfl, rfl⟩) : DE X (.Call (.Attribute o "get" apos) [e, f] [] cpos) (wGet2 wo we wf) :=
  de_of (pe_dget2 hu ho.run he.run hf.run m) fun σ H Q Γ Fr H0 M k h1 h2 h3 h4 => by
    refine ⟨Γ, Fr, H0, M, _, h1, h2, h3, fun v H1 Ha d Ma e1 w1 r1 q1 => ?_⟩
    obtain ⟨q0, q1⟩ := q1
    cases d with
    | cel a =>
      cases r1
      obtain ⟨kvs, qa⟩ := q0
      obtain ⟨_, o', ho', hc'⟩ := w1.mem a _ qa
      cases hc' with
      | dct rd =>
        refine ⟨a, rfl, .inl ⟨_, .inl ho'⟩, ?_⟩
        refine ⟨Γ, Fr, H1, Ma, _, h1.mono e1, w1, q1, fun u H2 Hb d' Mb e2 w2 r2 q2 => ?_⟩
        refine ⟨Γ, Fr, H2, Mb, _, h1.mono (e1.trans e2), w2, q2, fun z H3 Hc dz M3 e3 w3 r3 q3 => ?_⟩
        cases d' with
        | str s =>
          change (match M3 a with | some (.dct kvs) => k ((lookD kvs (.inr s)).getD dz) M3 | _ => False) at q3
          split at q3
          · rename_i kvs2 qb
            obtain ⟨_, o2, ho2, hc2⟩ := w3.mem _ _ qb
            cases hc2 with
            | dct rd2 =>
              cases r2
              obtain ⟨i1, i2⟩ := look_ok (κ := .inr s) rd2
              cases ql : lookD kvs2 (.inr s) with
              | some dd =>
                obtain ⟨v2, j1, j2⟩ := i1 dd ql
                rw [ql] at q3
                exact ⟨some v2, .inl ⟨_, .inr s, .inl ho2, rfl, j1.symm⟩, h4 v2 H3 Hc dd M3 (e1.trans (e2.trans e3)) w3 j2 q3⟩
              | none =>
                have j := i2 ql
                rw [ql] at q3
                exact ⟨none, .inl ⟨_, .inr s, .inl ho2, rfl, j.symm⟩, h4 z H3 Hc dz M3 (e1.trans (e2.trans e3)) w3 r3 q3⟩
          · exact q3.elim
        | _ => exact q3.elim
    | _ => exact q0.elim
/-- xs.extend(ys) -/
def rdExtend : D → List D → Mem → KD → Prop := fun x ds M k => match x, ds with
  | .cel a, [y] => (match M a, asL M y with | some (.lst xs), some ys => xs.length + ys.length ≤ sizeLine ∧ k .non (setM M a (.lst (xs ++ ys))) | _, _ => False)
  | _, _ => False
theorem mtd_extend : MtD K rExtend rdExtend := fun Fr H0 M H v d vs ds k Q w r rs h c => by
  cases d with
  | cel a =>
    match ds, rs, h with
    | [y], rs, h =>
      simp only [rdExtend] at h
      split at h
      · rename_i xs ys ea ey
        obtain ⟨u, rfl, ru⟩ := dats1 rs
        cases r
        obtain ⟨n0, o, ho, hc⟩ := w.mem a _ ea
        cases hc with
        | lst rd =>
          obtain ⟨b, ws, rfl, h2, d2⟩ := asL_ok w ru ey
          refine ⟨a, b, _, ws, rfl, rfl, ho, h2, by rw [rd.length, d2.length]; exact h.1, ?_⟩
          exact c _ H0 _ _ _ (Same.refl _) (w.set ea (.lst (rd.append d2))) .non h.2
      · exact h.elim
    | [], _, h => exact h.elim
    | _ :: _ :: _, _, h => exact h.elim
  | _ => exact h.elim
theorem de_extend {o : Expr} {apos cpos : Pos} {wo we : WE} (ho : DE X o wo) (he : DE X e we)
    (hs : starEach [e] X.env = [(false, eval e X.env)] := by rfl)
    (hbase : attributeBase o "extend" X.env (eval o X.env) = eval o X.env := by rfl)
    (hfew : ((backTo cpos (starEach [e] X.env)).all (fun x => !x.1) && (backToKw cpos (keywordEach [] X.env)).all (fun x => x.1.isSome)
      && decide ([e].length + ([] : List Keyword).length + (if ([] : List Keyword).isEmpty then 0 else 1) < 30)) = true := by rfl)
    (hline : (apos.endLine == cpos.line) = true := by rfl) (hplain : (backTo cpos (starEach [] X.env)).any (·.1) = false := by rfl) : DE X (.Call (.Attribute o "extend" apos) [e] [] cpos) (wMt rdExtend wo (wCons we wNil)) :=
  de_mt PySem.F.slot_list_extend PySem.F.type_list_extend mt_extend mtd_extend ho (da_cons he da_nil hs) hbase hfew hline hs hplain
theorem r_ext {M : Mem} {a : Addr} {xs ys : List D} {y : D} {k : KD} (e : M a = some (.lst xs)) (ey : asL M y = some ys) (hz : xs.length + ys.length ≤ sizeLine) (hk : k .non (setM M a (.lst (xs ++ ys)))) : rdExtend (.cel a) [y] M k := by
  unfold rdExtend; simp only [e, ey]; exact ⟨hz, hk⟩
/-- anything looked for in a list of data -/
def rdInDp (f : Bool → Bool) : D → D → Mem → KD → Prop := fun x y M k => match toP M x, toPC M y with
  | some p, some (.list ps) => SeqAt.shaped p = true ∧ SeqAt.shaped (.list ps) = true ∧ k (.bl (f (ps.any fun z => PyData.eqv z p))) M
  | _, _ => False
theorem opd_inDp : OpD K (rInD K) (rdInDp id) := fun Fr H0 M H x y vx vy k Q w rx ry h c => by
  unfold rdInDp at h
  split at h
  · rename_i p ps e1 e2
    exact ⟨p, ps, toP_ok w x vx p rx e1, toPC_ok w ry e2, h.1, h.2.1, c _ H0 H _ M (Same.refl _) w (.bl _) h.2.2⟩
  · exact h.elim
theorem opd_ninDp : OpD K (rNotInD K) (rdInDp not) := fun Fr H0 M H x y vx vy k Q w rx ry h c => by
  unfold rdInDp at h
  split at h
  · rename_i p ps e1 e2
    exact ⟨p, ps, toP_ok w x vx p rx e1, toPC_ok w ry e2, h.1, h.2.1, c _ H0 H _ M (Same.refl _) w (.bl _) h.2.2⟩
  · exact h.elim
theorem c_inD {k : Nat} (hr : DG.RoomG k X.A) : CmpD X .In (rdInDp id) := ⟨_, op_inD (by have := hr.r.un; omega), opd_inDp⟩
theorem c_ninD {k : Nat} (hr : DG.RoomG k X.A) : CmpD X .NotIn (rdInDp not) := ⟨_, op_notInD (by have := hr.r.un; omega), opd_ninDp⟩
end
end DL

set_option autoImplicit false
set_option maxRecDepth 100000
set_option maxHeartbeats 4000000
/-! sets of texts, made of a list of texts: counted, or laid out in their order -/

namespace TS
open PySem PySem.Spec PyProof.Rows L2 PySem.Froz
section
variable {P : Program} {w : World} {A : Around} {E : Value → Shared → Prop} {s : Shared} {a : Addr} {l : List Str}
set_option maxHeartbeats 16000000 in
theorem call_setT {b : Addr} {its : Array Value} {xs : List Str} {Q : Value → Shared → Prop} (hh : A.handled = none) (hl : s.heap.IsTuple b its) (hv : StrsAre its.toList xs) (hb : xs.length + 1 < scanBound)
    (h : ∀ h' tk, SetS P w h' s.heap.objs.size (uni xs) → (∀ c o, s.heap.get? c = some o → h'.get? c = some o) → Q (.ref s.heap.objs.size) { s with heap := h', toks := tk }) :
    wpAny (model P w) A (call (.type "set") [.ref b]) Q E s := by
  have sz : xs.length = its.size := by rw [← StrsAre.len_eq hv, Array.length_toList]
  obtain ⟨mc, mt, hmro⟩ := F.called_set.mro
  have i1 := F.called_set.made
  have i2 := F.called_set.sub
  have i3 := F.called_set.notType
  have i4 := F.called_set.canCreate
  have i5 := F.typeCall_set_1 (.ref b)
  apply wpAny_call
  apply codeAny_of_tree
  show wpAny _ _ (callAny (.type "set") ⟨[.ref b], []⟩) _ _ _
  refine wpAny_pure ⟨Code.quiet_builtin _ (by decide +kernel), ?_⟩
  apply codeAny_builtin F.entry_type_call
  rw [Around.under_plain (weight_type_call_type "set" [.ref b] []) (by rfl)]
  repeat (any_goals first | assumption | wp_step)
  refine codeAny_mono (code_set_led1 (.ref b) (E := E) (Q₁ := fun v s1 => v = .ref s.heap.objs.size ∧ s1 = { s with heap := s.heap.push (bare w) }) ⟨rfl, rfl⟩) fun r s1 hr => ?_
  match r, hr with
  | .error _, hr => exact hr
  | .ok (.ret v), ⟨e1, e2⟩ =>
    subst e1; subst e2
    have g0 : (s.heap.push (bare w)).get? s.heap.objs.size = some (bare w) := Heap.get?_push_size _ rfl
    have ty0 : Shared.TypeIs { s with heap := s.heap.push (bare w) } (.ref s.heap.objs.size) "set" := ⟨_, g0, rfl⟩
    have j1 := F.called_set.init.lookup
    have j2 := F.called_set.init.bind (.ref s.heap.objs.size)
    repeat (any_goals first | assumption | wp_step)
    refine codeAny_mono (codeAny_call_builtin (R := wants (fun r s2 => r = .none ∧ ∃ h' tk, s2 = { s with heap := h', toks := tk } ∧ SetS P w h' s.heap.objs.size (uni xs) ∧ ∀ c o, s.heap.get? c = some o → h'.get? c = some o) E)
      F.called_set.init.plain F.entry_set_init (check_set_init_1 ty0 ?_)) fun r2 s2 hr2 => ?_
    · obtain ⟨lo, glo, lc, n, ld⟩ := hl
      obtain ⟨cls, dic, dat, slo⟩ := lo
      simp only at lc ld
      subst lc; subst ld
      have glo' := Heap.get?_push_of_some (bare w) glo
      have isl : (s.heap.push (bare w)).IsTuple b its := ⟨_, glo', rfl, n, rfl⟩
      have q1 := F.sub_tuple_set
      have q2 := F.sub_tuple_frozenset
      have q3 : (Value.type "tuple" == Value.type "dict") = false := by decide
      have blt : b < s.heap.objs.size := Heap.lt_size glo
      unfold Builtin.«set.__init__» noKeywords Builtin.Frozenset.updateFrom
      generalize hPI : pyIter = PI
      wp_walk
      subst hPI
      apply wpAny_pyIter_tuple isl
      apply wpAny_bind
      apply wpAny_runValue
      have sz2 : (s.heap.push (bare w)).objs.size = s.heap.objs.size + 1 := Heap.size_push ..
      have n1 : b ≠ (s.heap.push (bare w)).objs.size := fun z => by rw [sz2] at z; exact Nat.ne_of_lt (Nat.lt_succ_of_lt blt) z
      have n2 : s.heap.objs.size ∉ [(s.heap.push (bare w)).objs.size, b] := by
        intro z
        rcases List.mem_cons.mp z with z | z
        · rw [sz2] at z; exact Nat.ne_of_lt (Nat.lt_succ_self _) z
        · rw [List.mem_singleton] at z; exact Nat.ne_of_gt blt z
      have vals : ∀ (i : Nat) (v : Value), its[i]? = some v → ∃ y t, xs[i]? = some y ∧ v = .str y t := fun i v e => by
        have hi : i < xs.length := by rw [sz]; exact (Array.getElem?_eq_some_iff.mp e).1
        obtain ⟨t, et⟩ := SS.strs_at hv i v (by rw [Array.getElem?_toList]; exact e)
        exact ⟨xs[i], t, List.getElem?_eq_getElem hi, by rw [et, List.getD_eq_getElem?_getD, List.getElem?_eq_getElem hi] <;> rfl⟩
      have hd3 : A.in1.in1.in1.handled = none := by simp [hh]
      refine loop (Walks.tuple hd3 _ b n1 its).toS n2 sz (by omega) vals its.size 0 _ (by omega) ⟨⟨_, Heap.get?_push_size _ rfl, rfl, rfl⟩, isl.push _⟩ ?_ ?_
      · exact bare_set (Heap.get?_push_of_some _ g0)
      · intro s2 hm hs
        obtain ⟨h2, g2, d2, t2, o2⟩ := s2
        have eg : g2 = s.gens := hm.gens
        have ed : d2 = s.drawn := hm.drawn
        have eo : o2 = s.os := hm.os
        subst eg; subst ed; subst eo
        show wpAny _ _ _ _ _ _
        apply wpAny_pure
        show wpAny _ _ (ret Value.none) _ _ _
        refine wpAny_pure ⟨rfl, h2, t2, rfl, hs, fun c o e => ?_⟩
        have cl := Heap.lt_size e
        refine hm.heap c o (fun z => ?_) (Heap.get?_push_of_some _ (Heap.get?_push_of_some _ e))
        rcases List.mem_cons.mp z with z | z
        · exact Nat.ne_of_lt cl z
        · rw [List.mem_singleton, sz2] at z; exact Nat.ne_of_lt (Nat.lt_succ_of_lt cl) z
    · match r2, hr2 with
      | .error _, hr2 => exact hr2
      | .ok (.ret v), ⟨e1, h', tk, e2, y1, y2⟩ =>
        subst e1; subst e2
        repeat (any_goals first | assumption | wp_step)
        exact h _ _ y1 y2
      | .ok .next, hr2 => exact hr2.elim
      | .ok .brk, hr2 => exact hr2.elim
      | .ok .cont, hr2 => exact hr2.elim
  | .ok .next, hr => exact hr.elim
  | .ok .brk, hr => exact hr.elim
  | .ok .cont, hr => exact hr.elim
end
end TS
namespace DL
open PySem PySem.Spec PyProof.Rows L2
section
variable {X : Cx} {K : PySem.W.Frag}
theorem pe_lenSetT {a : Expr} {ta : TE} {p p2 q pos : Pos} (hc : X.calm = true) (hg : Gl X "len") (hm : X.mg "len" = none) (hg2 : Gl X "set") (hm2 : X.mg "set" = none) (ha : PE X a ta)
    (na : starEach [a] X.env = (false, eval a X.env) :: starEach [] X.env) :
    PE X (.Call (.Name "len" p) [.Call (.Name "set" p2) [a] [] q] [] pos) (fun σ H Q => ta σ H fun x H1 => ∃ l, ∃ xs : List Str, x = .ref l ∧ SqT X.K H1 l (xs.map V.str) ∧ xs.length + 1 < scanBound ∧ Q (.int (TS.uni xs).length) H1) := by
  refine ⟨fun pins s σ H Q I h => Call_ (ld_blt I hg hm boot_len ?_)⟩
  refine PyProof.Rows.callWith_builtin1 (PyProof.Rows.args_cons (Call_ (ld_blt I hg2 hm2 boot_set ?_)) rfl) rfl rfl
  refine PyProof.Rows.callWith_type1 (PyProof.Rows.args_cons (thn (ha.run pins s σ H _ I h) fun v s1 ⟨x, H1, I1, r1, q1⟩ => PyProof.Rows.args_nil ?_) na) na rfl
  obtain ⟨l, xs, rfl, hq, hb, q1⟩ := q1
  cases r1
  obtain ⟨its, r, pl, hz⟩ := I1.tuple hq
  refine TS.call_setT (I1.ok.hd hc) pl (by simpa using strsAre_of r) hb fun h' tk ⟨D, g, F, _⟩ hk => ?_
  refine PyProof.Rows.args_nil ?_
  have I2 : Inv X pins σ H1 { s1 with heap := h', toks := tk } := I1.kept fun b o e => hk b o e
  have sz : D.1.size = (TS.uni xs).length := F.sz
  have ul := TS.uni_len xs
  have sb : scanBound = 4096 := rfl
  refine call_len_set g ⟨rfl, rfl, rfl⟩ rfl F.fit (by omega) ⟨.int (TS.uni xs).length, H1, I2.tok _, ⟨_, by rw [sz]⟩, q1⟩
def rdLenSetT : FD := fun ds M k => match ds with
  | [.tup xs] => (match strsD xs with | some l => l.length + 1 < scanBound ∧ k (.int (TS.uni l).length) M | none => False)
  | _ => False
theorem de_lenSetT {a : Expr} {we : WE} {p p2 q pos : Pos} (hc : X.calm = true) (hm : X.mg "len" = none) (hm2 : X.mg "set" = none) (ha : DE X a we) (na : starEach [a] X.env = (false, eval a X.env) :: starEach [] X.env := by rfl)
    (hg : Gl X "len" := by rfl) (hg2 : Gl X "set" := by rfl) : DE X (.Call (.Name "len" p) [.Call (.Name "set" p2) [a] [] q] [] pos) (wCall rdLenSetT (wCons we wNil)) :=
  de_of (pe_lenSetT hc hg hm hg2 hm2 ha.run na) fun σ H Q Γ Fr H0 M k h1 h2 h3 h4 => ⟨Γ, Fr, H0, M, _, h1, h2, h3, fun v H1 H' d M' e1 w1 r1 q1 => by
    cases d with
    | tup xs =>
      simp only [wNil, rdLenSetT] at q1
      split at q1
      · rename_i l el
        cases r1 with
        | tup hs hd =>
          have := strsD_ok hd el
          subst this
          exact ⟨_, l, rfl, same_t w1.ex hs, q1.1, h4 _ H1 H' _ M' e1 w1 (.int _) q1.2⟩
      · exact q1.elim
    | _ => exact q1.elim⟩
end
end DL

set_option autoImplicit false
set_option maxRecDepth 100000
set_option maxHeartbeats 4000000
namespace DL
open PySem PySem.Spec PyProof.Rows L2
section
variable {X : Cx} {K : PySem.W.Frag}
/-- list(x) that will be changed: a cell -/
def rdListM : FD := fun ds M k => match ds with
  | [x] => (match seqD M x with | some xs => ∀ p, M p = none → k (.cel p) (setM M p (.lst xs)) | none => False)
  | _ => False
theorem calld_listM : CallD K (fun xs H Q => ∃ p ys, xs = [.ref p] ∧ (SqL K H p ys ∨ SqT K H p ys) ∧ ∀ l, H l = none → Q (.ref l) (upd H l (.lst ys))) rdListM := fun Fr H0 M H vs ds k Q w r h c => by
  unfold rdListM at h
  split at h
  · obtain ⟨v, rfl, rv⟩ := dats1 r
    split at h
    · obtain ⟨a, ws, rfl, hs, hd⟩ := seqD_ok w rv (by assumption)
      exact ⟨a, ws, rfl, hs, fun l hl => c _ H0 _ _ _ (Same.refl _) (w.newM hl (.lst hd)) (.cel l) (h l (w.freshM hl))⟩
    · exact h.elim
  · exact h.elim
theorem de_listM {e : Expr} {we : WE} {p pos : Pos} (hm : X.mg "list" = none) (he : DE X e we) (hs : starEach [e] X.env = (false, eval e X.env) :: starEach [] X.env := by rfl) (hg : Gl X "list" := by rfl) (hpl : (backTo pos (starEach [] X.env)).any (·.1) = false := by rfl) :
    DE X (.Call (.Name "list" p) [e] [] pos) (wCall rdListM (wCons we wNil)) :=
  de_callTy call_list_of calld_listM hm PyProof.Rows.boot_list (da_cons he da_nil hs) hg (by decide) (by decide) hs hpl
/-- x.pop(i) -/
theorem r_popAt {M : Mem} {a : Addr} {xs : List D} {i j : Nat} {y : D} {k : KD} (e : M a = some (.lst xs)) (hi : (i : Int) = (j : Nat)) (hj : xs[j]? = some y) (hb : xs.length < 1000000) (hk : k y (setM M a (.lst (xs.eraseIdx j)))) : rdPopAt (.cel a) [.int (i : Nat)] M k := by
  have : i = j := by omega
  subst this
  have hl : i < xs.length := (List.getElem?_eq_some_iff.mp hj).1
  unfold rdPopAt
  simp only [e]
  have e1 : seqIndex? (i : Int) xs.length = some i := by
    unfold seqIndex?
    simp only [Int.natCast_nonneg, Int.toNat_natCast]
    first
      | rw [if_neg (by omega), if_pos (by omega)]
      | simp; omega
  refine ⟨⟨by omega, by omega⟩, ?_⟩
  simp only [e1, hj]
  exact hk
end
end DL

set_option autoImplicit false
set_option maxRecDepth 100000
set_option maxHeartbeats 2000000
namespace DL
open PySem PySem.Spec PyProof.Rows L2
open Sem (wp)
/-! zip of a tuple and a list -/
def ZTL (K : PySem.W.Frag) (a b : Addr) : It where
  go := fun i H => ∃ (us vs : List V) (p q : V), SqT K H a us ∧ SqL K H b vs ∧ us[i]? = some p ∧ vs[i]? = some q
  yld := fun i H v H' => ∃ T p q, v = V.ref T ∧ H T = none ∧ H' = upd H T (.tup [p, q]) ∧ (∀ us, SqT K H a us → us[i]? = some p) ∧ (∀ vs, SqL K H b vs → vs[i]? = some q)
  stop := fun i H => ∃ us vs : List V, SqT K H a us ∧ SqL K H b vs ∧ i = min us.length vs.length
structure Apt (z tI tO j1 j2 a b : Addr) : Prop where
  S : ZipSep2 z tI tO j1 j2 [j1, a] [j2, b]
  na : a ≠ j1
  nb : b ≠ j2
theorem turnTL {P : Program} {w : World} {K : PySem.W.Frag} {elts : List Expr} {kk : Nat} {tpos : Pos} {z tI tO j1 j2 a b : Addr} (D : Apt z tI tO j1 j2 a b) :
    Turn P w K (.Tuple elts kk tpos) (ZTL K a b) [z, tI, tO, j1, j2] z (fun i h => IsZip h z tI tO .none ∧ IsTupOf2 h tI (.ref j1) (.ref j2) ∧ (∃ m n, IsTupOf2 h tO m n) ∧ h.IsTupleIter j1 a i ∧ h.IsListIter j2 b i) where
  mem := List.mem_cons_self
  obj := fun i h st c hc => by
    obtain ⟨g1, g2, ⟨m, n, g3⟩, ⟨o1, g4, _, g5⟩, ⟨o2, g6, _, g7⟩⟩ := st
    simp only [List.mem_cons, List.not_mem_nil, or_false] at hc
    rcases hc with rfl | rfl | rfl | rfl | rfl
    · exact ⟨_, g1, fun v q => nomatch q⟩
    · exact ⟨_, g2, fun v q => nomatch q⟩
    · exact ⟨_, g3, fun v q => nomatch q⟩
    · exact ⟨o1, g4, fun v q => (by rw [g5] at q; cases q)⟩
    · exact ⟨o2, g6, fun v q => (by rw [g7] at q; cases q)⟩
  keep := fun i h h' st k => by
    obtain ⟨g1, g2, ⟨m, n, g3⟩, g4, g5⟩ := st
    exact ⟨k z (by simp) _ g1, k tI (by simp) _ g2, ⟨m, n, k tO (by simp) _ g3⟩, g4.at fun o e => k j1 (by simp) o e, g5.at fun o e => k j2 (by simp) o e⟩
  item := by
    intro X hP hw hK hc i pins s σ H E I hf st hg
    subst hP hw hK
    obtain ⟨g1, g2, ⟨m, n, g3⟩, g4, g5⟩ := st
    obtain ⟨us, vs, p, q, sq1, sq2, hp, hq⟩ := hg
    obtain ⟨ia, ra, pa, _⟩ := I.tuple sq1
    obtain ⟨ib, rb, pb, _⟩ := I.list sq2
    have la := ra.length
    have lb := rb.length
    have l1 : i < ia.toArray.size := by
      have := (List.getElem?_eq_some_iff.mp hp).1
      rw [List.size_toArray]; omega
    have l2 : i < ib.toArray.size := by
      have := (List.getElem?_eq_some_iff.mp hq).1
      rw [List.size_toArray]; omega
    have zl : z < s.heap.objs.size := Heap.lt_size g1
    have il : tI < s.heap.objs.size := Heap.lt_size g2
    have ol : tO < s.heap.objs.size := Heap.lt_size g3
    have jl1 : j1 < s.heap.objs.size := (by obtain ⟨_, e, _⟩ := g4; exact Heap.lt_size e)
    have jl2 : j2 < s.heap.objs.size := (by obtain ⟨_, e, _⟩ := g5; exact Heap.lt_size e)
    have D1 := Draws.tuple (prog := X.prog) (w := X.w) (A := X.A.in1) (I.ok.hd hc) j1 a D.na ia.toArray
    have D2 := Draws.list (prog := X.prog) (w := X.w) (A := X.A.in1) (I.ok.hd hc) j2 b D.nb ib.toArray
    refine wpAny_pyNext_zipD2_item D.S D1 D2 g1 g2 g3 ⟨g4, (show s.heap.IsTuple a ia.toArray from pa)⟩ ⟨g5, pb.isList⟩ l1 l2 fun x1 x2 h' tk y1 y2 b1 b2 d1 d2 b5 hsz hk => ?_
    refine ⟨_, rfl, wpAny_letOwnedTupleGo_zip (s := { s with heap := h', toks := tk }) b1 fun h'' z'' sb => ?_⟩
    have r1 : RelV p x1 := by
      obtain ⟨u, q1, q2⟩ := ra.get hp
      have q3 : ia[i]? = some x1 := by simpa using y1
      rw [q1] at q3; cases q3; exact q2
    have r2 : RelV q x2 := by
      obtain ⟨u, q1, q2⟩ := rb.get hq
      have q3 : ib[i]? = some x2 := by simpa using y2
      rw [q1] at q3; cases q3; exact q2
    have hT : h''.get? s.heap.objs.size = some { cls := .type "tuple", data := .seq #[x1, x2] } := (sb.2 _ (Nat.ne_of_gt zl)).trans b5
    have new : ObjOk X.prog X.w (upd H s.heap.objs.size (.tup [p, q])) h'' s.heap.objs.size (.tup [p, q]) :=
      ⟨(by show 2 ≤ sizeLine; decide), [x1, x2], .cons r1 (.cons r2 .nil), ⟨_, hT, rfl, _, rfl⟩⟩
    have I1 : Inv X pins σ (upd H s.heap.objs.size (.tup [p, q])) { s with heap := h'', toks := tk } :=
      I.turnedNew (t' := tk) (ch := [z, tI, tO, j1, j2])
        (fun c o hb e => (sb.2 c (fun y => hb (by simp [y]))).trans
          (hk c o (fun y => hb (by simp [y])) (fun y => hb (by simp [y])) (fun y => hb (by simp [y])) (fun y => hb (by simp [y])) e)) hf (Nat.le_refl _) new
    refine ⟨.ref s.heap.objs.size, _, I1, rfl, ⟨_, p, q, rfl, I.hok.fresh (Nat.le_refl _), rfl, fun l hl => (by rw [I.tuple_inj hl sq1]; exact hp), fun l hl => (by rw [I.list_inj hl sq2]; exact hq)⟩, ⟨z'', ?_, ⟨x1, x2, ?_⟩, ?_, ?_⟩, fun c hcm => ?_⟩
    · exact (sb.2 _ D.S.TIz).trans (hk _ _ D.S.TIz D.S.TITO D.S.TIi1 D.S.TIi2 g2)
    · exact (sb.2 _ D.S.TOz).trans b2
    · exact d1.1.at fun o e => (sb.2 _ (fun y => D.S.zf1 (by simp [y]))).trans e
    · exact d2.1.at fun o e => (sb.2 _ (fun y => D.S.zf2 (by simp [y]))).trans e
    · have lt : c < s.heap.objs.size := by
        simp only [List.mem_cons, List.not_mem_nil, or_false] at hcm
        rcases hcm with rfl | rfl | rfl | rfl | rfl
        · exact zl
        · exact il
        · exact ol
        · exact jl1
        · exact jl2
      rw [upd_ne (Nat.ne_of_lt lt)]
      exact (hf c hcm).1
  done := by
    intro X hP hw hK hc i pins s σ H E I hf st hg
    subst hP hw hK
    obtain ⟨g1, g2, ⟨m, n, g3⟩, g4, g5⟩ := st
    obtain ⟨us, vs, sq1, sq2, he⟩ := hg
    obtain ⟨ia, ra, pa, _⟩ := I.tuple sq1
    obtain ⟨ib, rb, pb, _⟩ := I.list sq2
    have la := ra.length
    have lb := rb.length
    have n1 : ia.toArray.size = us.length := by rw [List.size_toArray]; omega
    have n2 : ib.toArray.size = vs.length := by rw [List.size_toArray]; omega
    have D1 := Draws.tuple (prog := X.prog) (w := X.w) (A := X.A.in1) (I.ok.hd hc) j1 a D.na ia.toArray
    have D2 := Draws.list (prog := X.prog) (w := X.w) (A := X.A.in1) (I.ok.hd hc) j2 b D.nb ib.toArray
    exact wpAny_pyNext_zipD2_end D.S D1 D2 g1 g2 g3 ⟨g4, (show s.heap.IsTuple a ia.toArray from pa)⟩ ⟨g5, pb.isList⟩ (by omega) (by omega) (by omega) fun h' tk hk =>
      ⟨rfl, I.turnedL (t' := tk) (ch := [z, tI, tO, j1, j2]) (fun c o hb e => hk c o (fun y => hb (by simp [y])) (fun y => hb (by simp [y])) (fun y => hb (by simp [y])) (fun y => hb (by simp [y])) e) hf⟩
  self := fun A i s Q E st h => wpAny_pyIter_zip st.1 h
def iZTL (K : PySem.W.Frag) (ta : TA) : TI := fun σ H R => ta σ H fun vs H1 => ∃ a b xs ys, vs = [.ref a, .ref b] ∧ SqT K H1 a xs ∧ SqL K H1 b ys ∧ R (ZTL K a b) H1
theorem pi_zTL {X : Cx} {e e2 : Expr} {ta : TA} {p pos tpos : Pos} {elts : List Expr} {kk : Nat} (hg : Gl X "zip") (hm : X.mg "zip" = none) (ha : PA X [e, e2] ta)
    (hs : starEach [e, e2] X.env = (false, eval e X.env) :: starEach [e2] X.env) (hpl : (backTo pos (starEach [e2] X.env)).any (·.1) = false) :
    PI X (.Tuple elts kk tpos) (.Call (.Name "zip" p) [e, e2] [] pos) (iZTL X.K ta) := by
  refine ⟨fun pins s σ H R I h => Call_ (ld_blt I hg hm PyProof.Rows.boot_zip (PyProof.Rows.callWith_type1 (thn (ha.run pos pins s σ H _ I h) fun us s1 ⟨vs, H1, I1, r1, q1⟩ => ?_) hs hpl))⟩
  obtain ⟨a, b, xs, ys, ex, sq1, sq2, q⟩ := q1
  subst ex
  obtain ⟨u1, u2, rfl, ru1, ru2⟩ := vals2 r1
  cases ru1
  cases ru2
  obtain ⟨ia, ra, pa, _⟩ := I1.tuple sq1
  obtain ⟨ib, rb, pb, _⟩ := I1.list sq2
  have pt : s1.heap.IsTuple a ia.toArray := pa
  have al : a < s1.heap.objs.size := pa.lt
  have bl : b < s1.heap.objs.size := pb.lt
  refine zip_begins2 (begins_tuple a ia.toArray) (begins_list b ib.toArray) pt pb.isList fun h' hz hI hO h1 h2 hsz hk => wpAny_pyIter_zip hz ?_
  have sep := zip_sep2 (N := s1.heap.objs.size) (fp1 := [a]) (fp2 := [b]) (fun c hc => (by rw [List.mem_singleton.mp hc]; exact al)) (fun c hc => (by rw [List.mem_singleton.mp hc]; exact bl))
  refine ⟨s1.heap.objs.size + 4, [s1.heap.objs.size + 4, s1.heap.objs.size + 2, s1.heap.objs.size + 3, s1.heap.objs.size, s1.heap.objs.size + 1], _, _, H1, rfl, I1.kept (t' := s1.toks) hk,
    turnTL ⟨sep, Nat.ne_of_lt al, Nat.ne_of_lt (Nat.lt_succ_of_lt bl)⟩, ⟨hz, hI, ⟨_, _, hO⟩, ⟨_, h1, rfl, rfl⟩, ⟨_, h2, rfl, rfl⟩⟩, fun c hc => ?_, q⟩
  have le : s1.heap.objs.size ≤ c := by
    simp only [List.mem_cons, List.not_mem_nil, or_false] at hc
    rcases hc with rfl | rfl | rfl | rfl | rfl <;> omega
  exact I1.fpOk le (I1.hok.fresh le)
end DL
namespace DL
open PySem PySem.Spec PyProof.Rows L2
section
variable {X : Cx} {e e2 : Expr} {elts : List Expr} {kk : Nat} {tpos p pos : Pos} {wa : WA}
def wiZTL (wa : WA) : WI := fun Γ M k => wa Γ M fun ds M1 => match ds with
  | [.tup xs, y] => (match asR M1 y with | some ys => k (zipD xs ys) (gAt y ys) M1 | none => False)
  | _ => False
theorem walks_zTL {K : PySem.W.Frag} {H0 : Hp} {a b : Addr} {vs : List V} {y : D} {ds es : List D} (hs : SqT K H0 a vs) (hd : Dats K H0 vs ds) (r2 : Dat K H0 (.ref b) y) : Walks K (ZTL K a b) H0 (zipD ds es) (gAt y es) := fun Fr H0' M H e w g => by
  have s1 := same_t (e.trans w.ex) hs
  obtain ⟨c, us, ec, s2, hd2⟩ := asR_ok w (r2.mono e) g
  cases ec
  have n1 := hd.length
  have n2 := hd2.length
  have n3 := zipD_len ds es
  refine ⟨fun i hi => ?_, ⟨vs, us, s1, s2, by omega⟩, fun i x H' d hd' z => ?_⟩
  · have m1 : i < vs.length := by omega
    have m2 : i < us.length := by omega
    exact ⟨vs, us, vs[i], us[i], s1, s2, List.getElem?_eq_getElem m1, List.getElem?_eq_getElem m2⟩
  · obtain ⟨T, v, u, rfl, hT, rfl, h1, h2⟩ := z
    obtain ⟨d1, d2, e2, e3, rfl⟩ := zipD_get hd'
    obtain ⟨v', e4, r4⟩ := hd.get e2
    obtain ⟨u', e5, r5⟩ := hd2.get e3
    have e6 := h1 vs s1
    have e7 := h2 us s2
    rw [e4] at e6; cases e6
    rw [e5] at e7; cases e7
    exact new_pair w hT (r4.mono e) r5
theorem di_zTL (hm : X.mg "zip" = none) (ha : DA X [e, e2] wa) (hg : Gl X "zip" := by rfl) (hs : starEach [e, e2] X.env = (false, eval e X.env) :: starEach [e2] X.env := by rfl)
    (hpl : (backTo pos (starEach [e2] X.env)).any (·.1) = false := by rfl) : DI X (.Tuple elts kk tpos) (.Call (.Name "zip" p) [e, e2] [] pos) (wiZTL wa) :=
  ⟨_, pi_zTL hg hm ha.run hs hpl, fun σ H Γ Fr H0 M k R h1 h2 h3 h4 => ⟨Γ, Fr, H0, M, _, h1, h2, h3, fun vs H1 H' ds M' e1 w1 r1 q1 => by
    split at q1
    · obtain ⟨v, u, rfl, rv, ru⟩ := dats2 r1
      split at q1
      · rename_i ys ey
        cases rv with
        | tup hs hd =>
          obtain ⟨c, us, ec, s2, hd2⟩ := asR_ok w1 ru ey
          subst ec
          exact ⟨_, c, _, us, rfl, same_t w1.ex hs, s2, h4 _ _ _ H' H1 M' e1 w1 q1 (walks_zTL hs hd ru)⟩
      · exact q1.elim
    · exact q1.elim⟩⟩
end
end DL

set_option autoImplicit false
set_option maxRecDepth 100000
set_option maxHeartbeats 4000000
/-! anything held against the empty tuple -/
namespace EQ
open PySem PySem.Spec PyProof.Rows L2
open PySem.AutoSeq1 (wpAny_loadPart') in
theorem dict_tup0 (l b : Addr) (es : Array DictEntry) (n : Nat) (dd dd2 : Option Addr) (sl sl2 : Array (Option Value)) (c : Value) (its : Array Value) (n2 : Nat) (f : isSubtype c (.type "dict") = pure false) :
    Meets (Builtin.«dict.__ne__» ⟨[.ref l, .ref b], []⟩) (fun _ R s => s.heap.get? l = some { cls := .type "dict", dict := dd, data := .dict es n, slots := sl } ∧ s.heap.get? b = some { cls := c, dict := dd2, data := .seq its n2, slots := sl2 } ∧ R (.ok (.ret .notImplemented)) s) :=
  .of_wp fun P w A R s h => by
    obtain ⟨hp, g, d, tk, os⟩ := s
    obtain ⟨q1, q2, q3⟩ := h
    wp_walk using wpAny_loadPart' q1, wpAny_loadPart' q2, wpAny_load q1, wpAny_load q2
    exact ⟨_, rfl, q3⟩
open PySem.AutoSeq1 (wpAny_loadPart') in
theorem tup_dict0 (l b : Addr) (es : Array DictEntry) (n : Nat) (dd dd2 : Option Addr) (sl sl2 : Array (Option Value)) (its : Array Value) (n2 : Nat) (f : isSubtype (.type "dict") (.type "tuple") = pure false) :
    Meets (Builtin.«tuple.__ne__» ⟨[.ref b, .ref l], []⟩) (fun _ R s => s.heap.get? l = some { cls := .type "dict", dict := dd, data := .dict es n, slots := sl } ∧ s.heap.get? b = some { cls := .type "tuple", dict := dd2, data := .seq its n2, slots := sl2 } ∧ R (.ok (.ret .notImplemented)) s) :=
  .of_wp fun P w A R s h => by
    obtain ⟨hp, g, d, tk, os⟩ := s
    obtain ⟨q1, q2, q3⟩ := h
    wp_walk using wpAny_loadPart' q1, wpAny_loadPart' q2, wpAny_load q1, wpAny_load q2
    exact ⟨_, rfl, q3⟩
theorem ne_dict_tup {A : Around} {s : Shared} {l b : Addr} {o : Obj} {es : Array DictEntry} {n : Nat} {its : Array Value} (ho : s.heap.get? l = some o) (hc : o.cls = .type "dict") (hd : o.data = .dict es n) (hb : s.heap.IsTuple b its) (hu : A.units < cLine) :
    SeqAt.RcNeAt A s (.ref l) (.ref b) true := fun P w E Q h => by
  obtain ⟨cls, dd, data, sl⟩ := o
  obtain ⟨⟨cls2, dd2, data2, sl2⟩, ho2, hc2, n2, hd2⟩ := id hb
  simp only at hc hd hc2 hd2
  subst hc hd hc2 hd2
  have hne : l ≠ b := fun z => by
    subst z
    rw [ho] at ho2; simp at ho2
  refine SeqAt.rc_ne_decline_or (k := false) ⟨_, ho, rfl⟩ ⟨_, ho2, rfl⟩ (by decide) PySem.F.sub_tuple_dict PySem.F.slot_dict_ne PySem.F.slot_tuple_ne_refl ?_ ?_ ?_ (.inr hu) h
  · exact fun _ z => call_meets PySem.F.slot_dict_ne ⟨_, ho, rfl⟩ PySem.F.entry_dict_ne (PySem.F.args_dict_ne_2 _ _) (dict_tup0 l b es n dd dd2 sl sl2 _ its n2 PySem.F.sub_tuple_dict) ⟨ho, ho2, z⟩
  · exact fun _ z => call_meets PySem.F.slot_tuple_ne_refl ⟨_, ho2, rfl⟩ PySem.F.entry_tuple_ne (PySem.F.args_tuple_ne_2 _ _) (tup_dict0 l b es n dd dd2 sl sl2 its n2 PySem.F.sub_dict_tuple) ⟨ho, ho2, z⟩
  · exact fun _ z => wpAny_isSame_ref_other hne ho ho2 (by simp) z
/-- what is no tuple, and no object of a class -/
def Nt (K : PySem.W.Frag) (H : Hp) (x : V) : Prop := x = .non ∨ (∃ b, x = .bl b) ∨ (∃ i, x = .int i) ∨ (∃ z, x = .str z) ∨ ∃ a, x = .ref a ∧ ((∃ xs, SqL K H a xs) ∨ ∃ kvs, Rd H a (.dK kvs))
def rNt (K : PySem.W.Frag) : R2 := fun x y H Q => ∃ b, y = .ref b ∧ SqT K H b [] ∧ Nt K H x ∧ Q (.bl true) H
section
variable {X : Cx}
theorem op_neNt (hu : X.A.units + 64 < cLine) : OpR X (compareOp .NotEq) (rNt X.K) := by
  intro pins s σ H x y v u Q I rx ry h
  obtain ⟨b, rfl, hb, hx, q⟩ := h
  cases ry
  obtain ⟨jts, r2, pl2, _⟩ := I.tuple hb
  have hu' : X.A.in1.units < cLine := by show X.A.units + 1 < cLine; omega
  have fin : ∃ w H1, Inv X pins σ H1 s ∧ RelV w (.bool true) ∧ Q w H1 := ⟨.bl true, H, I, rfl, q⟩
  rcases hx with rfl | ⟨c, rfl⟩ | ⟨i, rfl⟩ | ⟨z, rfl⟩ | ⟨a, rfl, hx⟩
  · cases rx
    exact SeqAt.RcNeAt.none_tuple pl2 (by omega) _ _ _ _ ⟨.bl true, H, I, rfl, q⟩
  · cases rx
    exact SeqAt.RcNeAt.bool_tuple c pl2 (by omega) _ _ _ _ ⟨.bl true, H, I, rfl, q⟩
  · obtain ⟨t, rfl⟩ := rx
    exact SeqAt.RcNeAt.int_tuple i t pl2 (by omega) _ _ _ _ ⟨.bl true, H, I, rfl, q⟩
  · obtain ⟨t, rfl⟩ := rx
    exact SeqAt.RcNeAt.str_tuple z t pl2 (by omega) _ _ _ _ ⟨.bl true, H, I, rfl, q⟩
  · cases rx
    rcases hx with ⟨xs, hx⟩ | ⟨kvs, hx⟩
    · obtain ⟨its, _, pl, _⟩ := I.list hx
      exact SeqAt.RcNeAt.list_tuple pl.isList pl2 (by omega) _ _ _ _ ⟨.bl true, H, I, rfl, q⟩
    · obtain ⟨_, _, vs, _, o, es, ep, g, ex, d, _⟩ := dk_rd I.hok hx
      exact ne_dict_tup g ex.1 d pl2 (by omega) _ _ _ _ ⟨.bl true, H, I, rfl, q⟩
end
end EQ
namespace DL
open PySem PySem.Spec PyProof.Rows L2
def rdNeMtA : D → D → Mem → KD → Prop := fun x y M k => match y with
  | .tup [] => (match x with
    | .tup ds => k (.bl (!ds.isEmpty)) M
    | .scr _ => False
    | .ty _ => False
    | .cel a => (M a).isSome = true ∧ k (.bl true) M
    | _ => k (.bl true) M)
  | _ => False
section
variable {X : Cx} {K : PySem.W.Frag}
theorem opd_neMtA : OpD K (fun x y H Q => EQ.rMt K not x y H Q ∨ EQ.rNt K x y H Q) rdNeMtA := fun Fr H0 M H x y vx vy k Q w rx ry h c => by
  unfold rdNeMtA at h
  split at h
  · have hb : ∃ b, vy = .ref b ∧ SqT K H b [] := by
      cases ry with
      | tup h2 d2 => cases d2; exact ⟨_, rfl, same_t w.ex h2⟩
    obtain ⟨b, rfl, hb⟩ := hb
    have nt : EQ.Nt K H vx → k (.bl true) M → EQ.rMt K not vx (.ref b) H Q ∨ EQ.rNt K vx (.ref b) H Q := fun n q => .inr ⟨b, rfl, hb, n, c _ H0 H _ M (Same.refl _) w (.bl _) q⟩
    cases x with
    | tup ds =>
      cases rx with
      | tup h1 d1 =>
        refine .inl ⟨_, _, _, rfl, rfl, same_t w.ex h1, hb, c _ H0 H _ M (Same.refl _) w (.bl _) ?_⟩
        have : ∀ {vs : List V} {ds : List D}, Dats K H0 vs ds → vs.isEmpty = ds.isEmpty := fun h => by cases h <;> rfl
        rw [this d1]; exact h
    | non => cases rx; exact nt (.inl rfl) h
    | bl _ => cases rx; exact nt (.inr (.inl ⟨_, rfl⟩)) h
    | int _ => cases rx; exact nt (.inr (.inr (.inl ⟨_, rfl⟩))) h
    | str _ => cases rx; exact nt (.inr (.inr (.inr (.inl ⟨_, rfl⟩)))) h
    | lst ds => cases rx with | lst hs hd => exact nt (.inr (.inr (.inr (.inr ⟨_, rfl, .inl ⟨_, .of (w.ex _ _ hs)⟩⟩)))) h
    | cel a =>
      cases rx
      obtain ⟨e, h⟩ := h
      cases q : M a with
      | none => rw [q] at e; cases e
      | some cc =>
        obtain ⟨_, o, ho, hc⟩ := w.mem _ _ q
        cases hc with
        | lst rd => exact nt (.inr (.inr (.inr (.inr ⟨_, rfl, .inl ⟨_, .of ho⟩⟩)))) h
        | dct rd => exact nt (.inr (.inr (.inr (.inr ⟨_, rfl, .inr ⟨_, .inl ho⟩⟩)))) h
    | scr _ => exact h.elim
    | ty _ => exact h.elim
  · exact h.elim
theorem c_neMtA {k : Nat} (hr : DG.RoomG k X.A) : CmpD X .NotEq rdNeMtA := ⟨_, (EQ.op_neMt hr.r.units).or (EQ.op_neNt hr.r.units), opd_neMtA⟩
end
end DL

set_option autoImplicit false
set_option maxRecDepth 100000
set_option maxHeartbeats 4000000
namespace K04
open PySem L2 DL
def topS (i : Nat) : Stmt := PySem.Challenge.pw_standviews_k05_questions_and_their_colum.main.body.getD i (.Pass ⟨0, 0, 0, 0⟩)
abbrev s_is_whole : Stmt := topS 3
abbrev N_is_whole : List Str := ["thing"]
abbrev p_is_whole : List Str := ["thing"]
theorem sc_is_whole : FnScope N_is_whole p_is_whole (defScope s_is_whole) := ⟨rfl, rfl, rfl, by decide +kernel, rfl, by decide +kernel, by decide +kernel⟩
abbrev s_is_number : Stmt := topS 4
abbrev N_is_number : List Str := ["thing"]
abbrev p_is_number : List Str := ["thing"]
theorem sc_is_number : FnScope N_is_number p_is_number (defScope s_is_number) := ⟨rfl, rfl, rfl, by decide +kernel, rfl, by decide +kernel, by decide +kernel⟩
abbrev s_is_name : Stmt := topS 5
abbrev N_is_name : List Str := ["thing", "letter"]
abbrev p_is_name : List Str := ["thing"]
theorem sc_is_name : FnScope N_is_name p_is_name (defScope s_is_name) := ⟨rfl, rfl, rfl, by decide +kernel, rfl, by decide +kernel, by decide +kernel⟩
abbrev s_fits : Stmt := topS 7
abbrev N_fits : List Str := ["kind", "worth"]
abbrev p_fits : List Str := ["kind", "worth"]
theorem sc_fits : FnScope N_fits p_fits (defScope s_fits) := ⟨rfl, rfl, rfl, by decide +kernel, rfl, by decide +kernel, by decide +kernel⟩
abbrev s_place_of : Stmt := topS 8
abbrev N_place_of : List Str := ["named", "name", "place", "other", "_"]
abbrev p_place_of : List Str := ["named", "name"]
theorem sc_place_of : FnScope N_place_of p_place_of (defScope s_place_of) := ⟨rfl, rfl, rfl, by decide +kernel, rfl, by decide +kernel, by decide +kernel⟩
abbrev s_places_of : Stmt := topS 9
abbrev N_places_of : List Str := ["named", "names", "name"]
abbrev p_places_of : List Str := ["named", "names"]
theorem sc_places_of : FnScope N_places_of p_places_of (defScope s_places_of) := ⟨rfl, rfl, rfl, by decide +kernel, rfl, by decide +kernel, by decide +kernel⟩
abbrev s_kind_of : Stmt := topS 10
abbrev N_kind_of : List Str := ["columns", "name", "place"]
abbrev p_kind_of : List Str := ["columns", "name"]
theorem sc_kind_of : FnScope N_kind_of p_kind_of (defScope s_kind_of) := ⟨rfl, rfl, rfl, by decide +kernel, rfl, by decide +kernel, by decide +kernel⟩
abbrev s_has_word : Stmt := topS 13
abbrev N_has_word : List Str := ["thing"]
abbrev p_has_word : List Str := ["thing"]
theorem sc_has_word : FnScope N_has_word p_has_word (defScope s_has_word) := ⟨rfl, rfl, rfl, by decide +kernel, rfl, by decide +kernel, by decide +kernel⟩
abbrev s_has_form : Stmt := topS 14
abbrev N_has_form : List Str := ["thing"]
abbrev p_has_form : List Str := ["thing"]
theorem sc_has_form : FnScope N_has_form p_has_form (defScope s_has_form) := ⟨rfl, rfl, rfl, by decide +kernel, rfl, by decide +kernel, by decide +kernel⟩
abbrev s_is_check : Stmt := topS 15
abbrev N_is_check : List Str := ["columns", "thing", "word", "part", "kind"]
abbrev p_is_check : List Str := ["columns", "thing"]
theorem sc_is_check : FnScope N_is_check p_is_check (defScope s_is_check) := ⟨rfl, rfl, rfl, by decide +kernel, rfl, by decide +kernel, by decide +kernel⟩
abbrev s_is_right : Stmt := topS 17
abbrev N_is_right : List Str := ["plan", "table", "thing", "place", "check", "names", "columns", "places"]
abbrev p_is_right : List Str := ["plan", "table", "thing"]
theorem sc_is_right : FnScope N_is_right p_is_right (defScope s_is_right) := ⟨rfl, rfl, rfl, by decide +kernel, rfl, by decide +kernel, by decide +kernel⟩
abbrev s_just_within : Stmt := topS 22
abbrev N_just_within : List Str := ["form"]
abbrev p_just_within : List Str := ["form"]
theorem sc_just_within : FnScope N_just_within p_just_within (defScope s_just_within) := ⟨rfl, rfl, rfl, by decide +kernel, rfl, by decide +kernel, by decide +kernel⟩
abbrev s_with_unlike_names : Stmt := topS 23
abbrev N_with_unlike_names : List Str := ["columns", "name", "_"]
abbrev p_with_unlike_names : List Str := ["columns"]
theorem sc_with_unlike_names : FnScope N_with_unlike_names p_with_unlike_names (defScope s_with_unlike_names) := ⟨rfl, rfl, rfl, by decide +kernel, rfl, by decide +kernel, by decide +kernel⟩
abbrev s_named_columns : Stmt := topS 24
abbrev N_named_columns : List Str := ["columns", "names", "places", "place"]
abbrev p_named_columns : List Str := ["columns", "names"]
theorem sc_named_columns : FnScope N_named_columns p_named_columns (defScope s_named_columns) := ⟨rfl, rfl, rfl, by decide +kernel, rfl, by decide +kernel, by decide +kernel⟩
abbrev s_where_columns : Stmt := topS 25
abbrev N_where_columns : List Str := ["form", "inner"]
abbrev p_where_columns : List Str := ["form", "inner"]
theorem sc_where_columns : FnScope N_where_columns p_where_columns (defScope s_where_columns) := ⟨rfl, rfl, rfl, by decide +kernel, rfl, by decide +kernel, by decide +kernel⟩
abbrev s_pick_columns : Stmt := topS 26
abbrev N_pick_columns : List Str := ["form", "inner", "told"]
abbrev p_pick_columns : List Str := ["form", "inner"]
theorem sc_pick_columns : FnScope N_pick_columns p_pick_columns (defScope s_pick_columns) := ⟨rfl, rfl, rfl, by decide +kernel, rfl, by decide +kernel, by decide +kernel⟩
abbrev s_called_columns : Stmt := topS 27
abbrev N_called_columns : List Str := ["form", "inner", "names", "name", "_", "kind"]
abbrev p_called_columns : List Str := ["form", "inner"]
theorem sc_called_columns : FnScope N_called_columns p_called_columns (defScope s_called_columns) := ⟨rfl, rfl, rfl, by decide +kernel, rfl, by decide +kernel, by decide +kernel⟩
abbrev s_are_paired : Stmt := topS 28
abbrev N_are_paired : List Str := ["form", "inner", "kind"]
abbrev p_are_paired : List Str := ["form", "inner"]
theorem sc_are_paired : FnScope N_are_paired p_are_paired (defScope s_are_paired) := ⟨rfl, rfl, rfl, by decide +kernel, rfl, by decide +kernel, by decide +kernel⟩
abbrev s_join_columns : Stmt := topS 29
abbrev N_join_columns : List Str := ["form", "inner"]
abbrev p_join_columns : List Str := ["form", "inner"]
theorem sc_join_columns : FnScope N_join_columns p_join_columns (defScope s_join_columns) := ⟨rfl, rfl, rfl, by decide +kernel, rfl, by decide +kernel, by decide +kernel⟩
abbrev s_lacking_columns : Stmt := topS 30
abbrev N_lacking_columns : List Str := ["form", "inner"]
abbrev p_lacking_columns : List Str := ["form", "inner"]
theorem sc_lacking_columns : FnScope N_lacking_columns p_lacking_columns (defScope s_lacking_columns) := ⟨rfl, rfl, rfl, by decide +kernel, rfl, by decide +kernel, by decide +kernel⟩
abbrev s_sum_kind : Stmt := topS 31
abbrev N_sum_kind : List Str := ["columns", "word", "column", "kind"]
abbrev p_sum_kind : List Str := ["columns", "word", "column"]
theorem sc_sum_kind : FnScope N_sum_kind p_sum_kind (defScope s_sum_kind) := ⟨rfl, rfl, rfl, by decide +kernel, rfl, by decide +kernel, by decide +kernel⟩
abbrev s_sum_column : Stmt := topS 32
abbrev N_sum_column : List Str := ["columns", "thing", "name", "word", "column", "kind"]
abbrev p_sum_column : List Str := ["columns", "thing"]
theorem sc_sum_column : FnScope N_sum_column p_sum_column (defScope s_sum_column) := ⟨rfl, rfl, rfl, by decide +kernel, rfl, by decide +kernel, by decide +kernel⟩
abbrev s_sums_columns : Stmt := topS 33
abbrev N_sums_columns : List Str := ["form", "inner", "_", "names", "sums", "groups", "told", "thing"]
abbrev p_sums_columns : List Str := ["form", "inner"]
theorem sc_sums_columns : FnScope N_sums_columns p_sums_columns (defScope s_sums_columns) := ⟨rfl, rfl, rfl, by decide +kernel, rfl, by decide +kernel, by decide +kernel⟩
abbrev s_once_columns : Stmt := topS 34
abbrev N_once_columns : List Str := ["form", "inner"]
abbrev p_once_columns : List Str := ["form", "inner"]
theorem sc_once_columns : FnScope N_once_columns p_once_columns (defScope s_once_columns) := ⟨rfl, rfl, rfl, by decide +kernel, rfl, by decide +kernel, by decide +kernel⟩
abbrev s_is_step : Stmt := topS 35
abbrev N_is_step : List Str := ["thing"]
abbrev p_is_step : List Str := ["thing"]
theorem sc_is_step : FnScope N_is_step p_is_step (defScope s_is_step) := ⟨rfl, rfl, rfl, by decide +kernel, rfl, by decide +kernel, by decide +kernel⟩
abbrev s_is_order : Stmt := topS 36
abbrev N_is_order : List Str := ["columns", "thing", "step", "column", "_"]
abbrev p_is_order : List Str := ["columns", "thing"]
theorem sc_is_order : FnScope N_is_order p_is_order (defScope s_is_order) := ⟨rfl, rfl, rfl, by decide +kernel, rfl, by decide +kernel, by decide +kernel⟩
abbrev s_first_columns : Stmt := topS 37
abbrev N_first_columns : List Str := ["form", "inner", "_", "many", "order"]
abbrev p_first_columns : List Str := ["form", "inner"]
theorem sc_first_columns : FnScope N_first_columns p_first_columns (defScope s_first_columns) := ⟨rfl, rfl, rfl, by decide +kernel, rfl, by decide +kernel, by decide +kernel⟩
abbrev s_leaf_columns : Stmt := topS 39
abbrev N_leaf_columns : List Str := ["plan", "leaf", "place"]
abbrev p_leaf_columns : List Str := ["plan", "leaf"]
theorem sc_leaf_columns : FnScope N_leaf_columns p_leaf_columns (defScope s_leaf_columns) := ⟨rfl, rfl, rfl, by decide +kernel, rfl, by decide +kernel, by decide +kernel⟩
abbrev s_columns_in : Stmt := topS 40
abbrev N_columns_in : List Str := ["plan", "word", "thing", "inner", "form", "columns", "columns_by"]
abbrev p_columns_in : List Str := ["plan", "word", "thing"]
theorem sc_columns_in : FnScope N_columns_in p_columns_in (defScope s_columns_in) := ⟨rfl, rfl, rfl, by decide +kernel, rfl, by decide +kernel, by decide +kernel⟩
abbrev s_columns_of : Stmt := topS 42
abbrev N_columns_of : List Str := ["plan", "question"]
abbrev p_columns_of : List Str := ["plan", "question"]
theorem sc_columns_of : FnScope N_columns_of p_columns_of (defScope s_columns_of) := ⟨rfl, rfl, rfl, by decide +kernel, rfl, by decide +kernel, by decide +kernel⟩
abbrev s_is_question : Stmt := topS 43
abbrev N_is_question : List Str := ["plan", "thing"]
abbrev p_is_question : List Str := ["plan", "thing"]
theorem sc_is_question : FnScope N_is_question p_is_question (defScope s_is_question) := ⟨rfl, rfl, rfl, by decide +kernel, rfl, by decide +kernel, by decide +kernel⟩
abbrev s_law_hand : Stmt := topS 45
abbrev N_law_hand : List Str := ["script", "seed", "cell"]
abbrev p_law_hand : List Str := ["script"]
theorem sc_law_hand : FnScope N_law_hand p_law_hand (defScope s_law_hand) := ⟨rfl, rfl, rfl, by decide +kernel, rfl, by decide +kernel, by decide +kernel⟩
abbrev s_law_pick : Stmt := topS 46
abbrev N_law_pick : List Str := ["hand", "many", "digit", "mixed"]
abbrev p_law_pick : List Str := ["hand", "many"]
theorem sc_law_pick : FnScope N_law_pick p_law_pick (defScope s_law_pick) := ⟨rfl, rfl, rfl, by decide +kernel, rfl, by decide +kernel, by decide +kernel⟩
abbrev s_law_of : Stmt := topS 47
abbrev N_law_of : List Str := ["hand", "some"]
abbrev p_law_of : List Str := ["hand", "some"]
theorem sc_law_of : FnScope N_law_of p_law_of (defScope s_law_of) := ⟨rfl, rfl, rfl, by decide +kernel, rfl, by decide +kernel, by decide +kernel⟩
abbrev s_law_names : Stmt := topS 48
abbrev N_law_names : List Str := ["hand", "stem", "k", "first", "step", "found", "spot", "word"]
abbrev p_law_names : List Str := ["hand"]
theorem sc_law_names : FnScope N_law_names p_law_names (defScope s_law_names) := ⟨rfl, rfl, rfl, by decide +kernel, rfl, by decide +kernel, by decide +kernel⟩
abbrev s_law_plan : Stmt := topS 49
abbrev N_law_plan : List Str := ["hand", "many", "size", "names", "tables", "found", "k", "columns", "at", "pairs", "name"]
abbrev p_law_plan : List Str := ["hand", "many", "size"]
theorem sc_law_plan : FnScope N_law_plan p_law_plan (defScope s_law_plan) := ⟨rfl, rfl, rfl, by decide +kernel, rfl, by decide +kernel, by decide +kernel⟩
abbrev s_law_worth : Stmt := topS 50
abbrev N_law_worth : List Str := ["hand", "kind"]
abbrev p_law_worth : List Str := ["hand", "kind"]
theorem sc_law_worth : FnScope N_law_worth p_law_worth (defScope s_law_worth) := ⟨rfl, rfl, rfl, by decide +kernel, rfl, by decide +kernel, by decide +kernel⟩
abbrev s_law_named : Stmt := topS 51
abbrev N_law_named : List Str := ["columns", "kind", "name", "sort"]
abbrev p_law_named : List Str := ["columns", "kind"]
theorem sc_law_named : FnScope N_law_named p_law_named (defScope s_law_named) := ⟨rfl, rfl, rfl, by decide +kernel, rfl, by decide +kernel, by decide +kernel⟩
abbrev s_law_check : Stmt := topS 52
abbrev N_law_check : List Str := ["hand", "columns", "left", "way", "name", "kind"]
abbrev p_law_check : List Str := ["hand", "columns", "left"]
theorem sc_law_check : FnScope N_law_check p_law_check (defScope s_law_check) := ⟨rfl, rfl, rfl, by decide +kernel, rfl, by decide +kernel, by decide +kernel⟩
abbrev s_law_fresh : Stmt := topS 53
abbrev N_law_fresh : List Str := ["hand", "taken", "at", "found", "k", "name"]
abbrev p_law_fresh : List Str := ["hand", "taken"]
theorem sc_law_fresh : FnScope N_law_fresh p_law_fresh (defScope s_law_fresh) := ⟨rfl, rfl, rfl, by decide +kernel, rfl, by decide +kernel, by decide +kernel⟩
abbrev s_law_some : Stmt := topS 54
abbrev N_law_some : List Str := ["hand", "columns", "left", "found", "turn"]
abbrev p_law_some : List Str := ["hand", "columns"]
theorem sc_law_some : FnScope N_law_some p_law_some (defScope s_law_some) := ⟨rfl, rfl, rfl, by decide +kernel, rfl, by decide +kernel, by decide +kernel⟩
abbrev s_law_called : Stmt := topS 55
abbrev N_law_called : List Str := ["hand", "drawn", "taken", "names", "column", "name", "old", "kind"]
abbrev p_law_called : List Str := ["hand", "drawn", "taken"]
theorem sc_law_called : FnScope N_law_called p_law_called (defScope s_law_called) := ⟨rfl, rfl, rfl, by decide +kernel, rfl, by decide +kernel, by decide +kernel⟩
abbrev s_law_sums : Stmt := topS 56
abbrev N_law_sums : List Str := ["hand", "drawn", "question", "columns", "names", "sums", "more", "taken", "name", "kind", "turn", "word"]
abbrev p_law_sums : List Str := ["hand", "drawn"]
theorem sc_law_sums : FnScope N_law_sums p_law_sums (defScope s_law_sums) := ⟨rfl, rfl, rfl, by decide +kernel, rfl, by decide +kernel, by decide +kernel⟩
abbrev s_law_two : Stmt := topS 57
abbrev N_law_two : List Str := ["hand", "word", "one", "two", "pairs", "name", "kind", "other", "first", "second"]
abbrev p_law_two : List Str := ["hand", "word", "one", "two"]
theorem sc_law_two : FnScope N_law_two p_law_two (defScope s_law_two) := ⟨rfl, rfl, rfl, by decide +kernel, rfl, by decide +kernel, by decide +kernel⟩
abbrev s_law_first : Stmt := topS 58
abbrev N_law_first : List Str := ["hand", "drawn", "order", "name", "kind"]
abbrev p_law_first : List Str := ["hand", "drawn"]
theorem sc_law_first : FnScope N_law_first p_law_first (defScope s_law_first) := ⟨rfl, rfl, rfl, by decide +kernel, rfl, by decide +kernel, by decide +kernel⟩
abbrev s_law_question : Stmt := topS 59
abbrev N_law_question : List Str := ["hand", "plan", "left", "way", "table", "columns", "one", "two", "own", "name", "kind", "drawn", "names"]
abbrev p_law_question : List Str := ["hand", "plan", "left"]
theorem sc_law_question : FnScope N_law_question p_law_question (defScope s_law_question) := ⟨rfl, rfl, rfl, by decide +kernel, rfl, by decide +kernel, by decide +kernel⟩
abbrev s_law_is_name : Stmt := topS 60
abbrev N_law_is_name : List Str := ["thing", "sign"]
abbrev p_law_is_name : List Str := ["thing"]
theorem sc_law_is_name : FnScope N_law_is_name p_law_is_name (defScope s_law_is_name) := ⟨rfl, rfl, rfl, by decide +kernel, rfl, by decide +kernel, by decide +kernel⟩
abbrev s_law_is_number : Stmt := topS 61
abbrev N_law_is_number : List Str := ["thing"]
abbrev p_law_is_number : List Str := ["thing"]
theorem sc_law_is_number : FnScope N_law_is_number p_law_is_number (defScope s_law_is_number) := ⟨rfl, rfl, rfl, by decide +kernel, rfl, by decide +kernel, by decide +kernel⟩
abbrev s_law_fits : Stmt := topS 62
abbrev N_law_fits : List Str := ["kind", "thing"]
abbrev p_law_fits : List Str := ["kind", "thing"]
theorem sc_law_fits : FnScope N_law_fits p_law_fits (defScope s_law_fits) := ⟨rfl, rfl, rfl, by decide +kernel, rfl, by decide +kernel, by decide +kernel⟩
abbrev s_law_kind : Stmt := topS 63
abbrev N_law_kind : List Str := ["columns", "thing", "found", "name", "kind"]
abbrev p_law_kind : List Str := ["columns", "thing"]
theorem sc_law_kind : FnScope N_law_kind p_law_kind (defScope s_law_kind) := ⟨rfl, rfl, rfl, by decide +kernel, rfl, by decide +kernel, by decide +kernel⟩
abbrev s_law_is_check : Stmt := topS 64
abbrev N_law_is_check : List Str := ["columns", "thing", "word", "parts", "kind"]
abbrev p_law_is_check : List Str := ["columns", "thing"]
theorem sc_law_is_check : FnScope N_law_is_check p_law_is_check (defScope s_law_is_check) := ⟨rfl, rfl, rfl, by decide +kernel, rfl, by decide +kernel, by decide +kernel⟩
abbrev s_law_are_unlike : Stmt := topS 65
abbrev N_law_are_unlike : List Str := ["names", "name"]
abbrev p_law_are_unlike : List Str := ["names"]
theorem sc_law_are_unlike : FnScope N_law_are_unlike p_law_are_unlike (defScope s_law_are_unlike) := ⟨rfl, rfl, rfl, by decide +kernel, rfl, by decide +kernel, by decide +kernel⟩
abbrev s_law_taken : Stmt := topS 66
abbrev N_law_taken : List Str := ["columns", "names", "name"]
abbrev p_law_taken : List Str := ["columns", "names"]
theorem sc_law_taken : FnScope N_law_taken p_law_taken (defScope s_law_taken) := ⟨rfl, rfl, rfl, by decide +kernel, rfl, by decide +kernel, by decide +kernel⟩
abbrev s_law_sum : Stmt := topS 67
abbrev N_law_sum : List Str := ["columns", "thing", "kind"]
abbrev p_law_sum : List Str := ["columns", "thing"]
theorem sc_law_sum : FnScope N_law_sum p_law_sum (defScope s_law_sum) := ⟨rfl, rfl, rfl, by decide +kernel, rfl, by decide +kernel, by decide +kernel⟩
abbrev s_law_sums_found : Stmt := topS 68
abbrev N_law_sums_found : List Str := ["columns", "parts", "ahead", "behind", "thing", "found", "name", "kind"]
abbrev p_law_sums_found : List Str := ["columns", "parts"]
theorem sc_law_sums_found : FnScope N_law_sums_found p_law_sums_found (defScope s_law_sums_found) := ⟨rfl, rfl, rfl, by decide +kernel, rfl, by decide +kernel, by decide +kernel⟩
abbrev s_law_is_order : Stmt := topS 69
abbrev N_law_is_order : List Str := ["columns", "thing", "pair"]
abbrev p_law_is_order : List Str := ["columns", "thing"]
theorem sc_law_is_order : FnScope N_law_is_order p_law_is_order (defScope s_law_is_order) := ⟨rfl, rfl, rfl, by decide +kernel, rfl, by decide +kernel, by decide +kernel⟩
abbrev s_law_sides_found : Stmt := topS 70
abbrev N_law_sides_found : List Str := ["plan", "word", "parts", "one", "two", "names", "name", "kind"]
abbrev p_law_sides_found : List Str := ["plan", "word", "parts"]
theorem sc_law_sides_found : FnScope N_law_sides_found p_law_sides_found (defScope s_law_sides_found) := ⟨rfl, rfl, rfl, by decide +kernel, rfl, by decide +kernel, by decide +kernel⟩
abbrev s_law_one_found : Stmt := topS 71
abbrev N_law_one_found : List Str := ["plan", "word", "parts", "columns", "name", "old", "kind", "many"]
abbrev p_law_one_found : List Str := ["plan", "word", "parts"]
theorem sc_law_one_found : FnScope N_law_one_found p_law_one_found (defScope s_law_one_found) := ⟨rfl, rfl, rfl, by decide +kernel, rfl, by decide +kernel, by decide +kernel⟩
abbrev s_law_found : Stmt := topS 72
abbrev N_law_found : List Str := ["plan", "thing", "word", "parts", "sizes", "found", "name", "columns"]
abbrev p_law_found : List Str := ["plan", "thing"]
theorem sc_law_found : FnScope N_law_found p_law_found (defScope s_law_found) := ⟨rfl, rfl, rfl, by decide +kernel, rfl, by decide +kernel, by decide +kernel⟩
abbrev s_law : Stmt := topS 73
abbrev N_law : List Str := ["script", "hand", "turn", "plan", "tour", "question", "columns", "kept", "due"]
abbrev p_law : List Str := ["script"]
theorem sc_law : FnScope N_law p_law (defScope s_law) := ⟨rfl, rfl, rfl, by decide +kernel, rfl, by decide +kernel, by decide +kernel⟩
structure DD (K : PySem.W.Frag) (mg : Str → Option Value) where
  f_is_whole : Addr
  fd_is_whole : FuncData
  d_is_whole : Def K mg "is_whole" s_is_whole p_is_whole f_is_whole fd_is_whole
  f_is_number : Addr
  fd_is_number : FuncData
  d_is_number : Def K mg "is_number" s_is_number p_is_number f_is_number fd_is_number
  f_is_name : Addr
  fd_is_name : FuncData
  d_is_name : Def K mg "is_name" s_is_name p_is_name f_is_name fd_is_name
  f_fits : Addr
  fd_fits : FuncData
  d_fits : Def K mg "fits" s_fits p_fits f_fits fd_fits
  f_place_of : Addr
  fd_place_of : FuncData
  d_place_of : Def K mg "place_of" s_place_of p_place_of f_place_of fd_place_of
  f_places_of : Addr
  fd_places_of : FuncData
  d_places_of : Def K mg "places_of" s_places_of p_places_of f_places_of fd_places_of
  f_kind_of : Addr
  fd_kind_of : FuncData
  d_kind_of : Def K mg "kind_of" s_kind_of p_kind_of f_kind_of fd_kind_of
  f_has_word : Addr
  fd_has_word : FuncData
  d_has_word : Def K mg "has_word" s_has_word p_has_word f_has_word fd_has_word
  f_has_form : Addr
  fd_has_form : FuncData
  d_has_form : Def K mg "has_form" s_has_form p_has_form f_has_form fd_has_form
  f_is_check : Addr
  fd_is_check : FuncData
  d_is_check : Def K mg "is_check" s_is_check p_is_check f_is_check fd_is_check
  f_is_right : Addr
  fd_is_right : FuncData
  d_is_right : Def K mg "is_right" s_is_right p_is_right f_is_right fd_is_right
  f_just_within : Addr
  fd_just_within : FuncData
  d_just_within : Def K mg "just_within" s_just_within p_just_within f_just_within fd_just_within
  f_with_unlike_names : Addr
  fd_with_unlike_names : FuncData
  d_with_unlike_names : Def K mg "with_unlike_names" s_with_unlike_names p_with_unlike_names f_with_unlike_names fd_with_unlike_names
  f_named_columns : Addr
  fd_named_columns : FuncData
  d_named_columns : Def K mg "named_columns" s_named_columns p_named_columns f_named_columns fd_named_columns
  f_where_columns : Addr
  fd_where_columns : FuncData
  d_where_columns : Def K mg "where_columns" s_where_columns p_where_columns f_where_columns fd_where_columns
  f_pick_columns : Addr
  fd_pick_columns : FuncData
  d_pick_columns : Def K mg "pick_columns" s_pick_columns p_pick_columns f_pick_columns fd_pick_columns
  f_called_columns : Addr
  fd_called_columns : FuncData
  d_called_columns : Def K mg "called_columns" s_called_columns p_called_columns f_called_columns fd_called_columns
  f_are_paired : Addr
  fd_are_paired : FuncData
  d_are_paired : Def K mg "are_paired" s_are_paired p_are_paired f_are_paired fd_are_paired
  f_join_columns : Addr
  fd_join_columns : FuncData
  d_join_columns : Def K mg "join_columns" s_join_columns p_join_columns f_join_columns fd_join_columns
  f_lacking_columns : Addr
  fd_lacking_columns : FuncData
  d_lacking_columns : Def K mg "lacking_columns" s_lacking_columns p_lacking_columns f_lacking_columns fd_lacking_columns
  f_sum_kind : Addr
  fd_sum_kind : FuncData
  d_sum_kind : Def K mg "sum_kind" s_sum_kind p_sum_kind f_sum_kind fd_sum_kind
  f_sum_column : Addr
  fd_sum_column : FuncData
  d_sum_column : Def K mg "sum_column" s_sum_column p_sum_column f_sum_column fd_sum_column
  f_sums_columns : Addr
  fd_sums_columns : FuncData
  d_sums_columns : Def K mg "sums_columns" s_sums_columns p_sums_columns f_sums_columns fd_sums_columns
  f_once_columns : Addr
  fd_once_columns : FuncData
  d_once_columns : Def K mg "once_columns" s_once_columns p_once_columns f_once_columns fd_once_columns
  f_is_step : Addr
  fd_is_step : FuncData
  d_is_step : Def K mg "is_step" s_is_step p_is_step f_is_step fd_is_step
  f_is_order : Addr
  fd_is_order : FuncData
  d_is_order : Def K mg "is_order" s_is_order p_is_order f_is_order fd_is_order
  f_first_columns : Addr
  fd_first_columns : FuncData
  d_first_columns : Def K mg "first_columns" s_first_columns p_first_columns f_first_columns fd_first_columns
  f_leaf_columns : Addr
  fd_leaf_columns : FuncData
  d_leaf_columns : Def K mg "leaf_columns" s_leaf_columns p_leaf_columns f_leaf_columns fd_leaf_columns
  f_columns_in : Addr
  fd_columns_in : FuncData
  d_columns_in : Def K mg "columns_in" s_columns_in p_columns_in f_columns_in fd_columns_in
  f_columns_of : Addr
  fd_columns_of : FuncData
  d_columns_of : Def K mg "columns_of" s_columns_of p_columns_of f_columns_of fd_columns_of
  f_is_question : Addr
  fd_is_question : FuncData
  d_is_question : Def K mg "is_question" s_is_question p_is_question f_is_question fd_is_question
  f_law_hand : Addr
  fd_law_hand : FuncData
  d_law_hand : Def K mg "_law_hand" s_law_hand p_law_hand f_law_hand fd_law_hand
  f_law_pick : Addr
  fd_law_pick : FuncData
  d_law_pick : Def K mg "_law_pick" s_law_pick p_law_pick f_law_pick fd_law_pick
  f_law_of : Addr
  fd_law_of : FuncData
  d_law_of : Def K mg "_law_of" s_law_of p_law_of f_law_of fd_law_of
  f_law_names : Addr
  fd_law_names : FuncData
  d_law_names : Def K mg "_law_names" s_law_names p_law_names f_law_names fd_law_names
  f_law_plan : Addr
  fd_law_plan : FuncData
  d_law_plan : Def K mg "_law_plan" s_law_plan p_law_plan f_law_plan fd_law_plan
  f_law_worth : Addr
  fd_law_worth : FuncData
  d_law_worth : Def K mg "_law_worth" s_law_worth p_law_worth f_law_worth fd_law_worth
  f_law_named : Addr
  fd_law_named : FuncData
  d_law_named : Def K mg "_law_named" s_law_named p_law_named f_law_named fd_law_named
  f_law_check : Addr
  fd_law_check : FuncData
  d_law_check : Def K mg "_law_check" s_law_check p_law_check f_law_check fd_law_check
  f_law_fresh : Addr
  fd_law_fresh : FuncData
  d_law_fresh : Def K mg "_law_fresh" s_law_fresh p_law_fresh f_law_fresh fd_law_fresh
  f_law_some : Addr
  fd_law_some : FuncData
  d_law_some : Def K mg "_law_some" s_law_some p_law_some f_law_some fd_law_some
  f_law_called : Addr
  fd_law_called : FuncData
  d_law_called : Def K mg "_law_called" s_law_called p_law_called f_law_called fd_law_called
  f_law_sums : Addr
  fd_law_sums : FuncData
  d_law_sums : Def K mg "_law_sums" s_law_sums p_law_sums f_law_sums fd_law_sums
  f_law_two : Addr
  fd_law_two : FuncData
  d_law_two : Def K mg "_law_two" s_law_two p_law_two f_law_two fd_law_two
  f_law_first : Addr
  fd_law_first : FuncData
  d_law_first : Def K mg "_law_first" s_law_first p_law_first f_law_first fd_law_first
  f_law_question : Addr
  fd_law_question : FuncData
  d_law_question : Def K mg "_law_question" s_law_question p_law_question f_law_question fd_law_question
  f_law_is_name : Addr
  fd_law_is_name : FuncData
  d_law_is_name : Def K mg "_law_is_name" s_law_is_name p_law_is_name f_law_is_name fd_law_is_name
  f_law_is_number : Addr
  fd_law_is_number : FuncData
  d_law_is_number : Def K mg "_law_is_number" s_law_is_number p_law_is_number f_law_is_number fd_law_is_number
  f_law_fits : Addr
  fd_law_fits : FuncData
  d_law_fits : Def K mg "_law_fits" s_law_fits p_law_fits f_law_fits fd_law_fits
  f_law_kind : Addr
  fd_law_kind : FuncData
  d_law_kind : Def K mg "_law_kind" s_law_kind p_law_kind f_law_kind fd_law_kind
  f_law_is_check : Addr
  fd_law_is_check : FuncData
  d_law_is_check : Def K mg "_law_is_check" s_law_is_check p_law_is_check f_law_is_check fd_law_is_check
  f_law_are_unlike : Addr
  fd_law_are_unlike : FuncData
  d_law_are_unlike : Def K mg "_law_are_unlike" s_law_are_unlike p_law_are_unlike f_law_are_unlike fd_law_are_unlike
  f_law_taken : Addr
  fd_law_taken : FuncData
  d_law_taken : Def K mg "_law_taken" s_law_taken p_law_taken f_law_taken fd_law_taken
  f_law_sum : Addr
  fd_law_sum : FuncData
  d_law_sum : Def K mg "_law_sum" s_law_sum p_law_sum f_law_sum fd_law_sum
  f_law_sums_found : Addr
  fd_law_sums_found : FuncData
  d_law_sums_found : Def K mg "_law_sums_found" s_law_sums_found p_law_sums_found f_law_sums_found fd_law_sums_found
  f_law_is_order : Addr
  fd_law_is_order : FuncData
  d_law_is_order : Def K mg "_law_is_order" s_law_is_order p_law_is_order f_law_is_order fd_law_is_order
  f_law_sides_found : Addr
  fd_law_sides_found : FuncData
  d_law_sides_found : Def K mg "_law_sides_found" s_law_sides_found p_law_sides_found f_law_sides_found fd_law_sides_found
  f_law_one_found : Addr
  fd_law_one_found : FuncData
  d_law_one_found : Def K mg "_law_one_found" s_law_one_found p_law_one_found f_law_one_found fd_law_one_found
  f_law_found : Addr
  fd_law_found : FuncData
  d_law_found : Def K mg "_law_found" s_law_found p_law_found f_law_found fd_law_found
  f_law : Addr
  fd_law : FuncData
  d_law : Def K mg "law" s_law p_law f_law fd_law
def kvs_COLUMNS {K : PySem.W.Frag} {mg : Str → Option Value} (B : DD K mg) : List (Str × D) := [(Str.ofString "where", .cel B.f_where_columns), (Str.ofString "pick", .cel B.f_pick_columns), (Str.ofString "called", .cel B.f_called_columns), (Str.ofString "join", .cel B.f_join_columns), (Str.ofString "sums", .cel B.f_sums_columns), (Str.ofString "once", .cel B.f_once_columns), (Str.ofString "lacking", .cel B.f_lacking_columns), (Str.ofString "first", .cel B.f_first_columns)]
def kvs_LENGTHS_checks : List (Str × D) := [(Str.ofString "is", .int (3)), (Str.ofString "below", .int (3)), (Str.ofString "like", .int (3)), (Str.ofString "not", .int (2)), (Str.ofString "and", .int (3)), (Str.ofString "or", .int (3))]
def kvs_LENGTHS_forms : List (Str × D) := [(Str.ofString "all", .int (2)), (Str.ofString "see", .int (3)), (Str.ofString "where", .int (3)), (Str.ofString "pick", .int (3)), (Str.ofString "called", .int (3)), (Str.ofString "join", .int (5)), (Str.ofString "sums", .int (4)), (Str.ofString "once", .int (2)), (Str.ofString "lacking", .int (5)), (Str.ofString "first", .int (4))]
def kvs_WITHIN : List (Str × D) := [(Str.ofString "all", .int (0)), (Str.ofString "see", .int (0)), (Str.ofString "where", .int (1)), (Str.ofString "pick", .int (1)), (Str.ofString "called", .int (1)), (Str.ofString "join", .int (2)), (Str.ofString "sums", .int (1)), (Str.ofString "once", .int (1)), (Str.ofString "lacking", .int (2)), (Str.ofString "first", .int (1))]
def kvs_LENGTHS : List (Str × D) := [(Str.ofString "is", .int (3)), (Str.ofString "below", .int (3)), (Str.ofString "like", .int (3)), (Str.ofString "not", .int (2)), (Str.ofString "and", .int (3)), (Str.ofString "or", .int (3))]
structure TxtW (K : PySem.W.Frag) (w : World) (mg : Str → Option Value) (B : DD K mg) : Prop where
  c_COLUMNS : MDictD K w mg "COLUMNS" (kvs_COLUMNS B)
  c_LENGTHS_checks : MDictD K w mg "LENGTHS_checks" kvs_LENGTHS_checks
  c_LENGTHS_forms : MDictD K w mg "LENGTHS_forms" kvs_LENGTHS_forms
  c_WITHIN : MDictD K w mg "WITHIN" kvs_WITHIN
structure Txt (K : PySem.W.Frag) (mg : Str → Option Value) : Prop where
  b_all : mg "all" = none
  b_bool : mg "bool" = none
  b_dict : mg "dict" = none
  b_enumerate : mg "enumerate" = none
  b_int : mg "int" = none
  b_isinstance : mg "isinstance" = none
  b_len : mg "len" = none
  b_list : mg "list" = none
  b_range : mg "range" = none
  b_repr : mg "repr" = none
  b_set : mg "set" = none
  b_sorted : mg "sorted" = none
  b_str : mg "str" = none
  b_tuple : mg "tuple" = none
  b_type : mg "type" = none
  b_zip : mg "zip" = none
  c_GREATEST : ∃ t, mg "GREATEST" = some (.int 1000000000 t)
  c_LONGEST : ∃ t, mg "LONGEST" = some (.int 8 t)
  c_WAYS : ∃ A, mg "WAYS" = some (.ref A) ∧ ∀ H, SqT K H A [.str (Str.ofString "up"), .str (Str.ofString "down")]
theorem Txt.e_GREATEST {X : Cx} {pos : Pos} (T : Txt X.K X.mg) (hg : Gl X "GREATEST" := by rfl) : DE X (.Name "GREATEST" pos) (wC (.int 1000000000)) := by
  obtain ⟨t, h⟩ := T.c_GREATEST
  exact de_gint h hg
theorem Txt.e_LONGEST {X : Cx} {pos : Pos} (T : Txt X.K X.mg) (hg : Gl X "LONGEST" := by rfl) : DE X (.Name "LONGEST" pos) (wC (.int 8)) := by
  obtain ⟨t, h⟩ := T.c_LONGEST
  exact de_gint h hg
theorem Txt.e_WAYS {X : Cx} {pos : Pos} (T : Txt X.K X.mg) (hg : Gl X "WAYS" := by rfl) : DE X (.Name "WAYS" pos) (wC (.tup ([Str.ofString "up", Str.ofString "down"].map D.str))) := by
  obtain ⟨A, h, q⟩ := T.c_WAYS
  exact de_gtup h q (fun H => dats_strs' [Str.ofString "up", Str.ofString "down"]) hg
end K04

set_option autoImplicit false
set_option maxRecDepth 100000
set_option maxHeartbeats 4000000
namespace K04
open PySem L2 DL
section
variable {P : Program} {w : World} {K : PySem.W.Frag} {mg : Str → Option Value} {base : Heap}
def letter (c : Nat) : Bool := decide (97 ≤ c) && decide (c ≤ 122)
def isNm (s : Str) : Bool := decide (1 ≤ s.length) && decide (s.length ≤ 8) && s.cps.toList.all letter
def isNameB : D → Bool
  | .str s => isNm s
  | _ => false
def okD (M : Mem) (d : D) : Prop := (tyD M d).isSome = true ∧ ∀ s, d = .str s → s.length ≤ sizeLine
def F_is_name : FD := fun ds M k => match ds with
  | [d] => okD M d ∧ k (.bl (isNameB d)) M
  | _ => False
def sgn : D → D
  | .str z => .bl ((!decide (z.cps.toList < [97])) && (!decide ([122] < z.cps.toList)))
  | d => d
theorem sgn_one (c : Nat) : sgn (.str ⟨#[c]⟩) = .bl (letter c) := by
  show D.bl ((!decide ([c] < [97])) && (!decide ([122] < [c]))) = _
  congr 1
  unfold letter
  have h1 : decide ([c] < [97]) = decide (c < 97) := by
    rw [decide_eq_decide]
    refine ⟨fun h => ?_, fun h => List.cons_lt_cons_iff.mpr (.inl h)⟩
    rcases List.cons_lt_cons_iff.mp h with h | ⟨_, h⟩
    · exact h
    · simp at h
  have h2 : decide ([122] < [c]) = decide (122 < c) := by
    rw [decide_eq_decide]
    refine ⟨fun h => ?_, fun h => List.cons_lt_cons_iff.mpr (.inl h)⟩
    rcases List.cons_lt_cons_iff.mp h with h | ⟨_, h⟩
    · exact h
    · simp at h
  rw [h1, h2, Bool.eq_iff_iff]
  simp
theorem bools_signs (s : Str) : boolsD ((signs s).map sgn) = some (s.cps.toList.map letter) := by
  unfold signs
  induction s.cps.toList with
  | nil => rfl
  | cons c r ih =>
    rw [List.map_cons, List.map_cons, sgn_one]
    unfold boolsD
    rw [ih]
    rfl
theorem ok_is_name {f : Addr} {fd : FuncData} (T : Txt K mg) (d_is_name : Def K mg "is_name" s_is_name p_is_name f fd) : DFn P w K mg base 1 f fd p_is_name F_is_name := by
  refine Fun.okD d_is_name.F sc_is_name (fun cdv A outer s H E hr => (dss_cons (ds_if (dw_pt (dw_or (dt_cmpA c_isn (de_type T.b_type (dv 0)) (de_ty (n := "str") T.b_str (by decide +kernel))) (dw_or1 (dt_not (dt_chainA c_le c_le de_int (de_len T.b_len (dv 0)) T.e_LONGEST))))) (dss_one (ds_ret de_bl)) dss_nil) (dss_one (ds_ret (de_all rfl T.b_all (de_lc rfl sc_is_name.nd (di_str (dv 0)) (blkOk_by (own := [("letter", 1)]) (N := N_is_name) (sc := defScope s_is_name) (by decide +kernel)) (fun _ _ _ _ _ => (dg_name (i := 1) sc_is_name.nd)) gd_name (fun _ _ _ _ _ => dts_nil) (fun _ _ _ _ _ => (de_chainA c_le c_le de_str (dv 1) de_str)))))))) (fun ds M k h => ?_)
  unfold F_is_name at h
  split at h
  · rename_i d
    obtain ⟨⟨h1, h2⟩, h3⟩ := h
    refine ⟨rfl, ?_⟩
    rw [show startD N_is_name [d] = [some d, none] from rfl]
    cases d with
    | str s =>
      have h2 := h2 s rfl
      have fin2 : isNm s = (decide (1 ≤ s.length) && decide (s.length ≤ 8) && s.cps.toList.all letter) := rfl
      have main : lcD (gN 1) wYes (wChain rdLe rdLe (wC (D.str (Str.ofString "a"))) (wVar 1) (wC (D.str (Str.ofString "z")))) gAny (wipeD [some (D.str s), none] [1]) (signs s) [] M
          (fun xs M1 => match boolsD xs with | some l => k (D.bl (l.all id)) M1 | none => False) ∨ ¬ (1 ≤ s.length ∧ s.length ≤ 8) := by
        by_cases hb : 1 ≤ s.length ∧ s.length ≤ 8
        · left
          refine lc_map sgn (M := M) (by trivial) _ _ _ (fun d hd => ⟨_, rfl, fun k hk => ?_⟩) ?_ ?_
          · unfold signs at hd
            obtain ⟨c, _, rfl⟩ := List.mem_map.mp hd
            simp only [wNext, wSeq, wBreak, wContinue, wExpr, wRet, wRetN, wIfS, wSet, wAsg, wPar, wPar3, wFor, wSub, wTst, wOp, wChain, wNotT, wAndT, wOrT, wAndV, wOrV, wNotV, wIf, wNil, wCons, wTup, wLst, wLstM, wCall, wCall0, wVar, wC, wLc, wLcM, wYes, wiL, wiT, wiS, wiR, wiEnT, wiEnL, wiZip, wSl, woNone, woSome, wMt, wJoin, wGet, wUn, wTru, wDNew, fin, List.getElem?_cons_zero, List.getElem?_cons_succ, List.set_cons_zero, List.set_cons_succ, rdAdd, rdI, rdI0, rdU, rdOrd, rdIs, rdIn, rdIx, rdGet, rdSl, rdLen, rdType, rdIsiA, rdAll, rdInt, rdTuple, rdDict, rdSortD, rdAppend, rdPop, rdPopAt, wipeD]
            have ea : (Str.ofString "a").cps.toList = [97] := by decide
            have ez : (Str.ofString "z").cps.toList = [122] := by decide
            simp only [sgn] at hk
            simp only [ea, ez]
            cases q : decide ([c] < [97])
            · rw [q] at hk; simpa using hk
            · rw [q] at hk; simpa using hk
          · have : (signs s).length = s.length := by unfold signs; simp; rfl
            rw [this]; simpa using h2
          · simp only [List.nil_append, bools_signs]
            rw [show isNameB (.str s) = isNm s from rfl, fin2] at h3
            simp only [hb.1, hb.2, decide_true, Bool.true_and] at h3
            simpa using h3
        · exact .inr hb
      by_cases b1 : 1 ≤ s.length
      · by_cases b2 : s.length ≤ 8
        · have c1 : (1 : Int) ≤ (s.length : Int) := by omega
          have c2 : (s.length : Int) ≤ 8 := by omega
          rcases main with main | main
          · simp only [wNext, wSeq, wBreak, wContinue, wExpr, wRet, wRetN, wIfS, wSet, wAsg, wPar, wPar3, wFor, wSub, wTst, wOp, wChain, wNotT, wAndT, wOrT, wAndV, wOrV, wNotV, wIf, wNil, wCons, wTup, wLst, wLstM, wCall, wCall0, wVar, wC, wLc, wLcM, wYes, wiL, wiT, wiS, wiR, wiEnT, wiEnL, wiZip, wSl, woNone, woSome, wMt, wJoin, wGet, wUn, wTru, wDNew, fin, List.getElem?_cons_zero, List.getElem?_cons_succ, List.set_cons_zero, List.set_cons_succ, rdAdd, rdI, rdI0, rdU, rdOrd, rdIs, rdIn, rdIx, rdGet, rdSl, rdLen, rdType, rdIsiA, rdAll, rdInt, rdTuple, rdDict, rdSortD, rdAppend, rdPop, rdPopAt, tyD, c1, c2, decide_true, Bool.not_true, Bool.false_eq_true, if_false, asR]
            exact ⟨h2, main⟩
          · exact absurd ⟨b1, b2⟩ main
        · have c1 : (1 : Int) ≤ (s.length : Int) := by omega
          have c2 : ¬ (s.length : Int) ≤ 8 := by omega
          simp only [wNext, wSeq, wBreak, wContinue, wExpr, wRet, wRetN, wIfS, wSet, wAsg, wPar, wPar3, wFor, wSub, wTst, wOp, wChain, wNotT, wAndT, wOrT, wAndV, wOrV, wNotV, wIf, wNil, wCons, wTup, wLst, wLstM, wCall, wCall0, wVar, wC, wLc, wLcM, wYes, wiL, wiT, wiS, wiR, wiEnT, wiEnL, wiZip, wSl, woNone, woSome, wMt, wJoin, wGet, wUn, wTru, wDNew, fin, List.getElem?_cons_zero, List.getElem?_cons_succ, List.set_cons_zero, List.set_cons_succ, rdAdd, rdI, rdI0, rdU, rdOrd, rdIs, rdIn, rdIx, rdGet, rdSl, rdLen, rdType, rdIsiA, rdAll, rdInt, rdTuple, rdDict, rdSortD, rdAppend, rdPop, rdPopAt, tyD, c1, c2, decide_true, decide_false, Bool.not_true, Bool.not_false, Bool.false_eq_true, if_false, if_true]
          rw [show isNameB (.str s) = isNm s from rfl, fin2] at h3
          simp only [b2, decide_false, Bool.and_false, Bool.false_and] at h3
          exact ⟨h2, h3⟩
      · have c1 : ¬ (1 : Int) ≤ (s.length : Int) := by omega
        simp only [wNext, wSeq, wBreak, wContinue, wExpr, wRet, wRetN, wIfS, wSet, wAsg, wPar, wPar3, wFor, wSub, wTst, wOp, wChain, wNotT, wAndT, wOrT, wAndV, wOrV, wNotV, wIf, wNil, wCons, wTup, wLst, wLstM, wCall, wCall0, wVar, wC, wLc, wLcM, wYes, wiL, wiT, wiS, wiR, wiEnT, wiEnL, wiZip, wSl, woNone, woSome, wMt, wJoin, wGet, wUn, wTru, wDNew, fin, List.getElem?_cons_zero, List.getElem?_cons_succ, List.set_cons_zero, List.set_cons_succ, rdAdd, rdI, rdI0, rdU, rdOrd, rdIs, rdIn, rdIx, rdGet, rdSl, rdLen, rdType, rdIsiA, rdAll, rdInt, rdTuple, rdDict, rdSortD, rdAppend, rdPop, rdPopAt, tyD, c1, decide_true, decide_false, Bool.not_true, Bool.not_false, Bool.false_eq_true, if_false, if_true]
        rw [show isNameB (.str s) = isNm s from rfl, fin2] at h3
        simp only [b1, decide_false, Bool.and_false, Bool.false_and] at h3
        exact ⟨h2, h3⟩
    | cel a => 
      simp only [wNext, wSeq, wBreak, wContinue, wExpr, wRet, wRetN, wIfS, wSet, wAsg, wPar, wPar3, wFor, wSub, wTst, wOp, wChain, wNotT, wAndT, wOrT, wAndV, wOrV, wNotV, wIf, wNil, wCons, wTup, wLst, wLstM, wCall, wCall0, wVar, wC, wLc, wLcM, wYes, wiL, wiT, wiS, wiR, wiEnT, wiEnL, wiZip, wSl, woNone, woSome, wMt, wJoin, wGet, wUn, wTru, wDNew, fin, List.getElem?_cons_zero, List.getElem?_cons_succ, List.set_cons_zero, List.set_cons_succ, rdAdd, rdI, rdI0, rdU, rdOrd, rdIs, rdIn, rdIx, rdGet, rdSl, rdLen, rdType, rdIsiA, rdAll, rdInt, rdTuple, rdDict, rdSortD, rdAppend, rdPop, rdPopAt]
      cases q : tyD M (.cel a) with
      | none => rw [q] at h1; cases h1
      | some t =>
        have : t = "list" ∨ t = "dict" := by
          unfold tyD at q
          simp only at q
          split at q <;> cases q <;> simp
        rcases this with e | e <;> subst e <;> simpa [isNameB] using h3
    | ty n => cases h1
    | _ => 
      simp only [wNext, wSeq, wBreak, wContinue, wExpr, wRet, wRetN, wIfS, wSet, wAsg, wPar, wPar3, wFor, wSub, wTst, wOp, wChain, wNotT, wAndT, wOrT, wAndV, wOrV, wNotV, wIf, wNil, wCons, wTup, wLst, wLstM, wCall, wCall0, wVar, wC, wLc, wLcM, wYes, wiL, wiT, wiS, wiR, wiEnT, wiEnL, wiZip, wSl, woNone, woSome, wMt, wJoin, wGet, wUn, wTru, wDNew, fin, List.getElem?_cons_zero, List.getElem?_cons_succ, List.set_cons_zero, List.set_cons_succ, rdAdd, rdI, rdI0, rdU, rdOrd, rdIs, rdIn, rdIx, rdGet, rdSl, rdLen, rdType, rdIsiA, rdAll, rdInt, rdTuple, rdDict, rdSortD, rdAppend, rdPop, rdPopAt, tyD]
      simpa [isNameB] using h3
  · exact h.elim
end
end K04

set_option autoImplicit false
set_option maxRecDepth 100000
set_option maxHeartbeats 4000000
namespace K04
open PySem L2 DL
section
variable {P : Program} {w : World} {K : PySem.W.Frag} {mg : Str → Option Value} {base : Heap}
def HS (M : Mem) (h l : Addr) (xs : List Int) (s : Int) : Prop := M h = some (.lst [.cel l, .int s]) ∧ M l = some (.lst (xs.map D.int)) ∧ h ≠ l ∧ (∀ x ∈ xs, 0 ≤ x) ∧ 0 ≤ s ∧ s < 2305843009213693951 ∧ xs.length ≤ 63
def Hnd (M : Mem) (h l : Addr) : Prop := ∃ xs s, HS M h l xs s
def Ext (h l : Addr) (M M' : Mem) : Prop := ∀ a c, a ≠ h → a ≠ l → M a = some c → M' a = some c
theorem Ext.refl (h l : Addr) (M : Mem) : Ext h l M M := fun _ _ _ _ e => e
theorem Ext.trans {h l : Addr} {M M1 M2 : Mem} (a : Ext h l M M1) (b : Ext h l M1 M2) : Ext h l M M2 := fun x c h1 h2 e => b x c h1 h2 (a x c h1 h2 e)
def F_pick : FD := fun ds M k => ∃ h l n, ds = [.cel h, .int n] ∧ Hnd M h l ∧ 0 < n ∧ n < 1073741824 ∧ ∀ r M', 0 ≤ r → r < n → Hnd M' h l → Ext h l M M' → k (.int r) M'
theorem toPs_ints (M : Mem) (xs : List Int) : toPs M (xs.map D.int) = some (xs.map PyData.int) := by
  induction xs with
  | nil => rfl
  | cons x r ih => rw [List.map_cons]; unfold toPs toP; rw [ih]; rfl
theorem lay_ints (xs : List Int) : PyData.canLayAll0 (xs.map PyData.int) = true ∧ PyData.depthAll (xs.map PyData.int) = 0 := by
  induction xs with
  | nil => exact ⟨by unfold PyData.canLayAll0; rfl, by unfold PyData.depthAll; rfl⟩
  | cons x r ih =>
    rw [List.map_cons]
    unfold PyData.canLayAll0 PyData.depthAll
    rw [ih.1, ih.2]
    exact ⟨by unfold PyData.canLay0; rfl, by unfold PyData.depth; rfl⟩
theorem shaped_ints (xs : List Int) : SeqAt.shaped (.list (xs.map PyData.int)) = true := by
  unfold SeqAt.shaped PyData.canLay0 PyData.depth
  rw [(lay_ints xs).1, (lay_ints xs).2]; rfl
theorem ne_nil {M : Mem} {l : Addr} {xs : List Int} {k : KD} (e : M l = some (.lst (xs.map D.int))) (h : k (.bl (!xs.isEmpty)) M) : rdEq not (.cel l) (.lst []) M k := by
  show rdEqP not (.cel l) (.lst []) M k
  unfold rdEqP toPC
  simp only [e, toPs_ints]
  refine ⟨shaped_ints xs, shaped_ints [], ?_⟩
  have : PyData.eqv (.list (xs.map PyData.int)) (.list []) = xs.isEmpty := by
    unfold PyData.eqv
    cases xs <;> (unfold PyData.eqvAll; rfl)
  rw [this]; exact h
theorem ok_pick {f : Addr} {fd : FuncData} (T : Txt K mg) (d_law_pick : Def K mg "_law_pick" s_law_pick p_law_pick f fd) : DFn P w K mg base 1 f fd p_law_pick F_pick := by
  refine Fun.okD d_law_pick.F sc_law_pick (fun cdv A outer s H E hr => (dss_cons (ds_while (dw_pt (dw_and (dt_cmpA (c_ne hr) (de_ix (dv 0) de_int) (de_lst da_nil)) (dw_and1 (dt_cmpA (c_eq hr) (de_ix (de_ix (dv 0) de_int) de_int) de_int)))) (dss_one (ds_expr (de_popAt (de_ix (dv 0) de_int) de_int)))) (dss_cons (ds_if (dt_cmpA (c_ne hr) (de_ix (dv 0) de_int) (de_lst da_nil)) (dss_cons (ds_set (i := 2) sc_law_pick.nd (de_mod (de_ix (de_ix (dv 0) de_int) de_int) (dv 1))) (dss_cons (ds_sub (de_ix (dv 0) de_int) de_int (de_div (de_ix (de_ix (dv 0) de_int) de_int) (dv 1))) (dss_one (ds_ret (dv 2))))) dss_nil) (dss_cons (ds_sub (dv 0) de_int (de_mod (de_add (de_mul (de_ix (dv 0) de_int) de_int) de_int) de_int)) (dss_cons (ds_set (i := 3) sc_law_pick.nd (de_div (de_ix (dv 0) de_int) de_int)) (dss_one (ds_ret (de_mod (de_div (de_mod (de_mul (dv 3) (de_add (de_mod (dv 3) de_int) de_int)) de_int) de_int) (dv 1))))))))) (fun ds M k h => ?_)
  obtain ⟨h, l, n, rfl, ⟨xs, s, hs⟩, n0, n1, hk⟩ := h
  refine ⟨rfl, ?_⟩
  rw [show startD N_law_pick [.cel h, .int n] = [some (.cel h), some (.int n), none, none] from rfl]
  simp only [wSeq]
  unfold wWhile
  refine ⟨fun j Γ M' => Γ = [some (.cel h), some (.int n), none, none] ∧ ∃ xs s, j = xs.length ∧ HS M' h l xs s ∧ Ext h l M M', ⟨xs.length, rfl, xs, s, rfl, hs, Ext.refl _ _ _⟩, ?_⟩
  rintro j Γ M1 ⟨rfl, xs, s, rfl, ⟨h1, h2, h3, h4, h5, h6, h7⟩, hx⟩
  simp only [wNext, wSeq, wBreak, wContinue, wExpr, wRet, wRetN, wIfS, wSet, wAsg, wPar, wPar3, wFor, wSub, wTst, wOp, wChain, wNotT, wAndT, wOrT, wAndV, wOrV, wNotV, wIf, wNil, wCons, wTup, wLst, wLstM, wCall, wCall0, wVar, wC, wLc, wLcM, wYes, wiL, wiT, wiS, wiR, wiEnT, wiEnL, wiZip, wSl, woNone, woSome, wMt, wJoin, wGet, wUn, wTru, wDNew, fin, List.getElem?_cons_zero, List.getElem?_cons_succ, List.set_cons_zero, List.set_cons_succ]
  refine ix_cel h1 (at0 _ _) ⟨Nat.zero_le _, ne_nil h2 ?_⟩
  cases xs with
  | nil =>
    refine ff (ff (ix_cel h1 (at0 _ _) ⟨Nat.zero_le _, ne_nil h2 (ff ?_)⟩))
    refine ix_cel h1 (at1 _ _ _) (r_mul (.inl ⟨by omega, by omega⟩) (r_add (r_mod (by decide) ?_)))
    have p0 := Int.emod_nonneg (s * 3935559000370003 + 2691343689449507) (show (2305843009213693951 : Int) ≠ 0 by decide)
    have p1 := Int.emod_lt_of_pos (s * 3935559000370003 + 2691343689449507) (show (0 : Int) < 2305843009213693951 by decide)
    generalize (s * 3935559000370003 + 2691343689449507) % 2305843009213693951 = s' at p0 p1
    refine r_st h1 (ix_nat (n := 2) (i := 1) (by decide)) ?_
    have g1 : setM M1 h (.lst ([.cel l, .int s].set 1 (.int s'))) h = some (.lst [.cel l, .int s']) := setM_same
    simp only [wNext, wSeq, wBreak, wContinue, wExpr, wRet, wRetN, wIfS, wSet, wAsg, wPar, wPar3, wFor, wSub, wTst, wOp, wChain, wNotT, wAndT, wOrT, wAndV, wOrV, wNotV, wIf, wNil, wCons, wTup, wLst, wLstM, wCall, wCall0, wVar, wC, wLc, wLcM, wYes, wiL, wiT, wiS, wiR, wiEnT, wiEnL, wiZip, wSl, woNone, woSome, wMt, wJoin, wGet, wUn, wTru, wDNew, fin, List.getElem?_cons_zero, List.getElem?_cons_succ, List.set_cons_zero, List.set_cons_succ]
    refine ix_cel g1 (at1 _ _ _) (r_div (by decide) (by decide) (r_mod (by decide) (r_add ?_)))
    have q0 : 0 ≤ s' / 65537 := by omega
    have q1 : s' / 65537 < 2 ^ 64 := by omega
    generalize s' / 65537 = m at q0 q1
    refine r_mul (.inl ⟨by omega, q1⟩) (r_mod (by decide) (r_div (by decide) (by decide) (r_mod n0 ?_)))
    refine hk _ _ (Int.emod_nonneg _ (by omega)) (Int.emod_lt_of_pos _ n0) ⟨[], s', g1, by rw [setM_ne (Ne.symm h3)]; exact h2, h3, h4, p0, p1, h7⟩ fun a c na nb e => by rw [setM_ne na]; exact hx a c na nb e
  | cons x r =>
    have hx0 : 0 ≤ x := h4 x List.mem_cons_self
    by_cases e : x = 0
    · subst e
      refine tt (ix_cel h1 (at0 _ _) (ix_cel h2 (at0 _ _) (eq_intT (tt ?_))))
      refine ix_cel h1 (at0 _ _) ⟨isC h2, r_pop0 h2 ?_⟩
      refine ⟨r.length, Nat.lt_succ_self _, trivial, r, s, rfl, ⟨by rw [setM_ne h3]; exact h1, setM_same, h3, fun y hy => h4 y (List.mem_cons_of_mem _ hy), h5, h6, by simp only [List.length_cons] at h7; omega⟩, fun a c na nb e => by rw [setM_ne nb]; exact hx a c na nb e⟩
    · refine tt (ix_cel h1 (at0 _ _) (ix_cel h2 (at0 _ _) (eq_intF e (ff ?_))))
      refine ix_cel h1 (at0 _ _) ⟨Nat.zero_le _, ne_nil h2 (tt ?_)⟩
      refine ix_cel h1 (at0 _ _) (ix_cel h2 (at0 _ _) (r_mod n0 ?_))
      refine ix_cel h1 (at0 _ _) (ix_cel h2 (at0 _ _) (r_div n0 n1 ?_))
      refine ix_cel h1 (at0 _ _) (r_st h2 (ix_nat (n := (x :: r).map D.int |>.length) (i := 0) (by simp)) ?_)
      simp only [wNext, wSeq, wBreak, wContinue, wExpr, wRet, wRetN, wIfS, wSet, wAsg, wPar, wPar3, wFor, wSub, wTst, wOp, wChain, wNotT, wAndT, wOrT, wAndV, wOrV, wNotV, wIf, wNil, wCons, wTup, wLst, wLstM, wCall, wCall0, wVar, wC, wLc, wLcM, wYes, wiL, wiT, wiS, wiR, wiEnT, wiEnL, wiZip, wSl, woNone, woSome, wMt, wJoin, wGet, wUn, wTru, wDNew, fin, List.getElem?_cons_zero, List.getElem?_cons_succ, List.set_cons_zero, List.set_cons_succ]
      refine hk _ _ (Int.emod_nonneg _ (by omega)) (Int.emod_lt_of_pos _ n0) ⟨x / n :: r, s, by rw [setM_ne h3]; exact h1, setM_same, h3, fun y hy => ?_, h5, h6, h7⟩ fun a c na nb e => by rw [setM_ne nb]; exact hx a c na nb e
      rcases List.mem_cons.mp hy with rfl | hy
      · exact Int.ediv_nonneg hx0 (by omega)
      · exact h4 y (List.mem_cons_of_mem _ hy)
end
end K04

set_option autoImplicit false
set_option maxRecDepth 100000
set_option maxHeartbeats 4000000
namespace K04
open PySem L2 DL
section
variable {P : Program} {w : World} {K : PySem.W.Frag} {mg : Str → Option Value} {base : Heap}
/-- one of a text's signs, of a tuple's or a list's items -/
def F_of : FD := fun ds M k => ∃ h l x, ds = [.cel h, x] ∧ Hnd M h l ∧
  ((∃ s : Str, x = .str s ∧ 0 < s.length ∧ s.length < 1000000 ∧ ∀ c M', c ∈ s.cps.toList → Hnd M' h l → Ext h l M M' → k (.str ⟨#[c]⟩) M') ∨
    ∃ xs, (x = .tup xs ∨ x = .lst xs) ∧ 0 < xs.length ∧ xs.length < 1000000 ∧ ∀ d M', d ∈ xs → Hnd M' h l → Ext h l M M' → k d M')
theorem atI_of {α : Type} {xs : List α} {r : Int} (h0 : 0 ≤ r) (h1 : r < xs.length) : ∃ d, atI xs r = some d ∧ d ∈ xs := by
  have h : r.toNat < xs.length := by omega
  refine ⟨xs[r.toNat], ?_, List.getElem_mem h⟩
  have := atI_nat (xs := xs) (j := r.toNat) (v := xs[r.toNat]) (by simp [h])
  rw [Int.toNat_of_nonneg h0] at this; exact this
theorem ok_of {f f1 : Addr} {fd fd1 : FuncData} (T : Txt K mg) (d_law_pick : Def K mg "_law_pick" s_law_pick p_law_pick f1 fd1) (d_law_of : Def K mg "_law_of" s_law_of p_law_of f fd) : DFn P w K mg base 2 f fd p_law_of F_of := by
  have G_law_pick : DFn P w K mg base 1 f1 fd1 p_law_pick F_pick := ok_pick T d_law_pick
  refine Fun.okD d_law_of.F sc_law_of (fun cdv A outer s H E hr => (dss_one (ds_ret (de_ix (dv 1) (de_own d_law_pick G_law_pick hr (by first | decide | omega) (da_cons (dv 0) (da_cons (de_len T.b_len (dv 1)) da_nil))))))) (fun ds M k h => ?_)
  obtain ⟨h, l, x, rfl, hh, hx⟩ := h
  refine ⟨rfl, ?_⟩
  rw [show startD N_law_of [.cel h, x] = [some (.cel h), some x] from rfl]
  simp only [wNext, wSeq, wBreak, wContinue, wExpr, wRet, wRetN, wIfS, wSet, wAsg, wPar, wPar3, wFor, wSub, wTst, wOp, wChain, wNotT, wAndT, wOrT, wAndV, wOrV, wNotV, wIf, wNil, wCons, wTup, wLst, wLstM, wCall, wCall0, wVar, wC, wLc, wLcM, wYes, wiL, wiT, wiS, wiR, wiEnT, wiEnL, wiZip, wSl, woNone, woSome, wMt, wJoin, wGet, wUn, wTru, wDNew, fin, List.getElem?_cons_zero, List.getElem?_cons_succ, List.set_cons_zero, List.set_cons_succ]
  rcases hx with ⟨s, rfl, n0, n1, hk⟩ | ⟨xs, hx, n0, n1, hk⟩
  · refine r_lenS (z1 (by omega)) ?_
    refine ⟨h, l, _, rfl, hh, by omega, by omega, fun r M' r0 r1 h' e' => ?_⟩
    obtain ⟨c, a1, a2⟩ := atI_of (xs := s.cps.toList) r0 (by rw [show s.cps.toList.length = s.length by simp; rfl]; exact r1)
    exact ix_str (z1 (by omega)) a1 (hk c M' a2 h' e')
  · rcases hx with rfl | rfl
    · refine r_lenT ?_
      refine ⟨h, l, _, rfl, hh, by omega, by omega, fun r M' r0 r1 h' e' => ?_⟩
      obtain ⟨c, a1, a2⟩ := atI_of (xs := xs) r0 r1
      exact ix_tup a1 (hk c M' a2 h' e')
    · refine r_lenL ?_
      refine ⟨h, l, _, rfl, hh, by omega, by omega, fun r M' r0 r1 h' e' => ?_⟩
      obtain ⟨c, a1, a2⟩ := atI_of (xs := xs) r0 r1
      exact ix_lst a1 (hk c M' a2 h' e')
/-- the hand of a script -/
def F_law_hand : FD := fun ds M k => ∃ ns : List Int, ds = [.scr (ns.map D.int)] ∧ ns.length ≤ 63 ∧ ∀ h l M', Hnd M' h l → (∀ a c, M a = some c → M' a = some c) → k (.cel h) M'
theorem ok_law_hand {f : Addr} {fd : FuncData} (T : Txt K mg) (d_law_hand : Def K mg "_law_hand" s_law_hand p_law_hand f fd) : DFn P w K mg base 1 f fd p_law_hand F_law_hand := by
  refine Fun.okD d_law_hand.F sc_law_hand (fun cdv A outer s H E hr => (dss_cons (ds_set (i := 1) sc_law_hand.nd de_int) (dss_cons (ds_for rfl (di_list (de_slice (dv 0) do_none (do_some de_int))) (dg_name (i := 2) sc_law_hand.nd) (dss_one (ds_set (i := 1) sc_law_hand.nd (de_mod (de_add (de_add (de_mul (dv 1) de_int) (de_mod (dv 2) de_int)) de_int) de_int)))) (dss_one (ds_ret (de_lstM (da_cons (de_lcM rfl sc_law_hand.nd (di_list (de_slice (dv 0) do_none (do_some de_int))) (blkOk_by (own := [("cell", 2)]) (N := N_law_hand) (sc := defScope s_law_hand) (by decide +kernel)) (fun _ _ _ _ _ => (dg_name (i := 2) sc_law_hand.nd)) gd_name (fun _ _ _ _ _ => (dts_one (dt_cmpA c_ge (dv 2) (de_pow de_int de_int)))) (fun _ _ _ _ _ => (dv 2))) (da_cons (dv 1) da_nil)))))))) (fun ds M k h => ?_)
  obtain ⟨ns, rfl, hn, hk⟩ := h
  refine ⟨rfl, ?_⟩
  rw [show startD N_law_hand [.scr (ns.map D.int)] = [some (.scr (ns.map D.int)), none, none] from rfl]
  have cut : cutD (ns.map D.int) none (some 63) = ns.map D.int := by
    have := cut_take (ns.map D.int) 63
    rw [show ((63 : Nat) : Int) = 63 from rfl] at this
    rw [this, List.take_of_length_le (by simpa using hn)]
  simp only [wNext, wSeq, wBreak, wContinue, wExpr, wRet, wRetN, wIfS, wSet, wAsg, wPar, wPar3, wFor, wSub, wTst, wOp, wChain, wNotT, wAndT, wOrT, wAndV, wOrV, wNotV, wIf, wNil, wCons, wTup, wLst, wLstM, wCall, wCall0, wVar, wC, wLc, wLcM, wYes, wiL, wiT, wiS, wiR, wiEnT, wiEnL, wiZip, wSl, woNone, woSome, wMt, wJoin, wGet, wUn, wTru, wDNew, fin, List.getElem?_cons_zero, List.getElem?_cons_succ, List.set_cons_zero, List.set_cons_succ]
  refine r_slR ?_
  rw [cut]
  simp only [asR]
  refine loop_inv (fun ds Γ M' => M' = M ∧ (∀ d ∈ ds, ∃ i, d = D.int i) ∧ ∃ s x, Γ = [some (.scr (ns.map D.int)), some (.int s), x] ∧ 0 ≤ s ∧ s < 2305843009213693951) (fun _ _ _ _ => rfl) ?_ ?_ _ _ _ ⟨rfl, fun d hd => (let ⟨i, _, e⟩ := List.mem_map.mp hd; ⟨i, e.symm⟩), 23, none, rfl, by decide, by decide⟩
  · rintro Γ M' ⟨rfl, _, s, x, rfl, s0, s1⟩
    simp only [wNext, wSeq, wBreak, wContinue, wExpr, wRet, wRetN, wIfS, wSet, wAsg, wPar, wPar3, wFor, wSub, wTst, wOp, wChain, wNotT, wAndT, wOrT, wAndV, wOrV, wNotV, wIf, wNil, wCons, wTup, wLst, wLstM, wCall, wCall0, wVar, wC, wLc, wLcM, wYes, wiL, wiT, wiS, wiR, wiEnT, wiEnL, wiZip, wSl, woNone, woSome, wMt, wJoin, wGet, wUn, wTru, wDNew, fin, List.getElem?_cons_zero, List.getElem?_cons_succ, List.set_cons_zero, List.set_cons_succ]
    refine r_slR ?_
    rw [cut]
    simp only [asR]
    refine lc_filter (fun d => match d with | .int i => decide (1000000000000000000 ≤ i) | _ => false) id (G := gAt (.lst (ns.map D.int)) (ns.map D.int)) (M := M') rfl _ _ _ ?_ ?_ ?_
    · intro d hd
      obtain ⟨i, _, rfl⟩ := List.mem_map.mp hd
      refine ⟨_, rfl, fun k hk => ?_, fun _ k hk => ?_⟩
      · simp only [wNext, wSeq, wBreak, wContinue, wExpr, wRet, wRetN, wIfS, wSet, wAsg, wPar, wPar3, wFor, wSub, wTst, wOp, wChain, wNotT, wAndT, wOrT, wAndV, wOrV, wNotV, wIf, wNil, wCons, wTup, wLst, wLstM, wCall, wCall0, wVar, wC, wLc, wLcM, wYes, wiL, wiT, wiS, wiR, wiEnT, wiEnL, wiZip, wSl, woNone, woSome, wMt, wJoin, wGet, wUn, wTru, wDNew, fin, List.getElem?_cons_zero, List.getElem?_cons_succ, List.set_cons_zero, List.set_cons_succ, wipeD, List.map]
        refine r_pow (by decide) (by decide) (by decide) (r_ordI ?_)
        exact hk
      · simp only [wNext, wSeq, wBreak, wContinue, wExpr, wRet, wRetN, wIfS, wSet, wAsg, wPar, wPar3, wFor, wSub, wTst, wOp, wChain, wNotT, wAndT, wOrT, wAndV, wOrV, wNotV, wIf, wNil, wCons, wTup, wLst, wLstM, wCall, wCall0, wVar, wC, wLc, wLcM, wYes, wiL, wiT, wiS, wiR, wiEnT, wiEnL, wiZip, wSl, woNone, woSome, wMt, wJoin, wGet, wUn, wTru, wDNew, fin, List.getElem?_cons_zero, List.getElem?_cons_succ, List.set_cons_zero, List.set_cons_succ, wipeD, List.map]
        exact hk
    · simpa using z1 (by omega)
    · intro p hp
      refine ⟨(show 2 ≤ sizeLine by decide), fun q hq => ?_⟩
      have ne : q ≠ p := fun e => by rw [e, setM_same] at hq; cases hq
      have hz : ∃ xs : List Int, ([] ++ (List.filter (fun d => match d with | D.int i => decide (1000000000000000000 ≤ i) | _ => false) (ns.map D.int)).map id) = xs.map D.int ∧ (∀ x ∈ xs, 0 ≤ x) ∧ xs.length ≤ 63 := by
        refine ⟨ns.filter fun i => decide (1000000000000000000 ≤ i), ?_, fun x hx => ?_, ?_⟩
        · simp only [List.nil_append, List.map_id, List.filter_map]
          rfl
        · have := of_decide_eq_true (List.mem_filter.mp hx).2
          omega
        · exact Nat.le_trans (List.length_filter_le _ _) hn
      obtain ⟨xs, e1, e2, e3⟩ := hz
      refine hk q p _ ⟨xs, s, setM_same, by rw [setM_ne (Ne.symm ne), setM_same, e1], ne, e2, s0, s1, e3⟩ fun a c e => ?_
      have n1 : a ≠ p := neM e hp
      have n2 : a ≠ q := fun z => by rw [z] at e; rw [setM_ne ne] at hq; rw [hq] at e; cases e
      rw [setM_ne n2, setM_ne n1]; exact e
  · rintro d ds Γ M' ⟨rfl, hd, s, x, rfl, s0, s1⟩
    obtain ⟨i, rfl⟩ := hd d List.mem_cons_self
    refine ⟨_, rfl, fun k' h1 h2 h3 h4 => ?_⟩
    simp only [wNext, wSeq, wBreak, wContinue, wExpr, wRet, wRetN, wIfS, wSet, wAsg, wPar, wPar3, wFor, wSub, wTst, wOp, wChain, wNotT, wAndT, wOrT, wAndV, wOrV, wNotV, wIf, wNil, wCons, wTup, wLst, wLstM, wCall, wCall0, wVar, wC, wLc, wLcM, wYes, wiL, wiT, wiS, wiR, wiEnT, wiEnL, wiZip, wSl, woNone, woSome, wMt, wJoin, wGet, wUn, wTru, wDNew, fin, List.getElem?_cons_zero, List.getElem?_cons_succ, List.set_cons_zero, List.set_cons_succ]
    refine r_mul (.inl ⟨by omega, by omega⟩) (r_mod (by decide) (r_add (r_add (r_mod (by decide) ?_))))
    refine h3 _ _ ⟨rfl, fun d hd' => hd d (List.mem_cons_of_mem _ hd'), _, _, rfl, Int.emod_nonneg _ (by decide), Int.emod_lt_of_pos _ (by decide)⟩
end
end K04

set_option autoImplicit false
set_option maxRecDepth 100000
set_option maxHeartbeats 4000000
namespace K04
open PySem L2 DL
section
variable {P : Program} {w : World} {K : PySem.W.Frag} {mg : Str → Option Value} {base : Heap}
def NamesOk (ns : List Str) : Prop := ns.length = 60 ∧ ns.Nodup ∧ ∀ s ∈ ns, isNm s = true
def F_names : FD := fun ds M k => ∃ h l, ds = [.cel h] ∧ Hnd M h l ∧ ∀ p M' ns, NamesOk ns → M' p = some (.lst (ns.map D.str)) → p ≠ h → p ≠ l → M p = none → Hnd M' h l → Ext h l M M' → k (.cel p) M'
/-! the mathematics of the names -/
def mid : Nat → List Nat
  | 0 => []
  | 1 => [113]
  | _ => [120]
def nmS (stem : List Nat) (spot : Nat) : Str := ⟨((97 + spot % 26) :: (mid (spot / 26) ++ stem)).toArray⟩
theorem nmS_inj {stem : List Nat} {a b : Nat} (ha : a < 60) (hb : b < 60) (e : nmS stem a = nmS stem b) : a = b := by
  unfold nmS at e
  have e1 := congrArg (fun s : Str => s.cps.toList) e
  simp only [List.toList_toArray, List.cons.injEq] at e1
  obtain ⟨h1, h2⟩ := e1
  have h3 : mid (a / 26) = mid (b / 26) := List.append_cancel_right h2
  have ha' : a / 26 < 3 := by omega
  have hb' : b / 26 < 3 := by omega
  have h4 : a / 26 = b / 26 := by
    generalize a / 26 = x at ha' h3
    generalize b / 26 = y at hb' h3
    match x, y, ha', hb', h3 with
    | 0, 0, _, _, _ => rfl
    | 1, 1, _, _, _ => rfl
    | 2, 2, _, _, _ => rfl
    | 0, 1, _, _, h => cases h
    | 0, 2, _, _, h => cases h
    | 1, 0, _, _, h => cases h
    | 1, 2, _, _, h => cases h
    | 2, 0, _, _, h => cases h
    | 2, 1, _, _, h => cases h
  omega
theorem nmS_ok {stem : List Nat} (hl : stem.length ≤ 6) (hs : ∀ c ∈ stem, letter c = true) {a : Nat} : isNm (nmS stem a) = true := by
  have hm : ∀ x, (mid x).length ≤ 1 ∧ ∀ c ∈ mid x, letter c = true := fun x => by
    match x with
    | 0 => exact ⟨by decide, fun c hc => by cases hc⟩
    | 1 => exact ⟨by decide, fun c hc => by simp [mid] at hc; subst hc; decide⟩
    | n + 2 => exact ⟨by simp [mid], fun c hc => by simp [mid] at hc; subst hc; decide⟩
  obtain ⟨m1, m2⟩ := hm (a / 26)
  have len : (nmS stem a).length = 1 + ((mid (a / 26)).length + stem.length) := by
    show (((97 + a % 26) :: (mid (a / 26) ++ stem)).toArray).size = _
    simp; omega
  unfold isNm
  rw [len, decide_eq_true (by omega), decide_eq_true (by omega)]
  simp only [Bool.and_true, Bool.true_and]
  show (((97 + a % 26) :: (mid (a / 26) ++ stem)).toArray.toList).all letter = true
  simp only [List.toList_toArray, List.all_cons, List.all_append, Bool.and_eq_true, List.all_eq_true]
  refine ⟨?_, m2, hs⟩
  unfold letter
  simp; omega
def spot (f t k : Nat) : Nat := (f + t * k) % 60
theorem spot_inj {f t j k : Nat} (ht : t ∈ [1, 7, 11, 13, 59]) (hj : j < 60) (hk : k < 60) (e : spot f t j = spot f t k) : j = k := by
  unfold spot at e
  simp only [List.mem_cons, List.not_mem_nil, or_false] at ht
  rcases ht with rfl | rfl | rfl | rfl | rfl <;> omega
def start0 (stem : List Nat) (f t : Nat) : List Str := (List.range 60).map fun k => nmS stem (spot f t k)
theorem start_nodup {stem : List Nat} {f t : Nat} (ht : t ∈ [1, 7, 11, 13, 59]) : (start0 stem f t).Nodup := by
  unfold start0
  refine List.nodup_iff_pairwise_ne.mpr ?_
  rw [List.pairwise_map]
  refine List.Pairwise.imp_of_mem ?_ (List.nodup_iff_pairwise_ne.mp List.nodup_range)
  intro a b ha hb hab e
  have h1 : a < 60 := List.mem_range.mp ha
  have h2 : b < 60 := List.mem_range.mp hb
  exact hab (spot_inj ht h1 h2 (nmS_inj (by unfold spot; omega) (by unfold spot; omega) e))
theorem start_ok {stem : List Nat} {f t : Nat} (ht : t ∈ [1, 7, 11, 13, 59]) (hl : stem.length ≤ 6) (hs : ∀ c ∈ stem, letter c = true) : NamesOk (start0 stem f t) := by
  refine ⟨by simp [start0], start_nodup ht, fun s h => ?_⟩
  unfold start0 at h
  obtain ⟨k, _, rfl⟩ := List.mem_map.mp h
  exact nmS_ok hl hs
theorem NamesOk.set {ns : List Str} (h : NamesOk ns) {w : Str} (hw : isNm w = true) (hn : ¬ w ∈ ns) (j : Nat) : NamesOk (ns.set j w) := by
  obtain ⟨h1, h2, h3⟩ := h
  refine ⟨by simp [h1], ?_, fun s hs => ?_⟩
  · clear h1 h3
    induction ns generalizing j with
    | nil => simp
    | cons a r ih =>
      have ih := fun j => ih (fun z => hn (List.mem_cons_of_mem _ z)) j (List.nodup_cons.mp h2).2
      have ha := List.nodup_cons.mp h2
      cases j with
      | zero => exact List.nodup_cons.mpr ⟨fun z => hn (List.mem_cons_of_mem _ z), ha.2⟩
      | succ j =>
        refine List.nodup_cons.mpr ⟨fun z => ?_, ih j⟩
        rcases List.mem_or_eq_of_mem_set z with z | z
        · exact ha.1 z
        · exact hn (z ▸ List.mem_cons_self)
  · rcases List.mem_or_eq_of_mem_set hs with z | z
    · exact h3 s z
    · rw [z]; exact hw
theorem dsigns {cs : List Nat} : strsD (cs.map fun c => D.str ⟨#[c]⟩) = some (cs.map fun c => (⟨#[c]⟩ : Str)) := by
  induction cs with
  | nil => rfl
  | cons c r ih => rw [List.map_cons]; unfold strsD; rw [ih]; rfl
theorem join_eq' (y : Str) (parts : List Str) : Txt.join y parts = Str.join y parts := PySem.StrLaws.glued_eq_join y parts
theorem join_signs (cs : List Nat) : Txt.join (Str.ofString "") (cs.map fun c => (⟨#[c]⟩ : Str)) = ⟨cs.toArray⟩ := by
  rw [join_eq']
  induction cs with
  | nil => rfl
  | cons c r ih =>
    cases r with
    | nil => rfl
    | cons d r =>
      rw [List.map_cons, List.map_cons, PyProof.Rows.join_cons_cons]
      rw [List.map_cons] at ih
      rw [ih]
      show (⟨(#[c] ++ #[] ++ (d :: r).toArray)⟩ : Str) = _
      congr 1
      simp
theorem r_ninC {M : Mem} {k : KD} {a : Addr} {s : Str} {l : List Str} (e : M a = some (.lst (l.map D.str))) (hk : k (.bl (!decide (s ∈ l))) M) : rdIn not (.str s) (.cel a) M k := by
  have h := r_inS (M := M) (k := k) (f := not) (s := s) (l := l) hk
  unfold rdIn seqD at h ⊢
  unfold asR
  simp only [e]
  exact h
theorem Hnd.set {M : Mem} {h l p : Addr} {c : Cell} (hh : Hnd M h l) (h1 : p ≠ h) (h2 : p ≠ l) : Hnd (setM M p c) h l := by
  obtain ⟨xs, s, a, b, r⟩ := hh
  exact ⟨xs, s, by rw [setM_ne (Ne.symm h1)]; exact a, by rw [setM_ne (Ne.symm h2)]; exact b, r⟩
theorem rng_drop {n j : Nat} {d : D} {ds : List D} (h : d :: ds = (rng 0 n).drop j) : j < n ∧ d = .int (j : Nat) ∧ ds = (rng 0 n).drop (j + 1) := by
  have hl : (rng 0 n).length = n := by simp [rng]
  have hj : j < (rng 0 n).length := by
    have := congrArg List.length h
    rw [List.length_drop, List.length_cons] at this
    omega
  rw [drop_cons hj] at h
  injection h with h1 h2
  refine ⟨by omega, ?_, h2⟩
  rw [h1]; simp [rng]
def midS : Nat → Str
  | 0 => Str.ofString ""
  | 1 => Str.ofString "q"
  | _ => Str.ofString "x"
theorem midS_cps (n : Nat) : (midS n).cps = (mid n).toArray := by
  match n with
  | 0 => decide
  | 1 => decide
  | n + 2 => show (Str.ofString "x").cps = #[120]; decide
theorem nm_glue (cs : List Nat) (n : Nat) : (⟨#[97 + n % 26]⟩ : Str) ++ midS (n / 26) ++ ⟨cs.toArray⟩ = nmS cs n := by
  show (⟨(#[97 + n % 26] ++ (midS (n / 26)).cps ++ cs.toArray)⟩ : Str) = _
  rw [midS_cps]
  unfold nmS
  congr 1
  simp
theorem alph_at : ∀ n < 26, atI (Str.ofString "abcdefghijklmnopqrstuvwxyz").cps.toList ((n : Nat) : Int) = some (97 + n) := by decide
theorem mid_at : ∀ n < 3, atI [D.str (Str.ofString ""), D.str (Str.ofString "q"), D.str (Str.ofString "x")] ((n : Nat) : Int) = some (.str (midS n)) := by
  intro n hn
  match n, hn with
  | 0, _ => exact at0 _ _
  | 1, _ => exact at1 _ _ _
  | 2, _ => exact at2 _ _ _ _
theorem nmS_len (cs : List Nat) (n : Nat) (h : cs.length ≤ 6) : (midS n).length ≤ 1 := by
  match n with
  | 0 => decide
  | 1 => decide
  | n + 2 => show (Str.ofString "x").length ≤ 1; decide
theorem alpha_ok : ∀ c ∈ (Str.ofString "abdeghinoprstu").cps.toList, letter c = true := by decide +kernel
theorem ok_names {f f1 f2 : Addr} {fd fd1 fd2 : FuncData} (T : Txt K mg) (d_law_pick : Def K mg "_law_pick" s_law_pick p_law_pick f1 fd1) (d_law_of : Def K mg "_law_of" s_law_of p_law_of f2 fd2) (d_law_names : Def K mg "_law_names" s_law_names p_law_names f fd) :
    DFn P w K mg base 3 f fd p_law_names F_names := by
  have G_law_pick : DFn P w K mg base 1 f1 fd1 p_law_pick F_pick := ok_pick T d_law_pick
  have G_law_of : DFn P w K mg base 2 f2 fd2 p_law_of F_of := ok_of T d_law_pick d_law_of
  refine Fun.okD d_law_names.F sc_law_names (fun cdv A outer s H E hr => (dss_cons (ds_set (i := 1) sc_law_names.nd (de_join de_str (de_lc rfl sc_law_names.nd (di_range T.b_range (da_cons (de_own d_law_pick G_law_pick hr (by first | decide | omega) (da_cons (dv 0) (da_cons de_int da_nil))) da_nil)) (blkOk_by (own := [("k", 2)]) (N := N_law_names) (sc := defScope s_law_names) (by decide +kernel)) (fun _ _ _ _ _ => (dg_name (i := 2) sc_law_names.nd)) gd_name (fun _ _ _ _ _ => dts_nil) (fun _ _ _ _ _ => (de_own d_law_of G_law_of hr (by first | decide | omega) (da_cons (dv 0) (da_cons de_str da_nil))))))) (dss_cons (ds_par (i := 3) (j := 4) rfl sc_law_names.nd (da_cons (de_own d_law_pick G_law_pick hr (by first | decide | omega) (da_cons (dv 0) (da_cons de_int da_nil))) (da_cons (de_own d_law_of G_law_of hr (by first | decide | omega) (da_cons (dv 0) (da_cons (de_lst (da_cons de_int (da_cons de_int (da_cons de_int (da_cons de_int (da_cons de_int da_nil)))))) da_nil))) da_nil)) rfl rfl (by decide) rfl rfl (by rfl)) (dss_cons (ds_set (i := 5) sc_law_names.nd (de_lstM da_nil)) (dss_cons (ds_for rfl (di_range T.b_range (da_cons de_int da_nil)) (dg_name (i := 2) sc_law_names.nd) (dss_cons (ds_set (i := 6) sc_law_names.nd (de_mod (de_add (dv 3) (de_mul (dv 4) (dv 2))) de_int)) (dss_one (ds_expr (de_append (dv 5) (de_add (de_add (de_ix de_str (de_mod (dv 6) de_int)) (de_ix (de_lst (da_cons de_str (da_cons de_str (da_cons de_str da_nil)))) (de_div (dv 6) de_int))) (dv 1))))))) (dss_cons (ds_for rfl (di_tup (de_tup (da_cons de_str (da_cons de_str (da_cons de_str (da_cons de_str (da_cons de_str (da_cons de_str (da_cons de_str (da_cons de_str da_nil)))))))))) (dg_name (i := 7) sc_law_names.nd) (dss_one (ds_if (dw_pt (dw_and (dt_cmpA (c_eq hr) (de_own d_law_pick G_law_pick hr (by first | decide | omega) (da_cons (dv 0) (da_cons de_int da_nil))) de_int) (dw_and1 (dt_cmpA c_nin (dv 7) (dv 5))))) (dss_one (ds_sub (dv 5) (de_own d_law_pick G_law_pick hr (by first | decide | omega) (da_cons (dv 0) (da_cons de_int da_nil))) (dv 7))) dss_nil))) (dss_one (ds_ret (dv 5))))))))) (fun ds M k h => ?_)
  obtain ⟨h, l, rfl, hh, hk⟩ := h
  refine ⟨rfl, ?_⟩
  rw [show startD N_law_names [.cel h] = [some (.cel h), none, none, none, none, none, none, none] from rfl]
  simp only [wNext, wSeq, wBreak, wContinue, wExpr, wRet, wRetN, wIfS, wSet, wAsg, wPar, wPar3, wFor, wSub, wTst, wOp, wChain, wNotT, wAndT, wOrT, wAndV, wOrV, wNotV, wIf, wNil, wCons, wTup, wLst, wLstM, wCall, wCall0, wVar, wC, wLc, wLcM, wYes, wiL, wiT, wiS, wiR, wiEnT, wiEnL, wiZip, wSl, woNone, woSome, wMt, wJoin, wGet, wUn, wTru, wDNew, fin, List.getElem?_cons_zero, List.getElem?_cons_succ, List.set_cons_zero, List.set_cons_succ]
  refine ⟨h, l, 7, rfl, hh, by decide, by decide, fun r M1 r0 r1 hh1 e1 => ?_⟩
  refine ⟨⟨by omega, by omega⟩, ?_⟩
  refine lc_inv (fun ds acc M' => Hnd M' h l ∧ Ext h l M M' ∧ (∃ cs : List Nat, acc = cs.map (fun c => D.str ⟨#[c]⟩) ∧ ∀ c ∈ cs, letter c = true) ∧ acc.length + ds.length ≤ 6) (fun _ _ _ _ => trivial) ?_ ?_ (fun _ _ _ h => z1 (by omega)) _ _ _
    ⟨hh1, e1, ⟨[], rfl, fun c hc => by cases hc⟩, by simp [rng]; omega⟩
  · rintro acc M2 ⟨hh2, e2, ⟨cs, rfl, hcs⟩, hl⟩
    have hl6 : cs.length ≤ 6 := by simpa using hl
    simp only [seqD, asR, dsigns, join_signs]
    refine ⟨?_, ?_⟩
    · have : ∀ cs : List Nat, ((cs.map fun c => (⟨#[c]⟩ : Str)).map fun x => x.length).sum = cs.length := fun cs => by
        induction cs with
        | nil => rfl
        | cons c r ih => rw [List.map_cons, List.map_cons, List.sum_cons, ih]; show 1 + _ = _; simp; omega
      rw [this, List.length_map, show (Str.ofString "").length = 0 by decide]; omega
    refine ⟨h, l, 60, rfl, hh2, by decide, by decide, fun f0 M3 f1 f2 hh3 e3 => ?_⟩
    refine ⟨(show 5 ≤ sizeLine by decide), h, l, _, rfl, hh3, .inr ⟨_, .inr rfl, by decide, by decide, fun t0 M4 ht0 hh4 e4 => ?_⟩⟩
    obtain ⟨t, rfl, ht⟩ : ∃ t : Nat, t0 = .int (t : Int) ∧ t ∈ [1, 7, 11, 13, 59] := by
      simp only [List.mem_cons, List.not_mem_nil, or_false] at ht0
      rcases ht0 with rfl | rfl | rfl | rfl | rfl
      · exact ⟨1, rfl, by decide⟩
      · exact ⟨7, rfl, by decide⟩
      · exact ⟨11, rfl, by decide⟩
      · exact ⟨13, rfl, by decide⟩
      · exact ⟨59, rfl, by decide⟩
    obtain ⟨f, rfl⟩ : ∃ f : Nat, f0 = (f : Int) := ⟨f0.toNat, by omega⟩
    have e04 : Ext h l M M4 := ((e2.trans e3).trans e4)
    refine ⟨Nat.zero_le _, fun p hp => ?_⟩
    have nph : p ≠ h := fun z => by obtain ⟨_, _, q, _⟩ := hh4; rw [z, q] at hp; cases hp
    have npl : p ≠ l := fun z => by obtain ⟨_, _, _, q, _⟩ := hh4; rw [z, q] at hp; cases hp
    have hpM : M p = none := by
      cases q : M p with
      | none => rfl
      | some c => rw [e04 p c nph npl q] at hp; cases hp
    refine ⟨by decide, ?_⟩
    refine loop_inv (fun its Γ M' => ∃ j, its = (rng 0 60).drop j ∧ j ≤ 60 ∧ Hnd M' h l ∧ Ext h l M M' ∧ M' p = some (.lst (((List.range j).map fun k => nmS cs (spot f t k)).map D.str)) ∧
      ∃ x2 x6 x7, Γ = [some (.cel h), some (.str ⟨cs.toArray⟩), x2, some (.int f), some (.int t), some (.cel p), x6, x7]) (fun _ _ _ _ => trivial) ?_ ?_ _ _ _
      ⟨0, rfl, by decide, ?_, ?_, setM_same, _, _, _, rfl⟩
    · rintro Γ M5 ⟨j, e5, hj60, hh5, x5, hp5, x2, x6, x7, rfl⟩
      have hj : 60 ≤ j := by
        have := congrArg List.length e5
        rw [List.length_drop, show (rng 0 60).length = 60 by simp [rng]] at this
        simp at this; omega
      have hn60 : j = 60 := by omega
      subst hn60
      have ns0 : NamesOk ((List.range 60).map fun k => nmS cs (spot f t k)) := start_ok ht hl6 hcs
      generalize ((List.range 60).map fun k => nmS cs (spot f t k)) = ns at ns0 hp5
      simp only [wNext, wSeq, wBreak, wContinue, wExpr, wRet, wRetN, wIfS, wSet, wAsg, wPar, wPar3, wFor, wSub, wTst, wOp, wChain, wNotT, wAndT, wOrT, wAndV, wOrV, wNotV, wIf, wNil, wCons, wTup, wLst, wLstM, wCall, wCall0, wVar, wC, wLc, wLcM, wYes, wiL, wiT, wiS, wiR, wiEnT, wiEnL, wiZip, wSl, woNone, woSome, wMt, wJoin, wGet, wUn, wTru, wDNew, fin, List.getElem?_cons_zero, List.getElem?_cons_succ, List.set_cons_zero, List.set_cons_succ]
      refine ⟨(show 8 ≤ sizeLine by decide), ?_⟩
      refine loop_inv (fun its Γ M' => (∀ d ∈ its, ∃ s, d = D.str s ∧ isNm s = true) ∧ ∃ ns, NamesOk ns ∧ Hnd M' h l ∧ Ext h l M M' ∧ M' p = some (.lst (ns.map D.str)) ∧
        ∃ x7, Γ = [some (.cel h), some (.str ⟨cs.toArray⟩), x2, some (.int f), some (.int t), some (.cel p), x6, x7]) (fun _ _ _ _ => trivial) ?_ ?_ _ _ _
        ⟨?_, ns, ns0, hh5, x5, hp5, _, rfl⟩
      · rintro Γ M6 ⟨_, ns, ok, hh6, x6', hp6, x7, rfl⟩
        simp only [wNext, wSeq, wBreak, wContinue, wExpr, wRet, wRetN, wIfS, wSet, wAsg, wPar, wPar3, wFor, wSub, wTst, wOp, wChain, wNotT, wAndT, wOrT, wAndV, wOrV, wNotV, wIf, wNil, wCons, wTup, wLst, wLstM, wCall, wCall0, wVar, wC, wLc, wLcM, wYes, wiL, wiT, wiS, wiR, wiEnT, wiEnL, wiZip, wSl, woNone, woSome, wMt, wJoin, wGet, wUn, wTru, wDNew, fin, List.getElem?_cons_zero, List.getElem?_cons_succ, List.set_cons_zero, List.set_cons_succ]
        exact hk p M6 ns ok hp6 nph npl hpM hh6 x6'
      · rintro d ds Γ M6 ⟨hd, ns, ok, hh6, x6', hp6, x7, rfl⟩
        obtain ⟨s, rfl, hs⟩ := hd d List.mem_cons_self
        have hd' := fun d hq => hd d (List.mem_cons_of_mem _ hq)
        refine ⟨_, rfl, fun k' q1 q2 q3 q4 => ?_⟩
        simp only [wNext, wSeq, wBreak, wContinue, wExpr, wRet, wRetN, wIfS, wSet, wAsg, wPar, wPar3, wFor, wSub, wTst, wOp, wChain, wNotT, wAndT, wOrT, wAndV, wOrV, wNotV, wIf, wNil, wCons, wTup, wLst, wLstM, wCall, wCall0, wVar, wC, wLc, wLcM, wYes, wiL, wiT, wiS, wiR, wiEnT, wiEnL, wiZip, wSl, woNone, woSome, wMt, wJoin, wGet, wUn, wTru, wDNew, fin, List.getElem?_cons_zero, List.getElem?_cons_succ, List.set_cons_zero, List.set_cons_succ]
        refine ⟨h, l, 4, rfl, hh6, by decide, by decide, fun r M7 r0 r1 hh7 e7 => ?_⟩
        have hp7 := e7 p _ nph npl hp6
        by_cases er : r = 0
        · subst er
          refine eq_intT (tt ?_)
          refine r_ninC hp7 (bb (fun hb => ?_) (fun hb => ?_))
          · have hb' : ¬ s ∈ ns := by simpa using hb
            refine ⟨h, l, 60, rfl, hh7, by decide, by decide, fun j M8 j0 j1 hh8 e8 => ?_⟩
            have hp8 := e8 p _ nph npl hp7
            obtain ⟨jn, rfl⟩ : ∃ jn : Nat, j = (jn : Int) := ⟨j.toNat, by omega⟩
            refine r_st hp8 (ix_nat (by rw [List.length_map, ok.1]; omega)) ?_
            refine q3 _ _ ⟨hd', ns.set jn s, ok.set hs hb' jn, hh8.set nph npl, fun a c na nb e => ?_, ?_, _, rfl⟩
            · rw [setM_ne (neM e hpM)]; exact e8 a c na nb (e7 a c na nb (x6' a c na nb e))
            · rw [setM_same, List.map_set]
          · exact q3 _ _ ⟨hd', ns, ok, hh7, x6'.trans e7, hp7, _, rfl⟩
        · refine eq_intF er (ff (ff ?_))
          exact q3 _ _ ⟨hd', ns, ok, hh7, x6'.trans e7, hp7, _, rfl⟩
      · intro d hd
        simp only [List.mem_cons, List.not_mem_nil, or_false] at hd
        rcases hd with rfl | rfl | rfl | rfl | rfl | rfl | rfl | rfl <;> exact ⟨_, rfl, by decide⟩
    · rintro d ds Γ M5 ⟨j, e5, hj60, hh5, x5, hp5, x2, x6, x7, rfl⟩
      obtain ⟨hj, rfl, rfl⟩ := rng_drop e5
      refine ⟨_, rfl, fun k' q1 q2 q3 q4 => ?_⟩
      simp only [wNext, wSeq, wBreak, wContinue, wExpr, wRet, wRetN, wIfS, wSet, wAsg, wPar, wPar3, wFor, wSub, wTst, wOp, wChain, wNotT, wAndT, wOrT, wAndV, wOrV, wNotV, wIf, wNil, wCons, wTup, wLst, wLstM, wCall, wCall0, wVar, wC, wLc, wLcM, wYes, wiL, wiT, wiS, wiR, wiEnT, wiEnL, wiZip, wSl, woNone, woSome, wMt, wJoin, wGet, wUn, wTru, wDNew, fin, List.getElem?_cons_zero, List.getElem?_cons_succ, List.set_cons_zero, List.set_cons_succ]
      refine r_mul (.inl ⟨by omega, ?_⟩) (r_add (r_mod (by decide) ?_))
      · simp only [List.mem_cons, List.not_mem_nil, or_false] at ht
        rcases ht with rfl | rfl | rfl | rfl | rfl <;> decide
      have es : ((f : Int) + (t : Int) * ((j : Nat) : Int)) % 60 = ((spot f t j : Nat) : Int) := by unfold spot; omega
      rw [es]
      have hs : spot f t j < 60 := by unfold spot; omega
      refine ⟨isC hp5, ?_⟩
      refine r_mod (by decide) ?_
      rw [show ((spot f t j : Nat) : Int) % 26 = ((spot f t j % 26 : Nat) : Int) by omega]
      refine ix_str (by decide) (alph_at _ (by omega)) ?_
      refine ⟨(show 3 ≤ sizeLine by decide), r_div (by decide) (by decide) ?_⟩
      rw [show ((spot f t j : Nat) : Int) / 26 = ((spot f t j / 26 : Nat) : Int) by omega]
      refine ix_lst (mid_at _ (by omega)) ?_
      have hm := nmS_len cs (spot f t j / 26) hl6
      refine r_addS (z1 ?_) (r_addS (z1 ?_) ?_)
      · show 1 + _ ≤ _; omega
      · rw [Str.length_append]; show 1 + _ + cs.toArray.size ≤ _; simp; omega
      rw [nm_glue]
      refine r_app hp5 (z2 (by simp; omega)) ?_
      refine q3 _ _ ⟨j + 1, rfl, hj, ?_, ?_, ?_, _, _, _, rfl⟩
      · exact hh5.set nph npl
      · exact fun a c na nb e => by rw [setM_ne (neM e hpM)]; exact x5 a c na nb e
      · rw [setM_same, List.range_succ]; simp
    · exact hh4.set nph npl
    · exact fun a c na nb e => by rw [setM_ne (neM e hpM)]; exact e04 a c na nb e
  · rintro d ds acc M2 ⟨hh2, e2, ⟨cs, rfl, hcs⟩, hl⟩
    refine ⟨_, rfl, fun ky kn k1 k2 => ?_⟩
    simp only [wNext, wSeq, wBreak, wContinue, wExpr, wRet, wRetN, wIfS, wSet, wAsg, wPar, wPar3, wFor, wSub, wTst, wOp, wChain, wNotT, wAndT, wOrT, wAndV, wOrV, wNotV, wIf, wNil, wCons, wTup, wLst, wLstM, wCall, wCall0, wVar, wC, wLc, wLcM, wYes, wiL, wiT, wiS, wiR, wiEnT, wiEnL, wiZip, wSl, woNone, woSome, wMt, wJoin, wGet, wUn, wTru, wDNew, fin, List.getElem?_cons_zero, List.getElem?_cons_succ, List.set_cons_zero, List.set_cons_succ, wipeD, List.map, if_true]
    refine ⟨h, l, _, rfl, hh2, .inl ⟨_, rfl, by decide, by decide, fun c M3 hc hh3 e3 => ?_⟩⟩
    simp only [List.length_map, List.length_cons] at hl
    refine k1 _ _ (z2 (by simp; omega)) ⟨hh3, e2.trans e3, ⟨cs ++ [c], by simp, fun c' hc' => ?_⟩, by simp; omega⟩
    rcases List.mem_append.mp hc' with z | z
    · exact hcs c' z
    · rw [List.mem_singleton.mp z]; exact alpha_ok c hc
end
end K04

set_option autoImplicit false
set_option maxRecDepth 100000
set_option maxHeartbeats 4000000
namespace K04
open PySem L2 DL
section
variable {P : Program} {w : World} {K : PySem.W.Frag} {mg : Str → Option Value} {base : Heap}
abbrev Cols := List (Str × Str)
def colD (c : Str × Str) : D := .tup [.str c.1, .str c.2]
def colsD (cs : Cols) : D := .tup (cs.map colD)
def tabD (t : Str × Cols) : D := .tup [.str t.1, colsD t.2]
def Kd (s : Str) : Prop := s = Str.ofString "number" ∨ s = Str.ofString "name"
structure ColsOk (size : Nat) (cs : Cols) : Prop where
  ne : cs ≠ []
  le : cs.length ≤ size
  nd : (cs.map (·.1)).Nodup
  nm : ∀ c ∈ cs, isNm c.1 = true
  kd : ∀ c ∈ cs, Kd c.2
structure PlanOk (size : Nat) (ts : List (Str × Cols)) : Prop where
  ne : ts ≠ []
  le : ts.length ≤ 60
  nd : (ts.map (·.1)).Nodup
  up : PyProof.Rows.sortedS (ts.map (·.1)) = true
  nm : ∀ t ∈ ts, isNm t.1 = true
  ok : ∀ t ∈ ts, ColsOk size t.2
def F_plan : FD := fun ds M k => ∃ h l many size, ds = [.cel h, .int (many : Nat), .int (size : Nat)] ∧ Hnd M h l ∧ 1 ≤ many ∧ 1 ≤ size ∧ many * (size + 1) ≤ 60 ∧
  ∀ ts M', PlanOk size ts → ts.length ≤ many → Hnd M' h l → Ext h l M M' → k (.tup (ts.map tabD)) M'
/-! dicts of tables -/
def enc (t : Str × Cols) : Key × D := (.inr t.1, colsD t.2)
theorem put_enc (ts : List (Str × Cols)) (n : Str) (cs : Cols) : ∃ ts', putD (ts.map enc) (.inr n) (colsD cs) = ts'.map enc ∧ ((ts.map (·.1)).Nodup → (ts'.map (·.1)).Nodup) ∧ (∀ t ∈ ts', t ∈ ts ∨ t = (n, cs)) ∧ ts' ≠ [] ∧ ts'.length ≤ ts.length + 1 := by
  unfold putD
  by_cases h : ((ts.map enc).any fun kv => decide (kv.1 = Sum.inr n)) = true
  · rw [if_pos h]
    refine ⟨ts.map fun t => if t.1 = n then (t.1, cs) else t, ?_, fun hn => ?_, fun t ht => ?_, ?_, by simp⟩
    · rw [List.map_map, List.map_map]
      refine List.map_congr_left fun t _ => ?_
      simp only [Function.comp, enc]
      by_cases e : t.1 = n
      · simp [e]
      · have e' : ¬ (Sum.inr t.1 : Key) = Sum.inr n := fun z => e (Sum.inr.inj z)
        simp [e, e']
    · rw [List.map_map]
      have : ((fun t : Str × Cols => t.1) ∘ fun t => if t.1 = n then (t.1, cs) else t) = fun t => t.1 := by
        funext t
        simp only [Function.comp]
        split <;> rfl
      rw [this]; exact hn
    · obtain ⟨u, hu, rfl⟩ := List.mem_map.mp ht
      by_cases e : u.1 = n
      · right; simp [e]
      · left; simp [e, hu]
    · intro z
      have : ts = [] := by simpa using z
      subst this
      simp at h
  · rw [if_neg h]
    refine ⟨ts ++ [(n, cs)], by simp [enc], fun hn => ?_, fun t ht => ?_, by simp, by simp⟩
    · rw [List.map_append]
      refine List.nodup_append.mpr ⟨hn, by simp, fun a ha b hb => ?_⟩
      simp only [List.map_cons, List.map_nil, List.mem_singleton] at hb
      subst hb
      rintro rfl
      refine h (List.any_eq_true.mpr ?_)
      obtain ⟨u, hu, rfl⟩ := List.mem_map.mp ha
      exact ⟨enc u, List.mem_map.mpr ⟨u, hu, rfl⟩, by simp [enc]⟩
    · rcases List.mem_append.mp ht with z | z
      · exact .inl z
      · exact .inr (List.mem_singleton.mp z)
theorem merge_enc : ∀ (l ts : List (Str × Cols)), (ts.map (·.1)).Nodup → ∃ ts', mergeD (ts.map enc) (l.map enc) = ts'.map enc ∧ (ts'.map (·.1)).Nodup ∧ (∀ t ∈ ts', t ∈ ts ∨ t ∈ l) ∧ (l ≠ [] ∨ ts ≠ [] → ts' ≠ []) ∧ ts'.length ≤ ts.length + l.length
  | [], ts, h => ⟨ts, rfl, h, fun t ht => .inl ht, fun z => by rcases z with z | z <;> simp_all, by simp⟩
  | (n, cs) :: l, ts, h => by
    obtain ⟨t1, e1, h1, m1, n1, l1⟩ := put_enc ts n cs
    obtain ⟨t2, e2, h2, m2, n2, l2⟩ := merge_enc l t1 (h1 h)
    refine ⟨t2, ?_, h2, fun t ht => ?_, fun _ => n2 (.inr n1), by simp only [List.length_cons]; omega⟩
    · rw [← e2, ← e1]; rfl
    · rcases m2 t ht with z | z
      · rcases m1 t z with z | z
        · exact .inl z
        · exact .inr (z ▸ List.mem_cons_self)
      · exact .inr (List.mem_cons_of_mem _ z)
theorem txt_enc (ts : List (Str × Cols)) : txtKeys (ts.map enc) = some (ts.map (·.1)) := by
  induction ts with
  | nil => rfl
  | cons t r ih => rw [List.map_cons, List.map_cons]; unfold enc txtKeys; rw [show (fun t : Str × Cols => ((Sum.inr t.1 : Key), colsD t.2)) = enc from rfl, ih]
theorem look_enc {ts : List (Str × Cols)} {n : Str} (h : n ∈ ts.map (·.1)) : ∃ cs, lookD (ts.map enc) (.inr n) = some (colsD cs) ∧ (n, cs) ∈ ts := by
  induction ts with
  | nil => cases h
  | cons t r ih =>
    rw [List.map_cons]
    unfold lookD
    rw [List.find?_cons]
    by_cases e : t.1 = n
    · refine ⟨t.2, by simp [enc, e], ?_⟩
      rw [← e]; exact List.mem_cons_self
    · rcases List.mem_cons.mp h with z | z
      · exact absurd z.symm e
      · obtain ⟨cs, h1, h2⟩ := ih z
        have e' : ¬ (Sum.inr t.1 : Key) = Sum.inr n := fun z => e (Sum.inr.inj z)
        refine ⟨cs, ?_, List.mem_cons_of_mem _ h2⟩
        simp only [enc, e', decide_false]
        exact h1
theorem pairs_enc (ts : List (Str × Cols)) : pairsD (ts.map tabD) = some (ts.map enc) := by
  induction ts with
  | nil => rfl
  | cons t r ih => rw [List.map_cons, List.map_cons]; unfold tabD pairsD keyD; rw [show (fun t : Str × Cols => D.tup [D.str t.1, colsD t.2]) = tabD from rfl, ih]; rfl
def tabsOf (tn : List Str) (cells : List (Addr × Cols)) : List (Str × Cols) := List.zipWith (fun n c => (n, c.2)) tn cells
def itemF (M : Mem) : D → D
  | .tup [.str n, .cel a] => .tup [.str n, match M a with | some (.lst ds) => .tup ds | _ => .non]
  | d => d
theorem items_tabs (M : Mem) : ∀ (tn : List Str) (cells : List (Addr × Cols)), (∀ c ∈ cells, M c.1 = some (.lst (c.2.map colD))) → (zipD (tn.map D.str) (cells.map fun c => D.cel c.1)).map (itemF M) = (tabsOf tn cells).map tabD
  | [], _, _ => by simp [zipD, tabsOf]
  | _ :: _, [], _ => by simp [zipD, tabsOf]
  | n :: tn, c :: cells, h => by
    have ih := items_tabs M tn cells fun d hd => h d (List.mem_cons_of_mem _ hd)
    unfold zipD tabsOf at ih ⊢
    simp only [List.map_cons, List.zipWith_cons_cons, ih]
    congr 1
    simp only [itemF, h c List.mem_cons_self]
    rfl
theorem items_mem {tn : List Str} {cells : List (Addr × Cols)} {d : D} (h : d ∈ zipD (tn.map D.str) (cells.map fun c => D.cel c.1)) : ∃ n c, d = .tup [.str n, .cel c.1] ∧ c ∈ cells := by
  obtain ⟨i, hi⟩ := List.mem_iff_getElem?.mp h
  obtain ⟨x, y, h1, h2, rfl⟩ := zipD_get hi
  rw [List.getElem?_map] at h1 h2
  cases q1 : tn[i]? with
  | none => rw [q1] at h1; cases h1
  | some n =>
    cases q2 : cells[i]? with
    | none => rw [q2] at h2; cases h2
    | some c =>
      rw [q1] at h1; rw [q2] at h2
      cases h1; cases h2
      exact ⟨n, c, rfl, List.mem_of_getElem? q2⟩
theorem tabsOf_mem {tn : List Str} {cells : List (Addr × Cols)} {t : Str × Cols} (h : t ∈ tabsOf tn cells) : t.1 ∈ tn ∧ ∃ c ∈ cells, c.2 = t.2 := by
  unfold tabsOf at h
  obtain ⟨i, hi⟩ := List.mem_iff_getElem?.mp h
  rw [List.getElem?_zipWith] at hi
  cases q1 : tn[i]? with
  | none => rw [q1] at hi; cases hi
  | some n =>
    cases q2 : cells[i]? with
    | none => rw [q1, q2] at hi; cases hi
    | some c =>
      rw [q1, q2] at hi; cases hi
      exact ⟨List.mem_of_getElem? q1, c, List.mem_of_getElem? q2, rfl⟩
def getF (ts : List (Str × Cols)) : D → D
  | .str n => .tup [.str n, (lookD (ts.map enc) (.inr n)).getD .non]
  | d => d
theorem gets_tabs (ts : List (Str × Cols)) : ∀ ys : List Str, (∀ n ∈ ys, n ∈ ts.map (·.1)) → ∃ t2 : List (Str × Cols), (ys.map D.str).map (getF ts) = t2.map tabD ∧ t2.map (·.1) = ys ∧ ∀ t ∈ t2, t ∈ ts
  | [], _ => ⟨[], rfl, rfl, fun t ht => by cases ht⟩
  | n :: ys, h => by
    obtain ⟨t2, e1, e2, e3⟩ := gets_tabs ts ys fun m hm => h m (List.mem_cons_of_mem _ hm)
    obtain ⟨cs, h1, h2⟩ := look_enc (h n List.mem_cons_self)
    refine ⟨(n, cs) :: t2, ?_, by simp [e2], fun t ht => ?_⟩
    · simp only [List.map_cons, e1, getF, h1]
      rfl
    · rcases List.mem_cons.mp ht with z | z
      · rw [z]; exact h2
      · exact e3 t z
structure Plc (h l p q r : Addr) (M : Mem) : Prop where
  ph : p ≠ h
  pl : p ≠ l
  qh : q ≠ h
  ql : q ≠ l
  rh : r ≠ h
  rl : r ≠ l
  qp : q ≠ p
  rp : r ≠ p
  rq : r ≠ q
  mp : M p = none
  mq : M q = none
  mr : M r = none
def Away (h l p q r c : Addr) : Prop := c ≠ h ∧ c ≠ l ∧ c ≠ p ∧ c ≠ q ∧ c ≠ r
structure PS (h l p q r : Addr) (size : Nat) (M M' : Mem) (j : Nat) (rest tn : List Str) (cells : List (Addr × Cols)) : Prop where
  hh : Hnd M' h l
  ex : Ext h l M M'
  np : M' p = some (.lst (rest.map D.str))
  nq : M' q = some (.lst (tn.map D.str))
  nr : M' r = some (.lst (cells.map fun c => D.cel c.1))
  cl : ∀ c ∈ cells, M' c.1 = some (.lst (c.2.map colD)) ∧ Away h l p q r c.1 ∧ ColsOk size c.2
  tl : tn.length = j
  ll : cells.length = j
  tm : ∀ s ∈ tn, isNm s = true
  nd : rest.Nodup
  nm : ∀ s ∈ rest, isNm s = true
  hd : ∀ c ∈ cells.head?, ∀ t ∈ c.2.head?, ¬ t.1 ∈ rest
section
variable {h l p q r c : Addr} {size j : Nat} {M M1 M2 : Mem} {rest tn : List Str} {cells : List (Addr × Cols)}
theorem PS.hand (s : PS h l p q r size M M1 j rest tn cells) (g : Plc h l p q r M) (hh : Hnd M2 h l) (e : Ext h l M1 M2) : PS h l p q r size M M2 j rest tn cells :=
  { s with hh := hh, ex := s.ex.trans e, np := e p _ g.ph g.pl s.np, nq := e q _ g.qh g.ql s.nq, nr := e r _ g.rh g.rl s.nr, cl := fun c hc => let ⟨a, b, d⟩ := s.cl c hc; ⟨e _ _ b.1 b.2.1 a, b, d⟩ }
theorem PS.other (s : PS h l p q r size M M1 j rest tn cells) (x : Cell) (a : Away h l p q r c) (hm : M c = none) (hc : ∀ d ∈ cells, d.1 ≠ c) : PS h l p q r size M (setM M1 c x) j rest tn cells :=
  { s with
    hh := s.hh.set a.1 a.2.1
    ex := fun b y n1 n2 e => by rw [setM_ne (neM e hm)]; exact s.ex b y n1 n2 e
    np := by rw [setM_ne (Ne.symm a.2.2.1)]; exact s.np
    nq := by rw [setM_ne (Ne.symm a.2.2.2.1)]; exact s.nq
    nr := by rw [setM_ne (Ne.symm a.2.2.2.2)]; exact s.nr
    cl := fun d hd => by rw [setM_ne (hc d hd)]; exact s.cl d hd }
theorem PS.pop {x : Str} (s : PS h l p q r size M M1 j (rest ++ [x]) tn cells) (g : Plc h l p q r M) : PS h l p q r size M (setM M1 p (.lst (rest.map D.str))) j rest tn cells :=
  { s with
    hh := s.hh.set g.ph g.pl
    ex := fun b y n1 n2 e => by rw [setM_ne (neM e g.mp)]; exact s.ex b y n1 n2 e
    np := setM_same
    nq := by rw [setM_ne g.qp]; exact s.nq
    nr := by rw [setM_ne g.rp]; exact s.nr
    cl := fun d hd => by rw [setM_ne (s.cl d hd).2.1.2.2.1]; exact s.cl d hd
    nd := (List.nodup_append.mp s.nd).1
    nm := fun y hy => s.nm y (List.mem_append_left _ hy)
    hd := fun c hc t ht z => s.hd c hc t ht (List.mem_append_left _ z) }
theorem PS.away (s : PS h l p q r size M M1 j rest tn cells) (hc : M1 c = none) : Away h l p q r c ∧ M c = none ∧ ∀ d ∈ cells, d.1 ≠ c := by
  have a : Away h l p q r c := by
    obtain ⟨_, _, h1, h2, _⟩ := s.hh
    exact ⟨Ne.symm (neM h1 hc), Ne.symm (neM h2 hc), Ne.symm (neM s.np hc), Ne.symm (neM s.nq hc), Ne.symm (neM s.nr hc)⟩
  refine ⟨a, ?_, fun d hd => neM (s.cl d hd).1 hc⟩
  cases e : M c with
  | none => rfl
  | some y => rw [s.ex c y a.1 a.2.1 e] at hc; cases hc
end
theorem ok_plan {f f1 f2 f3 : Addr} {fd fd1 fd2 fd3 : FuncData} (T : Txt K mg) (d_law_pick : Def K mg "_law_pick" s_law_pick p_law_pick f1 fd1) (d_law_of : Def K mg "_law_of" s_law_of p_law_of f2 fd2) (d_law_names : Def K mg "_law_names" s_law_names p_law_names f3 fd3)
    (d_law_plan : Def K mg "_law_plan" s_law_plan p_law_plan f fd) : DFn P w K mg base 4 f fd p_law_plan F_plan := by
  have G_law_pick : DFn P w K mg base 1 f1 fd1 p_law_pick F_pick := ok_pick T d_law_pick
  have G_law_of : DFn P w K mg base 2 f2 fd2 p_law_of F_of := ok_of T d_law_pick d_law_of
  have G_law_names : DFn P w K mg base 3 f3 fd3 p_law_names F_names := ok_names T d_law_pick d_law_of d_law_names
  refine Fun.okD d_law_plan.F sc_law_plan (fun cdv A outer s H E hr => (dss_cons (ds_par3 (i := 3) (j := 4) (l := 5) rfl sc_law_plan.nd (da_cons (de_own d_law_names G_law_names hr (by first | decide | omega) (da_cons (dv 0) da_nil)) (da_cons (de_lstM da_nil) (da_cons (de_lstM da_nil) da_nil))) rfl rfl rfl (by decide) (by decide) (by decide) rfl rfl rfl (by rfl)) (dss_cons (ds_for rfl (di_range T.b_range (da_cons (de_add de_int (de_own d_law_pick G_law_pick hr (by first | decide | omega) (da_cons (dv 0) (da_cons (dv 1) da_nil)))) da_nil)) (dg_name (i := 6) sc_law_plan.nd) (dss_cons (ds_set (i := 7) sc_law_plan.nd (de_lstM da_nil)) (dss_cons (ds_for rfl (di_range T.b_range (da_cons (de_add de_int (de_own d_law_pick G_law_pick hr (by first | decide | omega) (da_cons (dv 0) (da_cons (dv 2) da_nil)))) da_nil)) (dg_name (i := 8) sc_law_plan.nd) (dss_one (ds_expr (de_append (dv 7) (de_tup (da_cons (de_pop (dv 3)) (da_cons (de_own d_law_of G_law_of hr (by first | decide | omega) (da_cons (dv 0) (da_cons (de_lst (da_cons de_str (da_cons de_str (da_cons de_str da_nil)))) da_nil))) da_nil))))))) (dss_cons (ds_if (dw_pt (dw_and (dt_cmpA c_gt (dv 6) de_int) (dw_and1 (dt_cmpA (c_eq hr) (de_own d_law_pick G_law_pick hr (by first | decide | omega) (da_cons (dv 0) (da_cons de_int da_nil))) de_int)))) (dss_one (ds_sub (dv 7) (de_neg de_int) (de_tup (da_cons (de_ix (de_ix (de_ix (dv 5) de_int) de_int) de_int) (da_cons (de_ix (de_ix (dv 7) (de_neg de_int)) de_int) da_nil))))) dss_nil) (dss_cons (ds_expr (de_append (dv 5) (dv 7))) (dss_one (ds_expr (de_append (dv 4) (de_if (dt_cmpA c_gt (de_own d_law_pick G_law_pick hr (by first | decide | omega) (da_cons (dv 0) (da_cons de_int da_nil))) de_int) (de_pop (dv 3)) (de_ix (de_ix (dv 7) de_int) de_int)))))))))) (dss_cons (ds_set (i := 9) sc_law_plan.nd (de_dict rfl T.b_dict (de_lc rfl sc_law_plan.nd (di_zip T.b_zip (da_cons (dv 4) (da_cons (dv 5) da_nil))) (blkOk_by (own := [("name", 10), ("columns", 7)]) (N := N_law_plan) (sc := defScope s_law_plan) (by decide +kernel)) (fun _ _ _ _ _ => (dg_tup rfl (dgs_cons (dg_name (i := 10) sc_law_plan.nd) (dgs_cons (dg_name (i := 7) sc_law_plan.nd) dgs_nil)) (gsCons_len (gsCons_len gsNil_len)))) (gd_tup (gds_cons gd_name (gds_cons gd_name gds_nil)) (gsCons_len (gsCons_len gsNil_len))) (fun _ _ _ _ _ => dts_nil) (fun _ _ _ _ _ => (de_tup (da_cons (dv 10) (da_cons (de_tuple T.b_tuple (dv 7)) da_nil))))))) (dss_one (ds_ret (de_tuple T.b_tuple (de_lc rfl sc_law_plan.nd (di_list (de_sortD rfl T.b_sorted (dv 9))) (blkOk_by (own := [("name", 10)]) (N := N_law_plan) (sc := defScope s_law_plan) (by decide +kernel)) (fun _ _ _ _ _ => (dg_name (i := 10) sc_law_plan.nd)) gd_name (fun _ _ _ _ _ => dts_nil) (fun _ _ _ _ _ => (de_tup (da_cons (dv 10) (da_cons (de_get (hu_of hr.r) (dv 9) (dv 10)) da_nil)))))))))))) (fun ds M k h => ?_)
  obtain ⟨h, l, many, size, rfl, hh, m1, s1, ms, hk⟩ := h
  refine ⟨rfl, ?_⟩
  rw [show startD N_law_plan [.cel h, .int (many : Nat), .int (size : Nat)] = [some (.cel h), some (.int (many : Nat)), some (.int (size : Nat)), none, none, none, none, none, none, none, none] from rfl]
  simp only [wNext, wSeq, wBreak, wContinue, wExpr, wRet, wRetN, wIfS, wSet, wAsg, wPar, wPar3, wFor, wSub, wTst, wOp, wChain, wNotT, wAndT, wOrT, wAndV, wOrV, wNotV, wIf, wNil, wCons, wTup, wLst, wLstM, wCall, wCall0, wVar, wC, wLc, wLcM, wYes, wiL, wiT, wiS, wiR, wiEnT, wiEnL, wiZip, wSl, woNone, woSome, wMt, wJoin, wGet, wUn, wTru, wDNew, fin, List.getElem?_cons_zero, List.getElem?_cons_succ, List.set_cons_zero, List.set_cons_succ]
  refine ⟨h, l, rfl, hh, fun p M1 ns ok hp nph npl hpM hh1 e1 => ?_⟩
  refine ⟨Nat.zero_le _, fun q hq => ⟨Nat.zero_le _, fun r hr => ?_⟩⟩
  have mb : many ≤ 60 := Nat.le_trans (Nat.le_mul_of_pos_right _ (by omega)) ms
  have sb : size + 1 ≤ 60 := Nat.le_trans (Nat.le_mul_of_pos_left _ (by omega)) ms
  have nqp : q ≠ p := Ne.symm (neM hp hq)
  have nqh : q ≠ h := by obtain ⟨_, _, z, _⟩ := hh1; exact Ne.symm (neM z hq)
  have nql : q ≠ l := by obtain ⟨_, _, _, z, _⟩ := hh1; exact Ne.symm (neM z hq)
  have nrq : r ≠ q := fun z => by rw [z, setM_same] at hr; cases hr
  have hr' : M1 r = none := by rw [setM_ne nrq] at hr; exact hr
  have nrp : r ≠ p := Ne.symm (neM hp hr')
  have nrh : r ≠ h := by obtain ⟨_, _, z, _⟩ := hh1; exact Ne.symm (neM z hr')
  have nrl : r ≠ l := by obtain ⟨_, _, _, z, _⟩ := hh1; exact Ne.symm (neM z hr')
  have back : ∀ c, c ≠ h → c ≠ l → M1 c = none → M c = none := fun c n1 n2 e => by
    cases z : M c with
    | none => rfl
    | some y => rw [e1 c y n1 n2 z] at e; cases e
  have g : Plc h l p q r M := ⟨nph, npl, nqh, nql, nrh, nrl, nqp, nrp, nrq, hpM, back q nqh nql hq, back r nrh nrl hr'⟩
  have s0 : PS h l p q r size M (setM (setM M1 q (.lst [])) r (.lst [])) 0 ns [] [] :=
    { hh := (hh1.set nqh nql).set nrh nrl
      ex := fun a c na nb e => by rw [setM_ne (neM e g.mr), setM_ne (neM e g.mq)]; exact e1 a c na nb e
      np := by rw [setM_ne (Ne.symm nrp), setM_ne (Ne.symm nqp)]; exact hp
      nq := by rw [setM_ne (Ne.symm nrq), setM_same]; rfl
      nr := by rw [setM_same]; rfl
      cl := fun c hc => by cases hc
      tl := rfl
      ll := rfl
      tm := fun s hs => by cases hs
      nd := ok.2.1
      nm := ok.2.2
      hd := fun c hc => by cases hc }
  generalize setM (setM M1 q (.lst [])) r (.lst []) = M2 at s0
  refine ⟨h, l, _, rfl, s0.hh, by omega, by omega, fun r1 M3 a0 a1 hh3 e3 => r_add ⟨⟨by omega, by omega⟩, ?_⟩⟩
  have s3 := s0.hand g hh3 e3
  have hrn : (1 + r1).toNat ≤ many := by omega
  have hr1 : 1 ≤ (1 + r1).toNat := by omega
  generalize (1 + r1).toNat = J at hrn hr1
  refine loop_inv (fun its Γ M' => ∃ j rest tn cells, its = (rng 0 J).drop j ∧ j ≤ J ∧ PS h l p q r size M M' j rest tn cells ∧ 60 ≤ rest.length + j * (size + 1) ∧
    ∃ x6 x7 x8 x9 x10, Γ = [some (.cel h), some (.int (many : Nat)), some (.int (size : Nat)), some (.cel p), some (.cel q), some (.cel r), x6, x7, x8, x9, x10]) (fun _ _ _ _ => trivial) ?_ ?_ _ _ _
    ⟨0, ns, [], [], rfl, by omega, s3, by rw [ok.1]; omega, _, _, _, _, _, rfl⟩
  · rintro Γ M4 ⟨j, rest, tn, cells, e4, hj, s4, hl4, x6, x7, x8, x9, x10, rfl⟩
    have hj' : j = J := by
      have := congrArg List.length e4
      rw [List.length_drop, show (rng 0 J).length = J by simp [rng]] at this
      simp at this; omega
    subst hj'
    simp only [wNext, wSeq, wBreak, wContinue, wExpr, wRet, wRetN, wIfS, wSet, wAsg, wPar, wPar3, wFor, wSub, wTst, wOp, wChain, wNotT, wAndT, wOrT, wAndV, wOrV, wNotV, wIf, wNil, wCons, wTup, wLst, wLstM, wCall, wCall0, wVar, wC, wLc, wLcM, wYes, wiL, wiT, wiS, wiR, wiEnT, wiEnL, wiZip, wSl, woNone, woSome, wMt, wJoin, wGet, wUn, wTru, wDNew, fin, List.getElem?_cons_zero, List.getElem?_cons_succ, List.set_cons_zero, List.set_cons_succ]
    have aq : asR M4 (.cel q) = some (tn.map D.str) := by simp only [asR, s4.nq]
    have ar : asR M4 (.cel r) = some (cells.map fun c => D.cel c.1) := by simp only [asR, s4.nr]
    have ncl : cells.length ≤ 60 := by rw [s4.ll]; omega
    simp only [aq, ar]
    refine lc_map (itemF M4) (G := fun M => gAt (.cel q) (tn.map D.str) M ∧ gAt (.cel r) (cells.map fun c : Addr × Cols => D.cel c.1) M) (M := M4) ⟨aq, ar⟩ _ _ _ ?_ ?_ ?_
    · intro d hd
      obtain ⟨n, c, rfl, hc⟩ := items_mem hd
      obtain ⟨y0, y1, y2⟩ := s4.cl c hc
      refine ⟨_, rfl, fun k' hk' => ?_⟩
      simp only [wNext, wSeq, wBreak, wContinue, wExpr, wRet, wRetN, wIfS, wSet, wAsg, wPar, wPar3, wFor, wSub, wTst, wOp, wChain, wNotT, wAndT, wOrT, wAndV, wOrV, wNotV, wIf, wNil, wCons, wTup, wLst, wLstM, wCall, wCall0, wVar, wC, wLc, wLcM, wYes, wiL, wiT, wiS, wiR, wiEnT, wiEnL, wiZip, wSl, woNone, woSome, wMt, wJoin, wGet, wUn, wTru, wDNew, fin, List.getElem?_cons_zero, List.getElem?_cons_succ, List.set_cons_zero, List.set_cons_succ, wipeD, List.map]
      refine r_tupC y0 ⟨(show 2 ≤ sizeLine by decide), ?_⟩
      simp only [itemF, y0] at hk'
      exact hk'
    · rw [zipD_len]; exact z1 (by simp; omega)
    · rw [List.nil_append, items_tabs M4 tn cells fun c hc => (s4.cl c hc).1]
      have tl : (tabsOf tn cells).length = j := by unfold tabsOf; rw [List.length_zipWith, s4.tl, s4.ll]; omega
      obtain ⟨ts, em, hn, hmem, hne, hlen⟩ := merge_enc (tabsOf tn cells) [] (by simp)
      have hne := hne (.inl (fun z => by rw [z] at tl; simp at tl; omega))
      unfold rdDict
      simp only [asR, pairs_enc]
      intro c hc
      rw [show mergeD [] ((tabsOf tn cells).map enc) = ts.map enc from em]
      have hM5 : setM M4 c (.dct (ts.map enc)) c = some (.dct (ts.map enc)) := setM_same
      obtain ⟨ca, cM, cc⟩ := s4.away hc
      unfold rdSortD
      simp only [hM5, txt_enc]
      refine ⟨by simp only [List.length_map, List.length_nil] at hlen ⊢; omega, fun ys hperm hsort => ?_⟩
      have hys : ∀ n ∈ ys, n ∈ ts.map (·.1) := fun n hn => hperm.mem_iff.mp hn
      refine lc_map (getF ts) (G := gAt (.lst (ys.map D.str)) (ys.map D.str)) (M := setM M4 c (.dct (ts.map enc))) rfl _ _ _ ?_ ?_ ?_
      · intro d hd
        obtain ⟨n, hn, rfl⟩ := List.mem_map.mp hd
        obtain ⟨cs, h1, h2⟩ := look_enc (hys n hn)
        refine ⟨_, rfl, fun k' hk' => ?_⟩
        simp only [wNext, wSeq, wBreak, wContinue, wExpr, wRet, wRetN, wIfS, wSet, wAsg, wPar, wPar3, wFor, wSub, wTst, wOp, wChain, wNotT, wAndT, wOrT, wAndV, wOrV, wNotV, wIf, wNil, wCons, wTup, wLst, wLstM, wCall, wCall0, wVar, wC, wLc, wLcM, wYes, wiL, wiT, wiS, wiR, wiEnT, wiEnL, wiZip, wSl, woNone, woSome, wMt, wJoin, wGet, wUn, wTru, wDNew, fin, List.getElem?_cons_zero, List.getElem?_cons_succ, List.set_cons_zero, List.set_cons_succ, wipeD, List.map]
        refine r_get hM5 h1 ⟨(show 2 ≤ sizeLine by decide), ?_⟩
        simp only [getF, h1] at hk'
        exact hk'
      · have := hperm.length_eq
        refine z1 ?_
        simp only [List.length_map, List.length_nil] at this hlen ⊢
        omega
      · obtain ⟨t2, g1, g2, g3⟩ := gets_tabs ts ys hys
        rw [List.nil_append, g1]
        refine r_tupL ?_
        have l2 : t2.length = ts.length := by
          have := hperm.length_eq
          rw [← g2] at this
          simpa using this
        have okt : ∀ t ∈ t2, isNm t.1 = true ∧ ColsOk size t.2 := fun t ht => by
          rcases hmem t (g3 t ht) with z | z
          · cases z
          · obtain ⟨z1', c', hc', e'⟩ := tabsOf_mem z
            exact ⟨s4.tm _ z1', e' ▸ (s4.cl c' hc').2.2⟩
        refine hk t2 _ ⟨fun z => ?_, by simp only [List.length_nil] at hlen; omega, ?_, by rw [g2]; exact hsort, fun t ht => (okt t ht).1, fun t ht => (okt t ht).2⟩ (by simp only [List.length_nil] at hlen; omega) (s4.hh.set ca.1 ca.2.1) fun a y n1 n2 e => by rw [setM_ne (neM e cM)]; exact s4.ex a y n1 n2 e
        · rw [z] at l2
          simp at l2
          exact hne (List.length_eq_zero_iff.mp l2.symm)
        · rw [g2]; exact hperm.nodup_iff.mpr hn
  · rintro d ds Γ M4 ⟨j, rest, tn, cells, e4, hj, s4, hl4, x6, x7, x8, x9, x10, rfl⟩
    obtain ⟨hj, rfl, rfl⟩ := rng_drop e4
    refine ⟨_, rfl, fun k' q1 q2 q3 q4 => ?_⟩
    simp only [wNext, wSeq, wBreak, wContinue, wExpr, wRet, wRetN, wIfS, wSet, wAsg, wPar, wPar3, wFor, wSub, wTst, wOp, wChain, wNotT, wAndT, wOrT, wAndV, wOrV, wNotV, wIf, wNil, wCons, wTup, wLst, wLstM, wCall, wCall0, wVar, wC, wLc, wLcM, wYes, wiL, wiT, wiS, wiR, wiEnT, wiEnL, wiZip, wSl, woNone, woSome, wMt, wJoin, wGet, wUn, wTru, wDNew, fin, List.getElem?_cons_zero, List.getElem?_cons_succ, List.set_cons_zero, List.set_cons_succ]
    refine ⟨Nat.zero_le _, fun c hc => ?_⟩
    obtain ⟨ca, cM, cc⟩ := s4.away hc
    have s5 := s4.other (.lst []) ca cM cc
    refine ⟨h, l, _, rfl, s5.hh, by omega, by omega, fun r2 M5 b0 b1 hh5 e5 => r_add ⟨⟨by omega, by omega⟩, ?_⟩⟩
    have s6 := s5.hand g hh5 e5
    have hc6 : M5 c = some (.lst []) := e5 c _ ca.1 ca.2.1 setM_same
    have hI : (1 + r2).toNat ≤ size := by omega
    have hI1 : 1 ≤ (1 + r2).toNat := by omega
    generalize (1 + r2).toNat = I at hI hI1
    have room : size + 1 ≤ rest.length := by
      have : (j + 1) * (size + 1) ≤ many * (size + 1) := Nat.mul_le_mul_right _ (by omega)
      rw [Nat.add_mul] at this
      omega
    refine loop_inv (fun its Γ M' => ∃ i rest' cs, its = (rng 0 I).drop i ∧ i ≤ I ∧ PS h l p q r size M M' j rest' tn cells ∧ M' c = some (.lst (cs.map colD)) ∧ rest = rest' ++ (cs.map (·.1)).reverse ∧ cs.length = i ∧ (∀ x ∈ cs, Kd x.2) ∧
      ∃ x8, Γ = [some (.cel h), some (.int (many : Nat)), some (.int (size : Nat)), some (.cel p), some (.cel q), some (.cel r), some (.int (j : Nat)), some (.cel c), x8, x9, x10]) (fun _ _ _ _ => trivial) ?_ ?_ _ _ _
      ⟨0, rest, [], rfl, by omega, s6, hc6, by simp, rfl, (fun x hx => by cases hx), _, rfl⟩
    · rintro Γ M6 ⟨i, rest', cs, e6, hi, s7, hc7, er, hcl, hkd, x8, rfl⟩
      have hiI : i = I := by
        have := congrArg List.length e6
        rw [List.length_drop, show (rng 0 I).length = I by simp [rng]] at this
        simp at this; omega
      subst hiI
      have nd0 := s4.nd
      rw [er] at nd0
      have ndc : (cs.map (·.1)).Nodup := by
        have := (List.nodup_append.mp nd0).2.1
        exact (List.reverse_perm _).nodup_iff.mp this
      have dis : ∀ a ∈ rest', ∀ b ∈ cs.map (·.1), a ≠ b := fun a ha b hb => (List.nodup_append.mp nd0).2.2 a ha b (List.mem_reverse.mpr hb)
      have csn : ∀ x ∈ cs, isNm x.1 = true := fun x hx => s4.nm x.1 (by rw [er]; exact List.mem_append_right _ (List.mem_reverse.mpr (List.mem_map_of_mem hx)))
      have cne : cs ≠ [] := fun z => by rw [z] at hcl; simp at hcl; omega
      have okc : ColsOk size cs := ⟨cne, by omega, ndc, csn, hkd⟩
      -- what follows the choice of the last column's name
      have after : ∀ (M7 : Mem) (cs' : Cols), PS h l p q r size M M7 j rest' tn cells → M7 c = some (.lst (cs'.map colD)) → ColsOk size cs' → (∀ t ∈ cs'.head?, ¬ t.1 ∈ rest') → ∀ Γ', Γ' = [some (D.cel h), some (.int (many : Nat)), some (.int (size : Nat)), some (.cel p), some (.cel q), some (.cel r), some (.int (j : Nat)), some (.cel c), x8, x9, x10] →
          wSeq (wExpr (wMt rdAppend (wVar 5) (wCons (wVar 7) wNil))) (wExpr (wMt rdAppend (wVar 4) (wCons (wIf (wTst (wOp rdGt (wCall F_pick (wCons (wVar 0) (wCons (wC (D.int 4)) wNil))) (wC (D.int 0)))) (wMt rdPop (wVar 3) wNil) (wOp rdIx (wOp rdIx (wVar 7) (wC (D.int 0))) (wC (D.int 0)))) wNil))) k' Γ' M7 := by
        rintro M7 cs' t7 hc hok hfst Γ' rfl
        simp only [wNext, wSeq, wBreak, wContinue, wExpr, wRet, wRetN, wIfS, wSet, wAsg, wPar, wPar3, wFor, wSub, wTst, wOp, wChain, wNotT, wAndT, wOrT, wAndV, wOrV, wNotV, wIf, wNil, wCons, wTup, wLst, wLstM, wCall, wCall0, wVar, wC, wLc, wLcM, wYes, wiL, wiT, wiS, wiR, wiEnT, wiEnL, wiZip, wSl, woNone, woSome, wMt, wJoin, wGet, wUn, wTru, wDNew, fin, List.getElem?_cons_zero, List.getElem?_cons_succ, List.set_cons_zero, List.set_cons_succ]
        refine ⟨isC t7.nr, r_app t7.nr (z2 (by rw [List.length_map, t7.ll]; omega)) ?_⟩
        have t8 : PS h l p q r size M (setM M7 r (.lst ((cells ++ [(c, cs')]).map fun c => D.cel c.1))) (j + 1) rest' (tn ++ [Str.ofString "a"]) (cells ++ [(c, cs')]) ∨ True := .inr trivial
        have e8 : setM M7 r (.lst ((cells.map fun c => D.cel c.1) ++ [D.cel c])) = setM M7 r (.lst ((cells ++ [(c, cs')]).map fun c => D.cel c.1)) := by simp
        rw [e8]
        have q8 : setM M7 r (.lst ((cells ++ [(c, cs')]).map fun c => D.cel c.1)) q = some (.lst (tn.map D.str)) := by rw [setM_ne (Ne.symm g.rq)]; exact t7.nq
        have fin8 : ∀ (M9 : Mem) (rest9 : List Str) (nm9 : Str), Hnd M9 h l → Ext h l M M9 → M9 p = some (.lst (rest9.map D.str)) → M9 q = some (.lst (tn.map D.str)) → M9 r = some (.lst ((cells ++ [(c, cs')]).map fun c => D.cel c.1)) → (∀ d ∈ cells, M9 d.1 = some (.lst (d.2.map colD))) → M9 c = some (.lst (cs'.map colD)) →
            (∀ x ∈ rest9, x ∈ rest') → rest9.Nodup → rest'.length ≤ rest9.length + 1 → isNm nm9 = true → rdAppend (.cel q) [.str nm9] M9 fun _ M1 => k'.nx [some (D.cel h), some (.int (many : Nat)), some (.int (size : Nat)), some (.cel p), some (.cel q), some (.cel r), some (.int (j : Nat)), some (.cel c), x8, x9, x10] M1 := by
          intro M9 rest9 nm9 h1 h2 h3 h4 h5 h6 h7 h8 h9 h10 h11
          refine r_app h4 (z2 (by rw [List.length_map, t7.tl]; omega)) ?_
          refine q3 _ _ ⟨j + 1, rest9, tn ++ [nm9], cells ++ [(c, cs')], rfl, hj, ?_, ?_, _, _, _, _, _, rfl⟩
          · refine { hh := h1.set g.qh g.ql, ex := fun a y n1 n2 e => by rw [setM_ne (neM e g.mq)]; exact h2 a y n1 n2 e, np := by rw [setM_ne (Ne.symm g.qp)]; exact h3, nq := by rw [setM_same]; simp, nr := by rw [setM_ne g.rq]; exact h5, cl := fun d hd => ?_, tl := by simp [t7.tl], ll := by simp [t7.ll], tm := fun s hs => ?_, nd := h9, nm := fun s hs => t7.nm s (h8 s hs), hd := fun d hd t ht z => ?_ }
            · rcases List.mem_append.mp hd with z | z
              · obtain ⟨_, y1, y2⟩ := t7.cl d z
                exact ⟨by rw [setM_ne y1.2.2.2.1]; exact h6 d z, y1, y2⟩
              · rw [List.mem_singleton.mp z]
                exact ⟨by rw [setM_ne ca.2.2.2.1]; exact h7, ca, hok⟩
            · rcases List.mem_append.mp hs with z | z
              · exact t7.tm s z
              · rw [List.mem_singleton.mp z]; exact h11
            · cases hcl : cells with
              | nil =>
                rw [hcl] at hd
                simp at hd
                subst hd
                exact hfst t ht (h8 _ z)
              | cons d0 dr =>
                rw [hcl] at hd
                simp at hd
                subst hd
                exact t7.hd d0 (by rw [hcl]; rfl) t ht (h8 _ z)
          · have : (j + 1) * (size + 1) = j * (size + 1) + (size + 1) := by rw [Nat.add_mul]; omega
            have : rest.length = rest'.length + cs.length := by rw [er]; simp
            omega
        refine ⟨isC q8, ?_⟩
        refine ⟨h, l, 4, rfl, t7.hh.set g.rh g.rl, by decide, by decide, fun r3 M9 c0 c1 hh9 e9 => r_ordI ?_⟩
        have ex9 : Ext h l M M9 := fun a y n1 n2 e => e9 a y n1 n2 (by rw [setM_ne (neM e g.mr)]; exact t7.ex a y n1 n2 e)
        have np9 := e9 p _ g.ph g.pl (by rw [setM_ne (Ne.symm g.rp)]; exact t7.np)
        have nq9 := e9 q _ g.qh g.ql q8
        have nr9 := e9 r _ g.rh g.rl setM_same
        have cl9 : ∀ d ∈ cells, M9 d.1 = some (.lst (d.2.map colD)) := fun d hd => let ⟨y0, y1, _⟩ := t7.cl d hd; e9 _ _ y1.1 y1.2.1 (by rw [setM_ne y1.2.2.2.2]; exact y0)
        have cc9 : M9 c = some (.lst (cs'.map colD)) := e9 _ _ ca.1 ca.2.1 (by rw [setM_ne ca.2.2.2.2]; exact hc)
        refine bb (fun _ => ?_) (fun _ => ?_)
        · have hlen : rest.length = rest'.length + cs.length := by rw [er]; simp
          have hne : rest' ≠ [] := fun z => by rw [z] at hlen; simp at hlen; omega
          obtain ⟨r', x, rfl⟩ : ∃ r' x, rest' = r' ++ [x] := ⟨_, _, (List.dropLast_concat_getLast hne).symm⟩
          rw [List.map_append] at np9
          refine ⟨isC np9, r_pop np9 ?_⟩
          refine fin8 _ r' x (hh9.set g.ph g.pl) (fun a y n1 n2 e => by rw [setM_ne (neM e g.mp)]; exact ex9 a y n1 n2 e) setM_same (by rw [setM_ne g.qp]; exact nq9) (by rw [setM_ne g.rp]; exact nr9) (fun d hd => by rw [setM_ne (t7.cl d hd).2.1.2.2.1]; exact cl9 d hd) (by rw [setM_ne ca.2.2.1]; exact cc9) (fun y hy => List.mem_append_left _ hy) (List.nodup_append.mp t7.nd).1 (by simp) (t7.nm x (by simp))
        · cases cs' with
          | nil => exact absurd rfl hok.ne
          | cons c0' cr =>
            refine ix_cel cc9 (at0 _ _) (ix_tup (at0 _ _) ?_)
            exact fin8 M9 rest' c0'.1 hh9 ex9 np9 nq9 nr9 cl9 cc9 (fun y hy => hy) t7.nd (by omega) (hok.nm c0' List.mem_cons_self)
      have fst0 : ∀ t ∈ cs.head?, ¬ t.1 ∈ rest' := fun t ht z => by
        cases cs with
        | nil => cases ht
        | cons c0 cr => cases ht; exact dis _ z _ List.mem_cons_self rfl
      simp only [wSeq, wIfS, wAndT, wTst, wOp, wVar, wC, wCall, wCons, wNil, List.getElem?_cons_zero, List.getElem?_cons_succ, wNext]
      refine r_ordI ?_
      refine bb (fun hb => ?_) (fun hb => ?_)
      · refine ⟨h, l, 4, rfl, s7.hh, by decide, by decide, fun r3 M7 c0 c1 hh7 e7 => ?_⟩
        have s8 := s7.hand g hh7 e7
        have hc8 := e7 c _ ca.1 ca.2.1 hc7
        by_cases er3 : r3 = 0
        · subst er3
          refine eq_intT (tt ?_)
          have jp : 0 < j := by
            have := of_decide_eq_true hb
            omega
          obtain ⟨d0, dr, ec⟩ : ∃ d0 dr, cells = d0 :: dr := by
            cases cells with
            | nil => have := s8.ll; simp at this; omega
            | cons a b => exact ⟨a, b, rfl⟩
          subst ec
          obtain ⟨m0, a0', ok0⟩ := s8.cl d0 List.mem_cons_self
          obtain ⟨t0, tr, et⟩ : ∃ t0 tr, d0.2 = t0 :: tr := by
            cases z : d0.2 with
            | nil => exact absurd z ok0.ne
            | cons a b => exact ⟨a, b, rfl⟩
          have nr8 := s8.nr
          rw [List.map_cons] at nr8
          rw [et, List.map_cons] at m0
          obtain ⟨cs1, lc, rfl⟩ : ∃ cs1 lc, cs = cs1 ++ [lc] := ⟨_, _, (List.dropLast_concat_getLast cne).symm⟩
          have hc8' := hc8
          rw [List.map_append] at hc8'
          have nt0 : ¬ t0.1 ∈ rest := s4.hd d0 rfl t0 (by rw [et]; rfl)
          simp only [wSub, wTup, wOp, wVar, wUn, wC, wCons, wNil, List.getElem?_cons_zero, List.getElem?_cons_succ]
          refine ix_cel nr8 (at0 _ _) (ix_cel m0 (at0 _ _) (ix_tup (at0 _ _) ?_))
          refine r_U (ix_cel hc8' (atI_last _ _) (ix_tup (at1 _ _ _) ?_))
          refine ⟨(show 2 ≤ sizeLine by decide), r_U (r_st hc8' (ix_last (by simp)) ?_)⟩
          have es : (cs1.map colD ++ [lc].map colD).set ((cs1.map colD ++ [lc].map colD).length - 1) (.tup [.str t0.1, .str lc.2]) = (cs1 ++ [(t0.1, lc.2)]).map colD := by
            simp [colD, List.set_append]
          rw [es]
          have nm1 : t0.1 ∉ (cs1 ++ [lc]).map (·.1) := fun z => nt0 (by rw [er]; exact List.mem_append_right _ (List.mem_reverse.mpr z))
          have n0 : t0.1 ∉ rest' := fun z => nt0 (by rw [er]; exact List.mem_append_left _ z)
          refine after _ (cs1 ++ [(t0.1, lc.2)]) (s8.other _ ca cM cc) setM_same ⟨by simp, by simpa using okc.le, ?_, fun x hx => ?_, fun x hx => ?_⟩ ?_ _ rfl
          · rw [List.map_append] at ndc nm1 ⊢
            refine List.nodup_append.mpr ⟨(List.nodup_append.mp ndc).1, by simp, fun a ha b hb => ?_⟩
            simp only [List.map_cons, List.map_nil, List.mem_singleton] at hb
            subst hb
            rintro rfl
            exact nm1 (List.mem_append_left _ ha)
          · rcases List.mem_append.mp hx with z | z
            · exact csn x (List.mem_append_left _ z)
            · rw [List.mem_singleton.mp z]; exact ok0.nm t0 (by rw [et]; exact List.mem_cons_self)
          · rcases List.mem_append.mp hx with z | z
            · exact hkd x (List.mem_append_left _ z)
            · rw [List.mem_singleton.mp z]; exact hkd lc (List.mem_append_right _ (by simp))
          · intro t ht
            cases cs1 with
            | nil => simp at ht; subst ht; exact n0
            | cons a b => simp at ht; subst ht; exact fst0 a rfl
        · refine eq_intF er3 (ff ?_)
          exact after M7 cs s8 hc8 okc fst0 _ rfl
      · exact ff (after M6 cs s7 hc7 okc fst0 _ rfl)
    · rintro d ds Γ M6 ⟨i, rest', cs, e6, hi, s7, hc7, er, hcl, hkd, x8, rfl⟩
      obtain ⟨hi, rfl, rfl⟩ := rng_drop e6
      refine ⟨_, rfl, fun k'' p1 p2 p3 p4 => ?_⟩
      simp only [wNext, wSeq, wBreak, wContinue, wExpr, wRet, wRetN, wIfS, wSet, wAsg, wPar, wPar3, wFor, wSub, wTst, wOp, wChain, wNotT, wAndT, wOrT, wAndV, wOrV, wNotV, wIf, wNil, wCons, wTup, wLst, wLstM, wCall, wCall0, wVar, wC, wLc, wLcM, wYes, wiL, wiT, wiS, wiR, wiEnT, wiEnL, wiZip, wSl, woNone, woSome, wMt, wJoin, wGet, wUn, wTru, wDNew, fin, List.getElem?_cons_zero, List.getElem?_cons_succ, List.set_cons_zero, List.set_cons_succ]
      refine ⟨isC hc7, isC s7.np, ?_⟩
      have hlen : rest.length = rest'.length + cs.length := by rw [er]; simp
      have hne : rest' ≠ [] := fun z => by rw [z] at hlen; simp at hlen; omega
      obtain ⟨r', x, rfl⟩ : ∃ r' x, rest' = r' ++ [x] := ⟨_, _, (List.dropLast_concat_getLast hne).symm⟩
      have np7 := s7.np
      rw [List.map_append] at np7
      refine r_pop np7 ?_
      have s8 := s7.pop g
      have hc8 : setM M6 p (.lst (r'.map D.str)) c = some (.lst (cs.map colD)) := by rw [setM_ne ca.2.2.1]; exact hc7
      refine ⟨(show 3 ≤ sizeLine by decide), h, l, _, rfl, s8.hh, .inr ⟨_, .inr rfl, by decide, by decide, fun kd M7 hkd' hh7 e7 => ?_⟩⟩
      obtain ⟨ks, rfl, hks⟩ : ∃ ks, kd = D.str ks ∧ Kd ks := by
        simp only [List.mem_cons, List.not_mem_nil, or_false] at hkd'
        rcases hkd' with rfl | rfl | rfl
        · exact ⟨_, rfl, .inl rfl⟩
        · exact ⟨_, rfl, .inl rfl⟩
        · exact ⟨_, rfl, .inr rfl⟩
      have s9 := s8.hand g hh7 e7
      have hc9 := e7 c _ ca.1 ca.2.1 hc8
      refine ⟨(show 2 ≤ sizeLine by decide), r_app hc9 (z2 (by simp; omega)) ?_⟩
      refine p3 _ _ ⟨i + 1, r', cs ++ [(x, ks)], rfl, hi, s9.other _ ca cM cc, ?_, ?_, ?_, ?_, _, rfl⟩
      · rw [setM_same, List.map_append]; rfl
      · rw [er]; simp
      · simp [hcl]
      · intro y hy
        rcases List.mem_append.mp hy with z | z
        · exact hkd y z
        · rw [List.mem_singleton.mp z]; exact hks
end
end K04

set_option autoImplicit false
set_option maxRecDepth 100000
set_option maxHeartbeats 4000000
namespace K04
open PySem L2 DL
theorem ok_nm {s : Str} (h : isNm s = true) : PyData.strOk s = true := by
  unfold isNm at h
  simp only [Bool.and_eq_true, List.all_eq_true] at h
  unfold PyData.strOk
  rw [← Array.all_toList, List.all_eq_true]
  intro c hc
  have := h.2 c hc
  unfold letter at this
  simp at this ⊢; omega
theorem ok_kd {s : Str} (h : s = Str.ofString "number" ∨ s = Str.ofString "name") : PyData.strOk s = true := by
  rcases h with rfl | rfl <;> decide +kernel
/-! what is asked of a value that anything may be -/
mutual
def okR (M : Mem) : D → Prop
  | .non => True
  | .bl _ => True
  | .int _ => True
  | .str s => s.length ≤ 1000000
  | .tup ds => ds.length ≤ 1000 ∧ okRs M ds
  | .lst _ => True
  | .cel a => (tyD M (.cel a)).isSome = true
  | _ => False
def okRs (M : Mem) : List D → Prop
  | [] => True
  | d :: ds => okR M d ∧ okRs M ds
end
theorem okRs_mem {M : Mem} : ∀ {ds : List D} {d : D}, okRs M ds → d ∈ ds → okR M d
  | x :: ds, d, h, hd => by
    unfold okRs at h
    rcases List.mem_cons.mp hd with e | e
    · rw [e]; exact h.1
    · exact okRs_mem h.2 e
theorem okRs_of {M : Mem} : ∀ {ds : List D}, (∀ d ∈ ds, okR M d) → okRs M ds
  | [], _ => by unfold okRs; trivial
  | d :: ds, h => by unfold okRs; exact ⟨h d List.mem_cons_self, okRs_of fun e he => h e (List.mem_cons_of_mem _ he)⟩
def tyS (M : Mem) (d : D) : String := (tyD M d).getD ""
theorem okR_ty {M : Mem} {d : D} (h : okR M d) : ∃ t, tyD M d = some t ∧ ((t = "int") = ∃ i, d = .int i) ∧ ((t = "str") = ∃ s, d = .str s) ∧ ((t = "tuple") = ∃ ds, d = .tup ds) ∧ ((t = "bool") = ∃ b, d = .bl b) := by
  cases d with
  | cel a =>
    unfold okR at h
    cases q : tyD M (.cel a) with
    | none => rw [q] at h; cases h
    | some t =>
      refine ⟨t, rfl, ?_⟩
      unfold tyD at q
      simp only at q
      split at q <;> cases q <;> simp
  | scr _ => unfold okR at h; exact h.elim
  | ty _ => unfold okR at h; exact h.elim
  | _ => exact ⟨_, rfl, by simp⟩
theorem okR_D {M : Mem} {d : D} (h : okR M d) : okD M d := by
  obtain ⟨t, e, _⟩ := okR_ty h
  refine ⟨by rw [e]; rfl, fun s z => ?_⟩
  subst z
  unfold okR at h
  exact z1 h
def isInt : D → Bool
  | .int _ => true
  | _ => false
def isStr : D → Bool
  | .str _ => true
  | _ => false
def isTup : D → Bool
  | .tup _ => true
  | _ => false
theorem r_type {M : Mem} {d : D} {k : KD} {t : String} (e : tyD M d = some t) (hk : k (.ty t) M) : rdType [d] M k := by
  unfold rdType; simp only [e]; exact hk
theorem ty_int {M : Mem} {d : D} {k : KD} {f : Bool → Bool} (h : okR M d) (hk : k (.bl (f (isInt d))) M) : rdType [d] M fun x M1 => rdIs f x (.ty "int") M1 k := by
  obtain ⟨t, e, e1, _⟩ := okR_ty h
  refine r_type e ?_
  have : decide (t = "int") = isInt d := by
    rw [Bool.eq_iff_iff, decide_eq_true_eq, e1]
    cases d <;> simp [isInt]
  show k (.bl (f (decide (t = "int")))) M
  rw [this]; exact hk
theorem ty_str {M : Mem} {d : D} {k : KD} {f : Bool → Bool} (h : okR M d) (hk : k (.bl (f (isStr d))) M) : rdType [d] M fun x M1 => rdIs f x (.ty "str") M1 k := by
  obtain ⟨t, e, _, e1, _⟩ := okR_ty h
  refine r_type e ?_
  have : decide (t = "str") = isStr d := by
    rw [Bool.eq_iff_iff, decide_eq_true_eq, e1]
    cases d <;> simp [isStr]
  show k (.bl (f (decide (t = "str")))) M
  rw [this]; exact hk
theorem ty_tup {M : Mem} {d : D} {k : KD} {f : Bool → Bool} (h : okR M d) (hk : k (.bl (f (isTup d))) M) : rdType [d] M fun x M1 => rdIs f x (.ty "tuple") M1 k := by
  obtain ⟨t, e, _, _, e1, _⟩ := okR_ty h
  refine r_type e ?_
  have : decide (t = "tuple") = isTup d := by
    rw [Bool.eq_iff_iff, decide_eq_true_eq, e1]
    cases d <;> simp [isTup]
  show k (.bl (f (decide (t = "tuple")))) M
  rw [this]; exact hk
theorem isn_ok {M : Mem} {d : D} {k : KD} {f : Bool → Bool} (h : okR M d) (hk : k (.bl (f (isNon d))) M) : rdIs f d .non M k := by
  cases d with
  | scr _ => unfold okR at h; exact h.elim
  | ty _ => unfold okR at h; exact h.elim
  | _ => exact hk
theorem tyD_cel {M : Mem} {a : Addr} : (tyD M (.cel a)).isSome = (M a).isSome := by
  unfold tyD
  simp only
  cases M a with
  | none => rfl
  | some c => cases c <;> rfl
end K04

set_option autoImplicit false
set_option maxRecDepth 100000
set_option maxHeartbeats 4000000
namespace K04
open PySem L2 DL
section
variable {P : Program} {w : World} {K : PySem.W.Frag} {mg : Str → Option Value} {base : Heap}
def F_is_whole : FD := fun ds M k => ∃ d, ds = [d] ∧ okR M d ∧ k (.bl (isInt d)) M
theorem ok_is_whole {f : Addr} {fd : FuncData} (T : Txt K mg) (d_is_whole : Def K mg "is_whole" s_is_whole p_is_whole f fd) : DFn P w K mg base 1 f fd p_is_whole F_is_whole := by
  refine Fun.okD d_is_whole.F sc_is_whole (fun cdv A outer s H E hr => (dss_one (ds_ret (de_cmpA c_is (de_type T.b_type (dv 0)) (de_ty (n := "int") T.b_int (by decide +kernel)))))) (fun ds M k h => ?_)
  obtain ⟨d, rfl, hd, hk⟩ := h
  refine ⟨rfl, ?_⟩
  rw [show startD N_is_whole [d] = [some d] from rfl]
  simp only [wNext, wSeq, wBreak, wContinue, wExpr, wRet, wRetN, wIfS, wSet, wAsg, wPar, wPar3, wFor, wSub, wTst, wOp, wChain, wNotT, wAndT, wOrT, wAndV, wOrV, wNotV, wIf, wNil, wCons, wTup, wLst, wLstM, wCall, wCall0, wVar, wC, wLc, wLcM, wYes, wiL, wiT, wiS, wiR, wiEnT, wiEnL, wiZip, wSl, woNone, woSome, wMt, wJoin, wGet, wUn, wTru, wDNew, fin, List.getElem?_cons_zero, List.getElem?_cons_succ, List.set_cons_zero, List.set_cons_succ]
  exact ty_int hd hk
def isNumB : D → Bool
  | .int i => decide (-(1000000000 : Int) ≤ i) && decide (i ≤ 1000000000)
  | _ => false
def F_is_number : FD := fun ds M k => ∃ d, ds = [d] ∧ okR M d ∧ k (.bl (isNumB d)) M
theorem ok_is_number {f f1 : Addr} {fd fd1 : FuncData} (T : Txt K mg) (d_is_whole : Def K mg "is_whole" s_is_whole p_is_whole f1 fd1) (d_is_number : Def K mg "is_number" s_is_number p_is_number f fd) : DFn P w K mg base 2 f fd p_is_number F_is_number := by
  have G_is_whole : DFn P w K mg base 1 f1 fd1 p_is_whole F_is_whole := ok_is_whole T d_is_whole
  refine Fun.okD d_is_number.F sc_is_number (fun cdv A outer s H E hr => (dss_one (ds_ret (de_and (de_own d_is_whole G_is_whole hr (by first | decide | omega) (da_cons (dv 0) da_nil)) (de_one (de_chainA c_le c_le (de_neg T.e_GREATEST) (dv 0) T.e_GREATEST)))))) (fun ds M k h => ?_)
  obtain ⟨d, rfl, hd, hk⟩ := h
  refine ⟨rfl, ?_⟩
  rw [show startD N_is_number [d] = [some d] from rfl]
  simp only [wNext, wSeq, wBreak, wContinue, wExpr, wRet, wRetN, wIfS, wSet, wAsg, wPar, wPar3, wFor, wSub, wTst, wOp, wChain, wNotT, wAndT, wOrT, wAndV, wOrV, wNotV, wIf, wNil, wCons, wTup, wLst, wLstM, wCall, wCall0, wVar, wC, wLc, wLcM, wYes, wiL, wiT, wiS, wiR, wiEnT, wiEnL, wiZip, wSl, woNone, woSome, wMt, wJoin, wGet, wUn, wTru, wDNew, fin, List.getElem?_cons_zero, List.getElem?_cons_succ, List.set_cons_zero, List.set_cons_succ]
  refine ⟨d, rfl, hd, ?_⟩
  cases d with
  | int i =>
    refine r_U (r_ordI ?_)
    by_cases h1 : -(1000000000 : Int) ≤ i
    · simp only [h1, decide_true]
      refine r_ordI ?_
      simpa [isNumB, h1] using hk
    · simp only [h1, decide_false]
      simpa [isNumB, h1] using hk
  | _ => exact hk
def fitsB (kd : Str) (d : D) : Bool := isNon d || (if kd = Str.ofString "number" then isNumB d else isNameB d)
def F_fits : FD := fun ds M k => ∃ kd d, ds = [.str kd, d] ∧ PyData.strOk kd = true ∧ okR M d ∧ k (.bl (fitsB kd d)) M
theorem ok_fits {f f1 f2 f3 : Addr} {fd fd1 fd2 fd3 : FuncData} (T : Txt K mg) (d_is_whole : Def K mg "is_whole" s_is_whole p_is_whole f1 fd1) (d_is_number : Def K mg "is_number" s_is_number p_is_number f2 fd2)
    (d_is_name : Def K mg "is_name" s_is_name p_is_name f3 fd3) (d_fits : Def K mg "fits" s_fits p_fits f fd) : DFn P w K mg base 3 f fd p_fits F_fits := by
  have G_is_number : DFn P w K mg base 2 f2 fd2 p_is_number F_is_number := ok_is_number T d_is_whole d_is_number
  have G_is_name : DFn P w K mg base 1 f3 fd3 p_is_name F_is_name := ok_is_name T d_is_name
  refine Fun.okD d_fits.F sc_fits (fun cdv A outer s H E hr => (dss_cons (ds_if (dt_cmpA c_is (dv 1) de_non) (dss_one (ds_ret de_bl)) dss_nil) (dss_cons (ds_if (dt_cmpA (c_eq hr) (dv 0) de_str) (dss_one (ds_ret (de_own d_is_number G_is_number hr (by first | decide | omega) (da_cons (dv 1) da_nil)))) dss_nil) (dss_one (ds_ret (de_own d_is_name G_is_name hr (by first | decide | omega) (da_cons (dv 1) da_nil))))))) (fun ds M k h => ?_)
  obtain ⟨kd, d, rfl, hkd, hd, hk⟩ := h
  refine ⟨rfl, ?_⟩
  rw [show startD N_fits [.str kd, d] = [some (.str kd), some d] from rfl]
  simp only [wNext, wSeq, wBreak, wContinue, wExpr, wRet, wRetN, wIfS, wSet, wAsg, wPar, wPar3, wFor, wSub, wTst, wOp, wChain, wNotT, wAndT, wOrT, wAndV, wOrV, wNotV, wIf, wNil, wCons, wTup, wLst, wLstM, wCall, wCall0, wVar, wC, wLc, wLcM, wYes, wiL, wiT, wiS, wiR, wiEnT, wiEnL, wiZip, wSl, woNone, woSome, wMt, wJoin, wGet, wUn, wTru, wDNew, fin, List.getElem?_cons_zero, List.getElem?_cons_succ, List.set_cons_zero, List.set_cons_succ]
  refine isn_ok hd ?_
  unfold fitsB at hk
  refine bb (fun e => ?_) (fun e => ?_)
  · have e : isNon d = true := e
    rw [e] at hk; exact hk
  · have e : isNon d = false := e
    rw [e, Bool.false_or] at hk
    refine eq_str hkd (by decide +kernel) (bb (fun e2 => ?_) (fun e2 => ?_))
    · rw [if_pos (of_decide_eq_true e2)] at hk
      exact ⟨d, rfl, hd, hk⟩
    · rw [if_neg (of_decide_eq_false e2)] at hk
      exact ⟨okR_D hd, hk⟩
end
end K04

set_option autoImplicit false
set_option maxRecDepth 100000
set_option maxHeartbeats 4000000
namespace K04
open PySem L2 DL
section
variable {P : Program} {w : World} {K : PySem.W.Frag} {mg : Str → Option Value} {base : Heap}
def pr (p : Str × D) : D := .tup [.str p.1, p.2]
def findP (l : List (Str × D)) (s : Str) : Option Nat := l.findIdx? fun p => decide (p.1 = s)
def placeD (l : List (Str × D)) : D → D
  | .str s => if isNm s = true then (match findP l s with | some i => .int (i : Nat) | none => .non) else .non
  | _ => .non
def F_place_of : FD := fun ds M k => ∃ (l : List (Str × D)) (x : D), ds = [.tup (l.map pr), x] ∧ okR M x ∧ k (placeD l x) M
theorem place_loop {s : Str} {M : Mem} {a : Option D} {kk : KS} : ∀ (l : List (Str × D)) (i : Nat) (x2 x3 x4 : Option D),
    (match findP l s with | some j => kk.rt (.int ((i + j : Nat) : Int)) M | none => ∀ Γ, kk.nx Γ M) →
    loopD (gT (gsCons (gN 2) (gsCons (gT (gsCons (gN 3) (gsCons (gN 4) gsNil))) gsNil))) (wIfS (wTst (wOp (rdEq id) (wVar 3) (wVar 1))) (wRet (wVar 2)) wNext) gAny
      (((l.map pr).zipIdx i).map fun (d, i) => .tup [.int (i : Nat), d]) kk [a, some (.str s), x2, x3, x4] M
  | [], i, x2, x3, x4, h => ⟨trivial, h _⟩
  | p :: l, i, x2, x3, x4, h => by
    refine ⟨trivial, ?_⟩
    simp only [pr, gT, gsCons, gN, gsNil, wNext, wSeq, wBreak, wContinue, wExpr, wRet, wRetN, wIfS, wSet, wAsg, wPar, wPar3, wFor, wSub, wTst, wOp, wChain, wNotT, wAndT, wOrT, wAndV, wOrV, wNotV, wIf, wNil, wCons, wTup, wLst, wLstM, wCall, wCall0, wVar, wC, wLc, wLcM, wYes, wiL, wiT, wiS, wiR, wiEnT, wiEnL, wiZip, wSl, woNone, woSome, wMt, wJoin, wGet, wUn, wTru, wDNew, fin, List.getElem?_cons_zero, List.getElem?_cons_succ, List.set_cons_zero, List.set_cons_succ, rdAdd, rdI, rdI0, rdU, rdOrd, rdIs, rdIn, rdIx, rdGet, rdSl, rdLen, rdType, rdIsiA, rdAll, rdInt, rdTuple, rdDict, rdSortD, rdAppend, rdPop, rdPopAt]
    refine eq_strA ?_
    by_cases e : p.1 = s
    · have : findP (p :: l) s = some 0 := by unfold findP; rw [List.findIdx?_cons]; simp [e]
      rw [this] at h
      simp only [id, e, decide_true, if_true]
      simpa using h
    · have : findP (p :: l) s = (findP l s).map (· + 1) := by unfold findP; rw [List.findIdx?_cons]; simp [e]
      rw [this] at h
      simp only [id, e, decide_false, Bool.false_eq_true, if_false]
      refine place_loop (a := a) l (i + 1) _ _ _ ?_
      cases q : findP l s with
      | none => rw [q] at h; exact h
      | some j => rw [q] at h; simp only [Option.map_some] at h; show kk.rt (.int ((i + 1 + j : Nat) : Int)) M; rw [show i + 1 + j = i + (j + 1) by omega]; exact h
theorem ok_place_of (T : Txt K mg) (B : DD K mg) : DFn P w K mg base 2 B.f_place_of B.fd_place_of p_place_of F_place_of := by
  have G_is_name : DFn P w K mg base 1 B.f_is_name B.fd_is_name p_is_name F_is_name := ok_is_name T B.d_is_name
  refine Fun.okD B.d_place_of.F sc_place_of (fun cdv A outer s H E hr => (dss_cons (ds_if (dt_not (dt_val (de_own B.d_is_name G_is_name hr (by first | decide | omega) (da_cons (dv 1) da_nil)))) (dss_one (ds_ret de_non)) dss_nil) (dss_cons (ds_for rfl (di_enumT T.b_enumerate (da_cons (dv 0) da_nil)) (dg_tup rfl (dgs_cons (dg_name (i := 2) sc_place_of.nd) (dgs_cons (dg_tup rfl (dgs_cons (dg_name (i := 3) sc_place_of.nd) (dgs_cons (dg_name (i := 4) sc_place_of.nd) dgs_nil)) (gsCons_len (gsCons_len gsNil_len))) dgs_nil)) (gsCons_len (gsCons_len gsNil_len))) (dss_one (ds_if (dt_cmpA (c_eq hr) (dv 3) (dv 1)) (dss_one (ds_ret (dv 2))) dss_nil))) (dss_one (ds_ret de_non))))) (fun ds M k h => ?_)
  obtain ⟨l, x, rfl, hx, h⟩ := h
  (refine ⟨rfl, ?_⟩; rw [show startD N_place_of [.tup (l.map pr), x] = [some (.tup (l.map pr)), some (x), none, none, none] from rfl])
  simp only [wNext, wSeq, wBreak, wContinue, wExpr, wRet, wRetN, wIfS, wSet, wAsg, wPar, wPar3, wFor, wSub, wTst, wOp, wChain, wNotT, wAndT, wOrT, wAndV, wOrV, wNotV, wIf, wNil, wCons, wTup, wLst, wLstM, wCall, wCall0, wVar, wC, wLc, wLcM, wYes, wiL, wiT, wiS, wiR, wiEnT, wiEnL, wiZip, wSl, woNone, woSome, wMt, wJoin, wGet, wUn, wTru, wDNew, fin, List.getElem?_cons_zero, List.getElem?_cons_succ, List.set_cons_zero, List.set_cons_succ, rdAdd, rdI, rdI0, rdU, rdOrd, rdIs, rdIn, rdIx, rdGet, rdSl, rdLen, rdType, rdIsiA, rdAll, rdInt, rdTuple, rdDict, rdSortD, rdAppend, rdPop, rdPopAt]
  refine ⟨okR_D hx, ?_⟩
  cases x with
  | str s =>
    simp only [isNameB]
    simp only [placeD] at h
    by_cases q : isNm s = true
    · simp only [q, Bool.not_true, Bool.false_eq_true, if_false, if_true] at h ⊢
      refine place_loop l 0 _ _ _ ?_
      cases q2 : findP l s with
      | none => rw [q2] at h; exact fun _ => h
      | some j => rw [q2] at h; simpa using h
    · have q' : isNm s = false := by simpa using q
      simp only [q'] at h ⊢
      simpa using h
  | _ => simpa [isNameB, placeD] using h
/-! the kind of a column -/
def lst (cs : Cols) : List (Str × D) := cs.map fun c => (c.1, D.str c.2)
theorem lst_pr (cs : Cols) : colsD cs = .tup ((lst cs).map pr) := by
  unfold colsD lst
  rw [List.map_map]; rfl
def kindOf (cs : Cols) : D → Option Str
  | .str s => if isNm s = true then (cs.find? fun c => decide (c.1 = s)).map (·.2) else none
  | _ => none
def kindD (cs : Cols) (x : D) : D := match kindOf cs x with | some k => .str k | none => .non
theorem findP_lst : ∀ (cs : Cols) (s : Str), (findP (lst cs) s = none ∧ cs.find? (fun c => decide (c.1 = s)) = none) ∨ ∃ i c, findP (lst cs) s = some i ∧ cs.find? (fun c => decide (c.1 = s)) = some c ∧ cs[i]? = some c
  | [], s => .inl ⟨rfl, rfl⟩
  | c :: cs, s => by
    have e : findP (lst (c :: cs)) s = if c.1 = s then some 0 else (findP (lst cs) s).map (· + 1) := by
      unfold findP lst
      rw [List.map_cons, List.findIdx?_cons]
      by_cases q : c.1 = s <;> simp [q]
    rw [e, List.find?_cons]
    by_cases q : c.1 = s
    · simp only [q, if_true, decide_true]
      exact .inr ⟨0, c, rfl, rfl, rfl⟩
    · simp only [q, if_false, decide_false]
      rcases findP_lst cs s with ⟨h1, h2⟩ | ⟨i, c', h1, h2, h3⟩
      · exact .inl ⟨by rw [h1]; rfl, h2⟩
      · exact .inr ⟨i + 1, c', by rw [h1]; rfl, h2, by simpa using h3⟩
theorem place_kind (cs : Cols) (x : D) : (placeD (lst cs) x = .non ∧ kindOf cs x = none) ∨ ∃ i c, placeD (lst cs) x = .int ((i : Nat) : Int) ∧ cs[i]? = some c ∧ kindOf cs x = some c.2 ∧ i < cs.length := by
  cases x with
  | str s =>
    simp only [placeD, kindOf]
    by_cases q : isNm s = true
    · simp only [q, if_true]
      rcases findP_lst cs s with ⟨h1, h2⟩ | ⟨i, c, h1, h2, h3⟩
      · rw [h1, h2]; exact .inl ⟨rfl, rfl⟩
      · rw [h1, h2]; exact .inr ⟨i, c, rfl, h3, rfl, (List.getElem?_eq_some_iff.mp h3).1⟩
    · simp only [q]; exact .inl ⟨rfl, rfl⟩
  | _ => exact .inl ⟨rfl, rfl⟩
def F_kind_of : FD := fun ds M k => ∃ (cs : Cols) (x : D), ds = [colsD cs, x] ∧ okR M x ∧ k (kindD cs x) M
theorem ok_kind_of (T : Txt K mg) (B : DD K mg) : DFn P w K mg base 3 B.f_kind_of B.fd_kind_of p_kind_of F_kind_of := by
  have G_place_of : DFn P w K mg base 2 B.f_place_of B.fd_place_of p_place_of F_place_of := ok_place_of T B
  refine Fun.okD B.d_kind_of.F sc_kind_of (fun cdv A outer s H E hr => (dss_cons (ds_set (i := 2) sc_kind_of.nd (de_own B.d_place_of G_place_of hr (by first | decide | omega) (da_cons (dv 0) (da_cons (dv 1) da_nil)))) (dss_cons (ds_if (dt_cmpA c_is (dv 2) de_non) (dss_one (ds_ret de_non)) dss_nil) (dss_one (ds_ret (de_ix (de_ix (dv 0) (dv 2)) de_int)))))) (fun ds M k h => ?_)
  obtain ⟨cs, x, rfl, hx, hk⟩ := h
  (refine ⟨rfl, ?_⟩; rw [show startD N_kind_of [colsD cs, x] = [some (colsD cs), some (x), none] from rfl])
  simp only [wNext, wSeq, wBreak, wContinue, wExpr, wRet, wRetN, wIfS, wSet, wAsg, wPar, wPar3, wFor, wSub, wTst, wOp, wChain, wNotT, wAndT, wOrT, wAndV, wOrV, wNotV, wIf, wNil, wCons, wTup, wLst, wLstM, wCall, wCall0, wVar, wC, wLc, wLcM, wYes, wiL, wiT, wiS, wiR, wiEnT, wiEnL, wiZip, wSl, woNone, woSome, wMt, wJoin, wGet, wUn, wTru, wDNew, fin, List.getElem?_cons_zero, List.getElem?_cons_succ, List.set_cons_zero, List.set_cons_succ]
  refine ⟨lst cs, x, by rw [lst_pr], hx, ?_⟩
  unfold kindD at hk
  rcases place_kind cs x with ⟨h1, h2⟩ | ⟨i, c, h1, h2, h3, h4⟩
  · rw [h1]; rw [h2] at hk
    exact r_isN (tt hk)
  · rw [h1]; rw [h3] at hk
    refine r_isI (ff (ix_tup (d := colD c) (atI_nat ?_) (ix_tup (at1 _ _ _) hk)))
    rw [List.getElem?_map, h2]; rfl
end
end K04

set_option autoImplicit false
set_option maxRecDepth 100000
set_option maxHeartbeats 4000000
namespace K04
open PySem L2 DL
/-! the measure of what is spoilt -/
mutual
def wide : D → Nat
  | .tup ds => max ds.length (wides ds)
  | .lst ds => wides ds
  | _ => 0
def wides : List D → Nat
  | [] => 0
  | d :: ds => max (wide d) (wides ds)
end
theorem heavies_app : ∀ a b : List D, heavies (a ++ b) = heavies a + heavies b
  | [], b => by
    have e : heavies [] = 0 := by rw [heavies]
    rw [e]; simp
  | d :: a, b => by
    have ih := heavies_app a b
    show heavies (d :: (a ++ b)) = heavies (d :: a) + heavies b
    have e1 : heavies (d :: (a ++ b)) = heavy d + 1 + heavies (a ++ b) := by rw [heavies]
    have e2 : heavies (d :: a) = heavy d + 1 + heavies a := by rw [heavies]
    omega
theorem fars_le {n : Nat} : ∀ {a : List D}, fars a ≤ n ↔ ∀ d ∈ a, far d ≤ n
  | [] => by simp [fars]
  | d :: a => by
    have e : fars (d :: a) = max (far d) (fars a) := by rw [fars]
    rw [e, Nat.max_le, fars_le (a := a)]
    simp
theorem wides_le {n : Nat} : ∀ {a : List D}, wides a ≤ n ↔ ∀ d ∈ a, wide d ≤ n
  | [] => by simp [wides]
  | d :: a => by
    have e : wides (d :: a) = max (wide d) (wides a) := by rw [wides]
    rw [e, Nat.max_le, wides_le (a := a)]
    simp
theorem fits_all {N : Nat} {M : Mem} : ∀ {a : List D}, fits N M a = true ↔ ∀ d ∈ a, fit N M d = true
  | [] => by simp [fits]
  | d :: a => by
    have e : fits N M (d :: a) = (fit N M d && fits N M a) := by rw [fits]
    rw [e, Bool.and_eq_true, fits_all (a := a)]
    simp
theorem heavy_mem : ∀ {a : List D} {d : D}, d ∈ a → heavy d + 1 ≤ heavies a
  | x :: a, d, h => by
    have e : heavies (x :: a) = heavy x + 1 + heavies a := by rw [heavies]
    rcases List.mem_cons.mp h with z | z
    · rw [z]; omega
    · have := heavy_mem z; omega
theorem len_heavy : ∀ a : List D, a.length ≤ heavies a
  | [] => Nat.zero_le _
  | d :: a => by
    have e : heavies (d :: a) = heavy d + 1 + heavies a := by rw [heavies]
    have := len_heavy a
    rw [List.length_cons]; omega
structure Good (N : Nat) (M : Mem) (a b c : Nat) (d : D) : Prop where
  ok : fit N M d = true
  hv : heavy d ≤ a
  fr : far d ≤ b
  wd : wide d ≤ c
theorem heavy_tup (ds : List D) : heavy (.tup ds) = heavies ds := by rw [heavy]
theorem far_tup (ds : List D) : far (.tup ds) = fars ds + 1 := by rw [far]
theorem wide_tup (ds : List D) : wide (.tup ds) = max ds.length (wides ds) := by rw [wide]
theorem fit_tup (N : Nat) (M : Mem) (ds : List D) : fit N M (.tup ds) = fits N M ds := by rw [fit]
/-- a part of such a thing -/
theorem Good.at {N : Nat} {M : Mem} {a b c : Nat} {ds : List D} {d : D} (h : Good N M a b c (.tup ds)) (hd : d ∈ ds) : Good N M a (b - 1) c d := by
  obtain ⟨h1, h2, h3, h4⟩ := h
  rw [fit_tup] at h1
  rw [heavy_tup] at h2
  rw [far_tup] at h3
  rw [wide_tup] at h4
  have := heavy_mem hd
  have f := fars_le.mp (show fars ds ≤ b - 1 by omega) d hd
  have g := wides_le.mp (show wides ds ≤ c by omega) d hd
  exact ⟨fits_all.mp h1 d hd, by omega, f, g⟩
/-! what is asked of anything follows -/
mutual
theorem good_okR {N : Nat} {M : Mem} : ∀ (d : D), fit N M d = true → heavy d ≤ 1000000 → wide d ≤ 1000 → okR M d
  | .non, _, _, _ => by unfold okR; trivial
  | .bl _, _, _, _ => by unfold okR; trivial
  | .int _, _, _, _ => by unfold okR; trivial
  | .str s, _, h, _ => by unfold okR; rw [heavy] at h; exact h
  | .tup ds, h1, h2, h3 => by
    rw [fit_tup] at h1
    rw [heavy_tup] at h2
    rw [wide_tup] at h3
    unfold okR
    exact ⟨by omega, goods_okR ds h1 h2 (by omega)⟩
  | .lst _, _, _, _ => by unfold okR; trivial
  | .cel a, h, _, _ => by
    unfold okR
    rw [tyD_cel]
    unfold fit at h
    split at h
    · rename_i q; rw [q]; rfl
    · cases h
  | .scr _, h, _, _ => by unfold fit at h; cases h
  | .ty _, h, _, _ => by unfold fit at h; cases h
theorem goods_okR {N : Nat} {M : Mem} : ∀ (ds : List D), fits N M ds = true → heavies ds ≤ 1000000 → wides ds ≤ 1000 → okRs M ds
  | [], _, _, _ => by unfold okRs; trivial
  | d :: ds, h1, h2, h3 => by
    rw [fits, Bool.and_eq_true] at h1
    rw [heavies] at h2
    rw [wides] at h3
    unfold okRs
    exact ⟨good_okR d h1.1 (by omega) (by omega), goods_okR ds h1.2 (by omega) (by omega)⟩
end
end K04

set_option autoImplicit false
set_option maxRecDepth 100000
set_option maxHeartbeats 4000000
namespace K04
open PySem L2 DL
theorem heavies_nil : heavies [] = 0 := by rw [heavies]
theorem heavies_one (d : D) : heavies [d] = heavy d + 1 := by rw [heavies, heavies_nil]
theorem heavies_take (ds : List D) (i : Nat) : heavies (ds.take i) ≤ heavies ds := by
  have := heavies_app (ds.take i) (ds.drop i)
  rw [List.take_append_drop] at this; omega
theorem heavies_drop (ds : List D) (i : Nat) : heavies (ds.drop i) ≤ heavies ds := by
  have := heavies_app (ds.take i) (ds.drop i)
  rw [List.take_append_drop] at this; omega
theorem heavies_cut (ds : List D) (lo hi : Option Int) : heavies (cutD ds lo hi) ≤ heavies ds := by
  unfold cutD
  exact Nat.le_trans (heavies_take _ _) (heavies_drop _ _)
theorem heavies_rev : ∀ ds : List D, heavies ds.reverse = heavies ds
  | [] => rfl
  | d :: ds => by
    have e : heavies (d :: ds) = heavy d + 1 + heavies ds := by rw [heavies]
    rw [List.reverse_cons, heavies_app, heavies_rev ds, heavies_one, e]; omega
theorem cut_in {ds : List D} {lo hi : Option Int} {x : D} (h : x ∈ cutD ds lo hi) : x ∈ ds := List.mem_of_mem_drop (List.mem_of_mem_take h)
theorem cut_le (ds : List D) (lo hi : Option Int) : (cutD ds lo hi).length ≤ ds.length := by
  unfold cutD; rw [List.length_take, List.length_drop]; omega
mutual
theorem fit_up {N N' : Nat} {M : Mem} (hn : N ≤ N') : ∀ d, fit N M d = true → fit N' M d = true
  | .non, _ => by unfold fit; rfl
  | .bl _, _ => by unfold fit; rfl
  | .int _, q => by unfold fit at *; exact decide_eq_true (Nat.lt_of_lt_of_le (of_decide_eq_true q) hn)
  | .str _, q => by unfold fit at *; exact q
  | .tup ds, q => by unfold fit at *; exact fits_up hn ds q
  | .lst ds, q => by unfold fit at *; exact fits_up hn ds q
  | .cel a, q => by unfold fit at *; exact q
  | .scr _, q => by unfold fit at q; cases q
  | .ty _, q => by unfold fit at q; cases q
theorem fits_up {N N' : Nat} {M : Mem} (hn : N ≤ N') : ∀ ds, fits N M ds = true → fits N' M ds = true
  | [], _ => by unfold fits; rfl
  | d :: ds, q => by
    unfold fits at *
    rw [Bool.and_eq_true] at q
    rw [fit_up hn d q.1, fits_up hn ds q.2]; rfl
end
theorem Good.upN {N N' : Nat} {M : Mem} {a b c : Nat} {d : D} (hn : N ≤ N') (h : Good N M a b c d) : Good N' M a b c d := ⟨fit_up hn d h.ok, h.hv, h.fr, h.wd⟩
theorem Good.up {N : Nat} {M : Mem} {a b c a' b' c' : Nat} {d : D} (h : Good N M a b c d) (h1 : a ≤ a') (h2 : b ≤ b') (h3 : c ≤ c') : Good N M a' b' c' d :=
  ⟨h.ok, Nat.le_trans h.hv h1, Nat.le_trans h.fr h2, Nat.le_trans h.wd h3⟩
theorem good_tup {N : Nat} {M : Mem} {a b c : Nat} {xs : List D} (h : ∀ x ∈ xs, fit N M x = true ∧ far x ≤ b ∧ wide x ≤ c) (h1 : heavies xs ≤ a) (h2 : xs.length ≤ c) : Good N M a (b + 1) c (.tup xs) := by
  refine ⟨by rw [fit_tup, fits_all]; exact fun x hx => (h x hx).1, by rw [heavy_tup]; exact h1, ?_, ?_⟩
  · rw [far_tup]
    have := fars_le.mpr fun x hx => (h x hx).2.1
    omega
  · rw [wide_tup]
    have := wides_le.mpr fun x hx => (h x hx).2.2
    omega
theorem good_lst {N : Nat} {M : Mem} {a b c : Nat} {xs : List D} (h : ∀ x ∈ xs, fit N M x = true ∧ far x ≤ b ∧ wide x ≤ c) (h1 : heavies xs ≤ a) : Good N M a (b + 1) c (.lst xs) := by
  refine ⟨by rw [fit]; exact fits_all.mpr fun x hx => (h x hx).1, by rw [heavy]; exact h1, ?_, ?_⟩
  · rw [far]
    have := fars_le.mpr fun x hx => (h x hx).2.1
    omega
  · rw [wide]; exact wides_le.mpr fun x hx => (h x hx).2.2
theorem good_str {N : Nat} {M : Mem} {a b c : Nat} {s : Str} (h : plain s = true) (h1 : s.length ≤ a) : Good N M a b c (.str s) :=
  ⟨by rw [fit]; exact h, by rw [heavy]; exact h1, by unfold far; exact Nat.zero_le _, by unfold wide; exact Nat.zero_le _⟩
theorem good_nm {N : Nat} {M : Mem} {b c : Nat} {s : Str} (h : isNm s = true) : Good N M 8 b c (.str s) := by
  unfold isNm at h
  simp only [Bool.and_eq_true, decide_eq_true_eq, List.all_eq_true] at h
  refine good_str (plain_iff.mpr fun x hx => ?_) h.1.2
  have := h.2 x hx
  unfold letter at this
  simp at this
  omega
theorem good_int {N : Nat} {M : Mem} {b c : Nat} {i : Int} (h : i.natAbs < N) : Good N M 41 b c (.int i) :=
  ⟨by rw [fit]; exact decide_eq_true h, by rw [heavy]; exact Nat.le_refl _, by unfold far; exact Nat.zero_le _, by unfold wide; exact Nat.zero_le _⟩
theorem good_non {N : Nat} {M : Mem} {a b c : Nat} : Good N M a b c .non := ⟨by unfold fit; rfl, by unfold heavy; exact Nat.zero_le _, by unfold far; exact Nat.zero_le _, by unfold wide; exact Nat.zero_le _⟩
theorem good_bl {N : Nat} {M : Mem} {a b c : Nat} {x : Bool} : Good N M a b c (.bl x) := ⟨by unfold fit; rfl, by unfold heavy; exact Nat.zero_le _, by unfold far; exact Nat.zero_le _, by unfold wide; exact Nat.zero_le _⟩
theorem good_cel {N : Nat} {M : Mem} {a b c : Nat} {p : Addr} (h : M p = some (.dct [])) (hb : 1 ≤ b) : Good N M a b c (.cel p) := ⟨by unfold fit; rw [h], by unfold heavy; exact Nat.zero_le _, by unfold far; exact hb, by unfold wide; exact Nat.zero_le _⟩
mutual
theorem fit_mono {N : Nat} {M M' : Mem} (h : ∀ a, M a = some (.dct []) → M' a = some (.dct [])) : ∀ d, fit N M d = true → fit N M' d = true
  | .non, _ => by unfold fit; rfl
  | .bl _, _ => by unfold fit; rfl
  | .int _, q => by unfold fit at *; exact q
  | .str _, q => by unfold fit at *; exact q
  | .tup ds, q => by unfold fit at *; exact fits_mono h ds q
  | .lst ds, q => by unfold fit at *; exact fits_mono h ds q
  | .cel a, q => by
    unfold fit at *
    split at q
    · rename_i e; rw [h a e]
    · cases q
  | .scr _, q => by unfold fit at q; cases q
  | .ty _, q => by unfold fit at q; cases q
theorem fits_mono {N : Nat} {M M' : Mem} (h : ∀ a, M a = some (.dct []) → M' a = some (.dct [])) : ∀ ds, fits N M ds = true → fits N M' ds = true
  | [], _ => by unfold fits; rfl
  | d :: ds, q => by
    unfold fits at *
    rw [Bool.and_eq_true] at q
    rw [fit_mono h d q.1, fits_mono h ds q.2]; rfl
end
theorem good_ext {N : Nat} {M M' : Mem} {h l : Addr} {a b c : Nat} {d : D} (hh : Hnd M h l) (e : Ext h l M M') (g : Good N M a b c d) : Good N M' a b c d := by
  obtain ⟨xs, s, h1, h2, _⟩ := hh
  refine ⟨fit_mono (fun p hp => e p _ (fun z => ?_) (fun z => ?_) hp) d g.ok, g.hv, g.fr, g.wd⟩
  · rw [z, h1] at hp; cases hp
  · rw [z, h2] at hp; cases hp
end K04

set_option autoImplicit false
set_option maxRecDepth 100000
set_option maxHeartbeats 4000000
namespace K04
open PySem L2 DL
section
variable {P : Program} {w : World} {K : PySem.W.Frag} {mg : Str → Option Value} {base : Heap}
/-! checks, as the document has them: the depth is told by n -/
def chkB (cs : Cols) : Nat → D → Bool
  | 0, _ => false
  | n + 1, .tup [.str w, a] => decide (w = Str.ofString "not") && chkB cs n a
  | n + 1, .tup [.str w, a, b] => if w = Str.ofString "and" ∨ w = Str.ofString "or" then chkB cs n a && chkB cs n b else (match kindOf cs a with
      | none => false
      | some kd => if w = Str.ofString "is" then fitsB kd b else if w = Str.ofString "below" then decide (kd = Str.ofString "number") && isNumB b else if w = Str.ofString "like" then decide (kindOf cs b = some kd) else false)
  | _ + 1, _ => false
structure CsOk (cs : Cols) : Prop where
  nm : ∀ c ∈ cs, isNm c.1 = true
  kd : ∀ c ∈ cs, Kd c.2
  le : cs.length ≤ 4000
theorem ColsOk.cs {size : Nat} {cs : Cols} (h : ColsOk size cs) (hs : size ≤ 1000) : CsOk cs := ⟨h.nm, h.kd, Nat.le_trans h.le (Nat.le_trans hs (by decide))⟩
theorem kindOf_kd {cs : Cols} (h : ∀ c ∈ cs, Kd c.2) {x : D} {kd : Str} (e : kindOf cs x = some kd) : Kd kd := by
  unfold kindOf at e
  split at e
  · split at e
    · rename_i s _
      cases q : cs.find? (fun c => decide (c.1 = s)) with
      | none => rw [q] at e; cases e
      | some c => rw [q] at e; cases e; exact h c (List.mem_of_find?_eq_some q)
    · cases e
  · cases e
def F_has_word : FD := fun ds M k => ∃ d, ds = [d] ∧ okR M d ∧ k (.bl (match d with | .tup (.str _ :: _) => true | _ => false)) M
theorem ok_has_word (T : Txt K mg) (B : DD K mg) : DFn P w K mg base 1 B.f_has_word B.fd_has_word p_has_word F_has_word := by
  refine Fun.okD B.d_has_word.F sc_has_word (fun cdv A outer s H E hr => (dss_one (ds_ret (de_and (de_cmpA c_is (de_type T.b_type (dv 0)) (de_ty (n := "tuple") T.b_tuple (by decide +kernel))) (de_and (de_cmpA c_gt (de_len T.b_len (dv 0)) de_int) (de_one (de_cmpA c_is (de_type T.b_type (de_ix (dv 0) de_int)) (de_ty (n := "str") T.b_str (by decide +kernel))))))))) (fun ds M k h => ?_)
  obtain ⟨d, rfl, hd, hk⟩ := h
  (refine ⟨rfl, ?_⟩; rw [show startD N_has_word [d] = [some (d)] from rfl])
  simp only [wNext, wSeq, wBreak, wContinue, wExpr, wRet, wRetN, wIfS, wSet, wAsg, wPar, wPar3, wFor, wSub, wTst, wOp, wChain, wNotT, wAndT, wOrT, wAndV, wOrV, wNotV, wIf, wNil, wCons, wTup, wLst, wLstM, wCall, wCall0, wVar, wC, wLc, wLcM, wYes, wiL, wiT, wiS, wiR, wiEnT, wiEnL, wiZip, wSl, woNone, woSome, wMt, wJoin, wGet, wUn, wTru, wDNew, fin, List.getElem?_cons_zero, List.getElem?_cons_succ, List.set_cons_zero, List.set_cons_succ]
  refine ty_tup hd ?_
  cases d with
  | tup ds =>
    unfold okR at hd
    refine r_lenT (r_ordI ?_)
    cases ds with
    | nil => exact hk
    | cons x r =>
      have e : decide ((0 : Int) < ((x :: r).length : Nat)) = true := decide_eq_true (by simp only [List.length_cons]; omega)
      show (match D.bl (decide ((0 : Int) < ((x :: r).length : Nat))) with | .bl true => _ | .bl false => _ | _ => _)
      rw [e]
      refine ix_tup (at0 _ _) (ty_str (okRs_mem hd.2 List.mem_cons_self) ?_)
      cases x <;> exact hk
  | _ => exact hk
def lenOf (s : Str) : D := (lookT kvs_LENGTHS s).getD .non
def formB : D → Bool
  | .tup (.str s :: r) => (match lenOf s with | .int i => decide (i = ((r.length + 1 : Nat) : Int)) | _ => false)
  | _ => false
theorem lenOf_cases (s : Str) : lenOf s = .non ∨ lenOf s = .int 2 ∨ lenOf s = .int 3 := by
  unfold lenOf
  cases q : lookT kvs_LENGTHS s with
  | none => exact .inl rfl
  | some d =>
    have := lookT_mem q
    unfold kvs_LENGTHS at this
    simp only [List.mem_cons, List.not_mem_nil, or_false, Prod.mk.injEq] at this
    rcases this with ⟨_, rfl⟩ | ⟨_, rfl⟩ | ⟨_, rfl⟩ | ⟨_, rfl⟩ | ⟨_, rfl⟩ | ⟨_, rfl⟩ <;> simp
def F_has_form : FD := fun ds M k => ∃ d, ds = [d] ∧ okR M d ∧ k (.bl (formB d)) M
theorem ok_has_form (T : Txt K mg) (B : DD K mg) (TW : TxtW K w mg B) : DFn P w K mg base 2 B.f_has_form B.fd_has_form p_has_form F_has_form := by
  have G_has_word : DFn P w K mg base 1 B.f_has_word B.fd_has_word p_has_word F_has_word := ok_has_word T B
  refine Fun.okD B.d_has_form.F sc_has_form (fun cdv A outer s H E hr => (dss_one (ds_ret (de_and (de_own B.d_has_word G_has_word hr (by first | decide | omega) (da_cons (dv 0) da_nil)) (de_one (de_cmpA (c_eq hr) (de_mget TW.c_LENGTHS_checks (de_ix (dv 0) de_int)) (de_len T.b_len (dv 0)))))))) (fun ds M k h => ?_)
  obtain ⟨d, rfl, hd, hk⟩ := h
  (refine ⟨rfl, ?_⟩; rw [show startD N_has_form [d] = [some (d)] from rfl])
  simp only [wNext, wSeq, wBreak, wContinue, wExpr, wRet, wRetN, wIfS, wSet, wAsg, wPar, wPar3, wFor, wSub, wTst, wOp, wChain, wNotT, wAndT, wOrT, wAndV, wOrV, wNotV, wIf, wNil, wCons, wTup, wLst, wLstM, wCall, wCall0, wVar, wC, wLc, wLcM, wYes, wiL, wiT, wiS, wiR, wiEnT, wiEnL, wiZip, wSl, woNone, woSome, wMt, wJoin, wGet, wUn, wTru, wDNew, fin, List.getElem?_cons_zero, List.getElem?_cons_succ, List.set_cons_zero, List.set_cons_succ]
  refine ⟨d, rfl, hd, ?_⟩
  match d, hd, hk with
  | .tup (.str s :: r), hd, hk =>
    refine ix_tup (at0 _ _) ?_
    show (fun x => rdLen [.tup (.str s :: r)] M fun y M2 => rdEq id x y M2 k) (lenOf s)
    rw [show formB (.tup (.str s :: r)) = (match lenOf s with | .int i => decide (i = ((r.length + 1 : Nat) : Int)) | _ => false) from rfl] at hk
    have e : (((D.str s :: r).length : Nat) : Int) = ((r.length + 1 : Nat) : Int) := rfl
    rcases lenOf_cases s with q | q | q
    · rw [q] at hk ⊢
      exact r_lenT ⟨shaped_non, shaped_int, hk⟩
    · rw [q] at hk ⊢
      exact r_lenT (eq_int hk)
    · rw [q] at hk ⊢
      exact r_lenT (eq_int hk)
  | .tup [], _, hk => exact hk
  | .tup (.non :: _), _, hk => exact hk
  | .tup (.bl _ :: _), _, hk => exact hk
  | .tup (.int _ :: _), _, hk => exact hk
  | .tup (.tup _ :: _), _, hk => exact hk
  | .tup (.lst _ :: _), _, hk => exact hk
  | .tup (.scr _ :: _), _, hk => exact hk
  | .tup (.cel _ :: _), _, hk => exact hk
  | .tup (.ty _ :: _), _, hk => exact hk
  | .non, _, hk => exact hk
  | .bl _, _, hk => exact hk
  | .int _, _, hk => exact hk
  | .str _, _, hk => exact hk
  | .lst _, _, hk => exact hk
  | .scr _, _, hk => exact hk
  | .cel _, _, hk => exact hk
  | .ty _, _, hk => exact hk
/-- what has the form of a check -/
theorem form_cases {d : D} (h : formB d = true) : (∃ a, d = .tup [.str (Str.ofString "not"), a]) ∨ ∃ s a b, d = .tup [.str s, a, b] ∧ s ∈ [Str.ofString "is", Str.ofString "below", Str.ofString "like", Str.ofString "and", Str.ofString "or"] := by
  unfold formB at h
  split at h
  · rename_i s r
    unfold lenOf at h
    cases q : lookT kvs_LENGTHS s with
    | none => rw [q] at h; cases h
    | some x =>
      have := lookT_mem q
      rw [q] at h
      unfold kvs_LENGTHS at this
      simp only [List.mem_cons, List.not_mem_nil, or_false, Prod.mk.injEq] at this
      have two : ∀ i : Nat, r.length + 1 = i → i = 2 → ∃ a, r = [a] := fun i e1 e2 => by
        match r, e1 with
        | [a], _ => exact ⟨a, rfl⟩
        | [], e1 => simp at e1; omega
        | _ :: _ :: _, e1 => simp at e1; omega
      have three : ∀ i : Nat, r.length + 1 = i → i = 3 → ∃ a b, r = [a, b] := fun i e1 e2 => by
        match r, e1 with
        | [a, b], _ => exact ⟨a, b, rfl⟩
        | [], e1 => simp at e1; omega
        | [_], e1 => simp at e1; omega
        | _ :: _ :: _ :: _, e1 => simp at e1; omega
      rcases this with ⟨rfl, rfl⟩ | ⟨rfl, rfl⟩ | ⟨rfl, rfl⟩ | ⟨rfl, rfl⟩ | ⟨rfl, rfl⟩ | ⟨rfl, rfl⟩
      all_goals simp only [Option.getD_some, decide_eq_true_eq] at h
      · obtain ⟨a, b, rfl⟩ := three _ rfl (by omega); exact .inr ⟨_, a, b, rfl, by simp⟩
      · obtain ⟨a, b, rfl⟩ := three _ rfl (by omega); exact .inr ⟨_, a, b, rfl, by simp⟩
      · obtain ⟨a, b, rfl⟩ := three _ rfl (by omega); exact .inr ⟨_, a, b, rfl, by simp⟩
      · obtain ⟨a, rfl⟩ := two _ rfl (by omega); exact .inl ⟨a, rfl⟩
      · obtain ⟨a, b, rfl⟩ := three _ rfl (by omega); exact .inr ⟨_, a, b, rfl, by simp⟩
      · obtain ⟨a, b, rfl⟩ := three _ rfl (by omega); exact .inr ⟨_, a, b, rfl, by simp⟩
  · cases h
theorem len_is : lenOf (Str.ofString "is") = .int 3 := by rfl
theorem len_below : lenOf (Str.ofString "below") = .int 3 := by rfl
theorem len_like : lenOf (Str.ofString "like") = .int 3 := by rfl
theorem len_not : lenOf (Str.ofString "not") = .int 2 := by rfl
theorem len_and : lenOf (Str.ofString "and") = .int 3 := by rfl
theorem len_or : lenOf (Str.ofString "or") = .int 3 := by rfl
theorem form2 (w : Str) (a : D) : formB (.tup [.str w, a]) = (match lenOf w with | .int i => decide (i = 2) | _ => false) := rfl
theorem form3 (w : Str) (a b : D) : formB (.tup [.str w, a, b]) = (match lenOf w with | .int i => decide (i = 3) | _ => false) := rfl
theorem chk_form {cs : Cols} {n : Nat} {d : D} (h : formB d = false) : chkB cs n d = false := by
  cases n with
  | zero => rfl
  | succ n =>
    unfold chkB
    split
    · rfl
    · rename_i w a _
      by_cases e : w = Str.ofString "not"
      · subst e
        rw [form2, len_not] at h
        cases h
      · simp [e]
    · rename_i w a b _
      have nn : ∀ x ∈ [Str.ofString "is", Str.ofString "below", Str.ofString "like", Str.ofString "and", Str.ofString "or"], w ≠ x := fun x hx e => by
        subst e
        rw [form3] at h
        simp only [List.mem_cons, List.not_mem_nil, or_false] at hx
        rcases hx with rfl | rfl | rfl | rfl | rfl
        · rw [len_is] at h; cases h
        · rw [len_below] at h; cases h
        · rw [len_like] at h; cases h
        · rw [len_and] at h; cases h
        · rw [len_or] at h; cases h
      rw [if_neg (by rintro (e | e) <;> exact nn _ (by simp) e)]
      cases kindOf cs a with
      | none => rfl
      | some kd => simp only [nn _ (show Str.ofString "is" ∈ _ by simp), nn _ (show Str.ofString "below" ∈ _ by simp), nn _ (show Str.ofString "like" ∈ _ by simp), if_false]
    · rfl
def F_is_check (n : Nat) : FD := fun ds M k => ∃ cs d, ds = [colsD cs, d] ∧ CsOk cs ∧ okR M d ∧ far d ≤ n ∧ k (.bl (chkB cs n d)) M
theorem far_tupL {ds : List D} {n : Nat} (h : far (.tup ds) ≤ n + 1) : ∀ d ∈ ds, far d ≤ n := fun d hd => by
  rw [far_tup] at h
  exact fars_le.mp (by omega) d hd
theorem bools_mapB (p : D → Bool) : ∀ l : List D, boolsD (l.map fun d => .bl (p d)) = some (l.map p)
  | [] => rfl
  | d :: l => by rw [List.map_cons]; unfold boolsD; rw [bools_mapB p l]; rfl
theorem r_allL {M : Mem} {k : KD} {l : List D} {p : D → Bool} (hk : k (.bl (l.all p)) M) : rdAll [.lst (l.map fun d => .bl (p d))] M k := by
  unfold rdAll asR
  simp only [bools_mapB]
  have : (l.map p).all id = l.all p := by rw [List.all_map]; rfl
  rw [this]; exact hk
theorem chk_step (T : Txt K mg) (B : DD K mg) (TW : TxtW K w mg B) {n L : Nat} (hL : 3 ≤ L) (G_is_check : DFn P w K mg base L B.f_is_check B.fd_is_check p_is_check (fun ds M k => ∃ m, n = m + 1 ∧ F_is_check m ds M k)) : DFn P w K mg base (L + 1) B.f_is_check B.fd_is_check p_is_check (F_is_check n) := by
  have G_has_form : DFn P w K mg base 2 B.f_has_form B.fd_has_form p_has_form F_has_form := ok_has_form T B TW
  have G_kind_of : DFn P w K mg base 3 B.f_kind_of B.fd_kind_of p_kind_of F_kind_of := ok_kind_of T B
  have G_fits : DFn P w K mg base 3 B.f_fits B.fd_fits p_fits F_fits := ok_fits T B.d_is_whole B.d_is_number B.d_is_name B.d_fits
  have G_is_number : DFn P w K mg base 2 B.f_is_number B.fd_is_number p_is_number F_is_number := ok_is_number T B.d_is_whole B.d_is_number
  refine Fun.okD (k := L) B.d_is_check.F sc_is_check (fun cdv A outer s H E hr => (dss_cons (ds_if (dt_not (dt_val (de_own B.d_has_form G_has_form hr (by first | decide | omega) (da_cons (dv 1) da_nil)))) (dss_one (ds_ret de_bl)) dss_nil) (dss_cons (ds_set (i := 2) sc_is_check.nd (de_ix (dv 1) de_int)) (dss_cons (ds_if (dt_cmpA c_in (dv 2) (de_tup (da_cons de_str (da_cons de_str (da_cons de_str da_nil))))) (dss_one (ds_ret (de_all rfl T.b_all (de_lc rfl sc_is_check.nd (di_tup (de_slice (dv 1) (do_some de_int) do_none)) (blkOk_by (own := [("part", 3)]) (N := N_is_check) (sc := defScope s_is_check) (by decide +kernel)) (fun _ _ _ _ _ => (dg_name (i := 3) sc_is_check.nd)) gd_name (fun _ _ _ _ _ => dts_nil) (fun _ _ _ _ _ => (de_own B.d_is_check G_is_check hr (by first | decide | omega) (da_cons (dv 0) (da_cons (dv 3) da_nil)))))))) dss_nil) (dss_cons (ds_set (i := 4) sc_is_check.nd (de_own B.d_kind_of G_kind_of hr (by first | decide | omega) (da_cons (dv 0) (da_cons (de_ix (dv 1) de_int) da_nil)))) (dss_cons (ds_if (dt_cmpA c_is (dv 4) de_non) (dss_one (ds_ret de_bl)) dss_nil) (dss_cons (ds_if (dt_cmpA (c_eq hr) (dv 2) de_str) (dss_one (ds_ret (de_own B.d_fits G_fits hr (by first | decide | omega) (da_cons (dv 4) (da_cons (de_ix (dv 1) de_int) da_nil))))) dss_nil) (dss_cons (ds_if (dt_cmpA (c_eq hr) (dv 2) de_str) (dss_one (ds_ret (de_and (de_cmpA (c_eq hr) (dv 4) de_str) (de_one (de_own B.d_is_number G_is_number hr (by first | decide | omega) (da_cons (de_ix (dv 1) de_int) da_nil)))))) dss_nil) (dss_one (ds_ret (de_cmpA (c_eq hr) (de_own B.d_kind_of G_kind_of hr (by first | decide | omega) (da_cons (dv 0) (da_cons (de_ix (dv 1) de_int) da_nil))) (dv 4)))))))))))) (fun ds M k h => ?_)
  obtain ⟨cs, d, rfl, hcs, hd, hf, hk⟩ := h
  (refine ⟨rfl, ?_⟩; rw [show startD N_is_check [colsD cs, d] = [some (colsD cs), some (d), none, none, none] from rfl])
  simp only [wNext, wSeq, wBreak, wContinue, wExpr, wRet, wRetN, wIfS, wSet, wAsg, wPar, wPar3, wFor, wSub, wTst, wOp, wChain, wNotT, wAndT, wOrT, wAndV, wOrV, wNotV, wIf, wNil, wCons, wTup, wLst, wLstM, wCall, wCall0, wVar, wC, wLc, wLcM, wYes, wiL, wiT, wiS, wiR, wiEnT, wiEnL, wiZip, wSl, woNone, woSome, wMt, wJoin, wGet, wUn, wTru, wDNew, fin, List.getElem?_cons_zero, List.getElem?_cons_succ, List.set_cons_zero, List.set_cons_succ]
  refine ⟨d, rfl, hd, ?_⟩
  cases q : formB d with
  | false =>
    rw [chk_form q] at hk
    exact tt hk
  | true =>
    refine ff ?_
    have inw : D.tup [D.str (Str.ofString "not"), .str (Str.ofString "and"), .str (Str.ofString "or")] = .tup ([Str.ofString "not", Str.ofString "and", Str.ofString "or"].map D.str)   := rfl
    rcases form_cases q with ⟨a, rfl⟩ | ⟨s, a, b, rfl, hs⟩
    · unfold okR at hd
      obtain ⟨m, rfl⟩ : ∃ m, n = m + 1 := ⟨n - 1, by rw [far_tup] at hf; omega⟩
      have hfa := far_tupL hf
      refine ix_tup (at0 _ _) ⟨(show 3 ≤ sizeLine by decide), ?_⟩
      rw [inw]
      refine r_inS (tt' (by simp) ?_)
      refine r_slT ?_
      rw [show cutD [D.str (Str.ofString "not"), a] (some 1) none = [a] from rfl]
      refine lc_map (fun d => .bl (chkB cs m d)) (G := gAny) (M := M) trivial _ _ _ (fun d hm => ⟨_, rfl, fun k' hk' => ?_⟩) (z1 (by simp)) ?_
      · obtain rfl := List.mem_singleton.mp hm
        exact ⟨m, rfl, cs, d, rfl, hcs, okRs_mem hd.2 (by simp), hfa _ (by simp), hk'⟩
      · refine r_allL (l := [a]) ?_
        unfold chkB at hk
        simpa using hk
    · have hd' := hd
      unfold okR at hd
      have ha : okR M a := okRs_mem hd.2 (by simp)
      have hb : okR M b := okRs_mem hd.2 (by simp)
      refine ix_tup (at0 _ _) ⟨(show 3 ≤ sizeLine by decide), ?_⟩
      rw [inw]
      by_cases c1 : s = Str.ofString "and" ∨ s = Str.ofString "or"
      · obtain ⟨m, rfl⟩ : ∃ m, n = m + 1 := ⟨n - 1, by rw [far_tup] at hf; omega⟩
        have hfa := far_tupL hf
        refine r_inS (tt' (by rcases c1 with rfl | rfl <;> simp) ?_)
        refine r_slT ?_
        rw [show cutD [D.str s, a, b] (some 1) none = [a, b] from rfl]
        refine lc_map (fun d => .bl (chkB cs m d)) (G := gAny) (M := M) trivial _ _ _ (fun d hm => ⟨_, rfl, fun k' hk' => ?_⟩) (z1 (by simp)) ?_
        · simp only [List.mem_cons, List.not_mem_nil, or_false] at hm
          rcases hm with rfl | rfl
          · exact ⟨m, rfl, cs, d, rfl, hcs, ha, hfa _ (by simp), hk'⟩
          · exact ⟨m, rfl, cs, d, rfl, hcs, hb, hfa _ (by simp), hk'⟩
        · refine r_allL (l := [a, b]) ?_
          unfold chkB at hk
          rw [if_pos c1] at hk
          simpa using hk
      · obtain ⟨m, rfl⟩ : ∃ m, n = m + 1 := ⟨n - 1, by rw [far_tup] at hf; omega⟩
        have c0 : s ∈ [Str.ofString "is", Str.ofString "below", Str.ofString "like"] := by
          simp only [List.mem_cons, List.not_mem_nil, or_false] at hs ⊢
          rcases hs with h | h | h | h | h
          · exact .inl h
          · exact .inr (.inl h)
          · exact .inr (.inr h)
          · exact absurd (.inl h) c1
          · exact absurd (.inr h) c1
        have ns : ¬ s ∈ [Str.ofString "not", Str.ofString "and", Str.ofString "or"] := by
          simp only [List.mem_cons, List.not_mem_nil, or_false] at c0
          rcases c0 with rfl | rfl | rfl <;> decide +kernel
        refine r_inS (ff' (by rw [decide_eq_false ns]; rfl) ?_)
        unfold chkB at hk
        rw [if_neg c1] at hk
        refine ix_tup (at1 _ _ _) ⟨cs, a, rfl, ha, ?_⟩
        unfold kindD
        cases q2 : kindOf cs a with
        | none =>
          rw [q2] at hk
          exact r_isN (tt hk)
        | some kd =>
          rw [q2] at hk
          have hkd := kindOf_kd hcs.kd q2
          refine r_isS (ff (eq_strA ?_))
          simp only at hk
          by_cases w1 : s = Str.ofString "is"
          · rw [if_pos w1] at hk
            refine tt' (decide_eq_true w1) (ix_tup (at2 _ _ _ _) ⟨kd, b, rfl, ok_kd hkd, hb, hk⟩)
          · rw [if_neg w1] at hk
            refine ff' (decide_eq_false w1) (eq_strA ?_)
            by_cases w2 : s = Str.ofString "below"
            · rw [if_pos w2] at hk
              refine tt' (decide_eq_true w2) (eq_strA ?_)
              by_cases w4 : kd = Str.ofString "number"
              · simp only [w4, decide_true, Bool.true_and, id] at hk ⊢
                exact ix_tup (at2 _ _ _ _) ⟨b, rfl, hb, hk⟩
              · simp only [w4, decide_false, Bool.false_and, id] at hk ⊢
                exact hk
            · rw [if_neg w2] at hk
              have w3 : s = Str.ofString "like" := by
                simp only [List.mem_cons, List.not_mem_nil, or_false] at c0
                rcases c0 with h | h | h
                · exact absurd h w1
                · exact absurd h w2
                · exact h
              rw [if_pos w3] at hk
              refine ff' (decide_eq_false w2) (ix_tup (at2 _ _ _ _) ⟨cs, b, rfl, hb, ?_⟩)
              unfold kindD
              cases q3 : kindOf cs b with
              | none =>
                rw [q3] at hk
                refine eq_flat .non (.str kd (ok_kd hkd)) ?_
                exact hk
              | some kd2 =>
                rw [q3] at hk
                refine eq_strA ?_
                simpa using hk
theorem ok_is_check (T : Txt K mg) (B : DD K mg) (TW : TxtW K w mg B) : ∀ n, DFn P w K mg base (4 + n) B.f_is_check B.fd_is_check p_is_check (F_is_check n)
  | 0 => chk_step T B TW (L := 3) (Nat.le_refl 3) (DFn.weak DFn.none fun ds M k ⟨m, e, _⟩ => by cases e)
  | n + 1 => by
    have := chk_step T B TW (n := n + 1) (L := 4 + n) (by omega) (DFn.weak (ok_is_check T B TW n) fun ds M k ⟨m, e, h⟩ => by
      cases e
      exact h)
    exact this
end
end K04

set_option autoImplicit false
set_option maxRecDepth 100000
set_option maxHeartbeats 4000000
namespace K04
open PySem L2 DL
/-! questions, as the document has them -/
def colAt (cs : Cols) : D → Option (Str × Str)
  | .str s => if isNm s = true then cs.find? (fun c => decide (c.1 = s)) else none
  | _ => none
theorem colAt_kind (cs : Cols) (x : D) : kindOf cs x = (colAt cs x).map (·.2) := by
  cases x with
  | str s =>
    show (if isNm s = true then _ else none) = Option.map _ (if isNm s = true then _ else none)
    by_cases q : isNm s = true
    · rw [if_pos q, if_pos q]
    · rw [if_neg q, if_neg q]; rfl
  | _ => rfl
theorem colAt_mem {cs : Cols} {x : D} {c : Str × Str} (h : colAt cs x = some c) : c ∈ cs ∧ x = .str c.1 := by
  unfold colAt at h
  split at h
  · rename_i s
    split at h
    · have := List.find?_some h
      exact ⟨List.mem_of_find?_eq_some h, by rw [of_decide_eq_true this]⟩
    · cases h
  · cases h
theorem place_col (cs : Cols) (x : D) : (placeD (lst cs) x = .non ∧ colAt cs x = none) ∨ ∃ i c, placeD (lst cs) x = .int ((i : Nat) : Int) ∧ cs[i]? = some c ∧ colAt cs x = some c ∧ i < cs.length := by
  cases x with
  | str s =>
    simp only [placeD, colAt]
    by_cases q : isNm s = true
    · simp only [q, if_true]
      rcases findP_lst cs s with ⟨h1, h2⟩ | ⟨i, c, h1, h2, h3⟩
      · rw [h1, h2]; exact .inl ⟨rfl, rfl⟩
      · rw [h1, h2]; exact .inr ⟨i, c, rfl, h3, rfl, (List.getElem?_eq_some_iff.mp h3).1⟩
    · simp only [q]; exact .inl ⟨rfl, rfl⟩
  | _ => exact .inl ⟨rfl, rfl⟩
def colsAt (cs : Cols) : List D → Option Cols
  | [] => some []
  | x :: r => match colAt cs x, colsAt cs r with | some c, some l => some (c :: l) | _, _ => none
def unlikeC (l : Cols) : Option Cols := if (l.map (·.1)).Nodup then some l else none
def namedC (cs : Cols) : D → Option Cols
  | .tup xs => (match colsAt cs xs with | some l => unlikeC l | none => none)
  | _ => none
def strsN : List D → Option (List Str)
  | [] => some []
  | .str s :: r => (match isNm s, strsN r with | true, some l => some (s :: l) | _, _ => none)
  | _ :: _ => none
def calledC (cs : Cols) : D → Option Cols
  | .tup xs => if xs.length = cs.length then (match strsN xs with | some l => unlikeC (List.zipWith (fun n c => (n, c.2)) l cs) | none => none) else none
  | _ => none
def sumKind (cs : Cols) (w c : D) : Option Str := match w with
  | .str s => if s = Str.ofString "count" ∧ isNon c = true then some (Str.ofString "number") else (match kindOf cs c with
      | some k => if s = Str.ofString "least" ∨ s = Str.ofString "most" ∨ (s = Str.ofString "sum" ∧ k = Str.ofString "number") then some k else none
      | none => none)
  | _ => none
def sumCol (cs : Cols) : D → Option (Str × Str)
  | .tup [.str n, w, c] => (match sumKind cs w c with | some k => if isNm n = true then some (n, k) else none | none => none)
  | _ => none
def sumCols (cs : Cols) : List D → Option Cols
  | [] => some []
  | x :: r => match sumCol cs x, sumCols cs r with | some c, some l => some (c :: l) | _, _ => none
def sumsC (cs : Cols) (ns sms : D) : Option Cols := match namedC cs ns, sms with
  | some g, .tup (x :: r) => (match sumCols cs (x :: r) with | some l => unlikeC (g ++ l) | none => none)
  | _, _ => none
def stepB : D → Bool
  | .tup [_, .str w] => decide (w = Str.ofString "up") || decide (w = Str.ofString "down")
  | _ => false
def hd2 : D → D
  | .tup [c, _] => c
  | d => d
def orderB (cs : Cols) : D → Bool
  | .tup xs => xs.all stepB && (namedC cs (.tup (xs.map hd2))).isSome
  | _ => false
def manyB : D → Bool
  | .int i => isNumB (.int i) && decide (1 ≤ i)
  | _ => false
def pairB2 (cs ds : Cols) (c d : D) : Bool := match kindOf cs c with | some k => decide (kindOf ds d = some k) | none => false
def oneC (rec : D → Option Cols) (q : D) (f : Cols → Option Cols) : Option Cols := match rec q with | some cs => f cs | none => none
/-- what is no leaf -/
def qStep (rec : D → Option Cols) (n : Nat) : D → Option Cols
  | .tup [.str w, q] => if w = Str.ofString "once" then oneC rec q some else none
  | .tup [.str w, x, q] => if w = Str.ofString "where" then oneC rec q (fun cs => if chkB cs n x = true then some cs else none)
      else if w = Str.ofString "pick" then oneC rec q (fun cs => match x with | .tup (_ :: _) => namedC cs x | _ => none)
      else if w = Str.ofString "called" then oneC rec q (fun cs => calledC cs x) else none
  | .tup [.str w, x, y, q] => if w = Str.ofString "sums" then oneC rec q (fun cs => sumsC cs x y)
      else if w = Str.ofString "first" then oneC rec q (fun cs => if manyB x = true ∧ orderB cs y = true then some cs else none) else none
  | .tup [.str w, c, d, q, r] => if w = Str.ofString "join" then oneC rec q (fun cs => oneC rec r (fun ds => if pairB2 cs ds c d = true then unlikeC (cs ++ ds) else none))
      else if w = Str.ofString "lacking" then oneC rec q (fun cs => oneC rec r (fun ds => if pairB2 cs ds c d = true then some cs else none)) else none
  | _ => none
def headS : D → Option Str
  | .tup (.str s :: _) => some s
  | _ => none
def qCols (w : Str) (lf : D → Option Cols) : Nat → D → Option Cols
  | 0, _ => none
  | n + 1, d => if headS d = some w then lf d else qStep (qCols w lf n) n d
def tableOf (ts : List (Str × Cols)) : D → Option Cols
  | .str s => if isNm s = true then (ts.find? fun t => decide (t.1 = s)).map (·.2) else none
  | _ => none
def leafAll (ts : List (Str × Cols)) : D → Option Cols
  | .tup [_, t] => tableOf ts t
  | _ => none
def optD : Option Cols → D
  | some cs => colsD cs
  | none => .non
/-! how many things there are in it -/
mutual
def cnt : D → Nat
  | .tup ds => cnts ds
  | _ => 0
def cnts : List D → Nat
  | [] => 0
  | d :: ds => cnt d + 1 + cnts ds
end
/-- the columns are sound, and not too many -/
structure Snd (n : Nat) (cs : Cols) : Prop where
  nm : ∀ c ∈ cs, isNm c.1 = true
  kd : ∀ c ∈ cs, Kd c.2
  le : cs.length ≤ n
theorem Snd.cs {n : Nat} {cs : Cols} (h : Snd n cs) (hn : n ≤ 4000) : CsOk cs := ⟨h.nm, h.kd, Nat.le_trans h.le hn⟩
theorem Snd.up {n m : Nat} {cs : Cols} (h : Snd n cs) (hn : n ≤ m) : Snd m cs := ⟨h.nm, h.kd, Nat.le_trans h.le hn⟩
theorem colsAt_sub {cs : Cols} : ∀ {xs : List D} {l : Cols}, colsAt cs xs = some l → (∀ c ∈ l, c ∈ cs) ∧ l.length = xs.length
  | [], l, h => by cases h; exact ⟨fun c hc => (by cases hc), rfl⟩
  | x :: r, l, h => by
    unfold colsAt at h
    split at h
    · rename_i c m h1 h2
      cases h
      obtain ⟨a, b⟩ := colsAt_sub h2
      refine ⟨fun d hd => ?_, by rw [List.length_cons, b, List.length_cons]⟩
      rcases List.mem_cons.mp hd with e | e
      · rw [e]; exact (colAt_mem h1).1
      · exact a d e
    · cases h
theorem unlike_some {l m : Cols} (h : unlikeC l = some m) : m = l ∧ (l.map (·.1)).Nodup := by
  unfold unlikeC at h
  split at h
  · rename_i q; cases h; exact ⟨rfl, q⟩
  · cases h
theorem nodup_sub_len {cs l : Cols} (h : ∀ c ∈ l, c ∈ cs) (hn : (l.map (·.1)).Nodup) : l.length ≤ cs.length := by
  have nd : l.Nodup := by
    rw [List.nodup_iff_pairwise_ne, List.pairwise_map] at hn
    rw [List.nodup_iff_pairwise_ne]
    exact hn.imp fun h e => h (by rw [e])
  rcases Nat.lt_or_ge cs.length l.length with q | q
  · have := (TS.perm_of_sub nd h (Nat.le_of_lt q)).length_eq
    omega
  · exact q
theorem named_snd {n : Nat} {cs l : Cols} {d : D} (hs : Snd n cs) (h : namedC cs d = some l) : Snd n l := by
  unfold namedC at h
  split at h
  · split at h
    · rename_i m hm
      obtain ⟨rfl, nd⟩ := unlike_some h
      obtain ⟨a, b⟩ := colsAt_sub hm
      exact ⟨fun c hc => hs.nm c (a c hc), fun c hc => hs.kd c (a c hc), Nat.le_trans (nodup_sub_len a nd) hs.le⟩
    · cases h
  · cases h
end K04

set_option autoImplicit false
set_option maxRecDepth 100000
set_option maxHeartbeats 4000000
namespace K04
open PySem L2 DL
section
variable {P : Program} {w : World} {K : PySem.W.Frag} {mg : Str → Option Value} {base : Heap}
def InC (M : Mem) (x : D) (l : List Cols) : Prop := ∃ p, x = .cel p ∧ M p = some (.lst (l.map colsD))
theorem in0 {M : Mem} {x : D} {c : Cols} {l : List Cols} {k : KD} (h : InC M x (c :: l)) (hk : k (colsD c) M) : rdIx x (.int 0) M k := by
  obtain ⟨p, rfl, e⟩ := h
  exact ix_cel e (at0 _ _) hk
theorem in1 {M : Mem} {x : D} {c d : Cols} {l : List Cols} {k : KD} (h : InC M x (c :: d :: l)) (hk : k (colsD d) M) : rdIx x (.int 1) M k := by
  obtain ⟨p, rfl, e⟩ := h
  exact ix_cel e (at1 _ _ _) hk
theorem in_non {ps : List D} (h : ∀ d ∈ ps, d = .non ∨ ∃ i, d = .int i) : ∃ vs, flatsD ps = some vs ∧ inV .non vs = ps.any isNon := by
  induction ps with
  | nil => exact ⟨[], rfl, rfl⟩
  | cons d r ih =>
    obtain ⟨vs, e1, e2⟩ := ih fun x hx => h x (List.mem_cons_of_mem _ hx)
    unfold inV at e2
    rcases h d List.mem_cons_self with rfl | ⟨i, rfl⟩
    · exact ⟨V.non :: vs, by unfold flatsD; rw [e1]; rfl, rfl⟩
    · refine ⟨V.int i :: vs, by unfold flatsD; rw [e1]; rfl, ?_⟩
      unfold inV
      rw [List.any_cons, List.any_cons, e2]
      rfl
theorem r_inNon {M : Mem} {k : KD} {f : Bool → Bool} {ps : List D} (h : ∀ d ∈ ps, d = .non ∨ ∃ i, d = .int i) (hk : k (.bl (f (ps.any isNon))) M) : rdIn f .non (.lst ps) M k := by
  obtain ⟨vs, e1, e2⟩ := in_non h
  unfold rdIn seqD asR
  simp only [flatD, e1, e2]
  exact hk
def F_places_of : FD := fun ds M k => ∃ (l : List (Str × D)) (xs : List D), ds = [.tup (l.map pr), .tup xs] ∧ xs.length ≤ 1000 ∧ (∀ x ∈ xs, okR M x) ∧ k (.lst (xs.map (placeD l))) M
theorem ok_places_of (T : Txt K mg) (B : DD K mg) : DFn P w K mg base 3 B.f_places_of B.fd_places_of p_places_of F_places_of := by
  have G_place_of : DFn P w K mg base 2 B.f_place_of B.fd_place_of p_place_of F_place_of := ok_place_of T B
  refine Fun.okD B.d_places_of.F sc_places_of (fun cdv A outer s H E hr => (dss_one (ds_ret (de_lc rfl sc_places_of.nd (di_tup (dv 1)) (blkOk_by (own := [("name", 2)]) (N := N_places_of) (sc := defScope s_places_of) (by decide +kernel)) (fun _ _ _ _ _ => (dg_name (i := 2) sc_places_of.nd)) gd_name (fun _ _ _ _ _ => dts_nil) (fun _ _ _ _ _ => (de_own B.d_place_of G_place_of hr (by first | decide | omega) (da_cons (dv 0) (da_cons (dv 2) da_nil)))))))) (fun ds M k h => ?_)
  obtain ⟨l, xs, rfl, hl, hx, hk⟩ := h
  (refine ⟨rfl, ?_⟩; rw [show startD N_places_of [.tup (l.map pr), .tup xs] = [some (.tup (l.map pr)), some (.tup xs), none] from rfl])
  simp only [wNext, wSeq, wBreak, wContinue, wExpr, wRet, wRetN, wIfS, wSet, wAsg, wPar, wPar3, wFor, wSub, wTst, wOp, wChain, wNotT, wAndT, wOrT, wAndV, wOrV, wNotV, wIf, wNil, wCons, wTup, wLst, wLstM, wCall, wCall0, wVar, wC, wLc, wLcM, wYes, wiL, wiT, wiS, wiR, wiEnT, wiEnL, wiZip, wSl, woNone, woSome, wMt, wJoin, wGet, wUn, wTru, wDNew, fin, List.getElem?_cons_zero, List.getElem?_cons_succ, List.set_cons_zero, List.set_cons_succ]
  exact lc_map (placeD l) (G := gAny) (M := M) trivial _ _ _ (fun d hd => ⟨_, rfl, fun k' hk' => ⟨l, d, rfl, hx d hd, hk'⟩⟩) (z1 (by simp; omega)) hk
def F_unlike : FD := fun ds M k => ∃ cs : Cols, ds = [colsD cs] ∧ cs.length ≤ 4000 ∧ k (optD (unlikeC cs)) M
theorem strs_cols (cs : Cols) : (cs.map colD).map (fun d => match d with | .tup [n, _] => n | d => d) = (cs.map (·.1)).map D.str := by
  rw [List.map_map, List.map_map]; rfl
theorem strsD_map (l : List Str) : strsD (l.map D.str) = some l := by
  induction l with
  | nil => rfl
  | cons s r ih => rw [List.map_cons]; unfold strsD; rw [ih]
theorem r_lenSetL {M : Mem} {k : KD} {l : List Str} (h : l.length ≤ 4000) (hk : k (.int (TS.uni l).length) M) : rdLenSet [.lst (l.map D.str)] M k := by
  unfold rdLenSet asR
  simp only [strsD_map]
  exact ⟨by show _ < 4096; omega, hk⟩
theorem uni_eq (l : List Str) : decide (((TS.uni l).length : Int) = (l.length : Int)) = decide l.Nodup := by
  rw [decide_eq_decide]
  constructor
  · intro h
    have p := TS.perm_of_sub (TS.uni_nd l) (fun x hx => (TS.uni_mem l x).mp hx) (by omega : l.length ≤ (TS.uni l).length)
    exact p.nodup_iff.mpr (TS.uni_nd l)
  · intro h
    have := ((List.perm_ext_iff_of_nodup h (TS.uni_nd l)).mpr fun x => (TS.uni_mem l x).symm).length_eq
    omega
theorem ok_unlike (T : Txt K mg) (B : DD K mg) : DFn P w K mg base 1 B.f_with_unlike_names B.fd_with_unlike_names p_with_unlike_names F_unlike := by
  refine Fun.okD B.d_with_unlike_names.F sc_with_unlike_names (fun cdv A outer s H E hr => (dss_cons (ds_if (dt_cmpA (c_ne hr) (de_lenSet rfl T.b_len T.b_set (de_lc rfl sc_with_unlike_names.nd (di_tup (dv 0)) (blkOk_by (own := [("name", 1), ("_", 2)]) (N := N_with_unlike_names) (sc := defScope s_with_unlike_names) (by decide +kernel)) (fun _ _ _ _ _ => (dg_tup rfl (dgs_cons (dg_name (i := 1) sc_with_unlike_names.nd) (dgs_cons (dg_name (i := 2) sc_with_unlike_names.nd) dgs_nil)) (gsCons_len (gsCons_len gsNil_len)))) (gd_tup (gds_cons gd_name (gds_cons gd_name gds_nil)) (gsCons_len (gsCons_len gsNil_len))) (fun _ _ _ _ _ => dts_nil) (fun _ _ _ _ _ => (dv 1)))) (de_len T.b_len (dv 0))) (dss_one (ds_ret de_non)) dss_nil) (dss_one (ds_ret (dv 0))))) (fun ds M k h => ?_)
  obtain ⟨cs, rfl, hl, hk⟩ := h
  (refine ⟨rfl, ?_⟩; rw [show startD N_with_unlike_names [colsD cs] = [some (colsD cs), none, none] from rfl])
  simp only [wNext, wSeq, wBreak, wContinue, wExpr, wRet, wRetN, wIfS, wSet, wAsg, wPar, wPar3, wFor, wSub, wTst, wOp, wChain, wNotT, wAndT, wOrT, wAndV, wOrV, wNotV, wIf, wNil, wCons, wTup, wLst, wLstM, wCall, wCall0, wVar, wC, wLc, wLcM, wYes, wiL, wiT, wiS, wiR, wiEnT, wiEnL, wiZip, wSl, woNone, woSome, wMt, wJoin, wGet, wUn, wTru, wDNew, fin, List.getElem?_cons_zero, List.getElem?_cons_succ, List.set_cons_zero, List.set_cons_succ, colsD]
  refine lc_map (fun d => match d with | .tup [n, _] => n | d => d) (G := gAny) (M := M) trivial _ _ _ (fun d hd => ?_) (z1 (by simp; omega)) ?_
  · obtain ⟨c, hc, rfl⟩ := List.mem_map.mp hd
    exact ⟨_, rfl, fun k' hk' => hk'⟩
  · rw [List.nil_append, strs_cols]
    refine r_lenSetL (by rw [List.length_map]; exact hl) (r_lenT (eq_int ?_))
    have e := uni_eq (cs.map (·.1))
    rw [List.length_map] at e
    rw [List.length_map, e]
    unfold unlikeC at hk
    by_cases q : (cs.map (·.1)).Nodup
    · rw [if_pos q] at hk
      rw [decide_eq_true q]; exact ff hk
    · rw [if_neg q] at hk
      rw [decide_eq_false q]; exact tt hk
/-- the columns by their places -/
def atF (cs : Cols) : D → D
  | .int i => (match cs[i.toNat]? with | some c => colD c | none => .non)
  | d => d
theorem places_cols (cs : Cols) : ∀ xs : List D, (∀ d ∈ xs.map (placeD (lst cs)), d = .non ∨ ∃ i : Nat, d = .int i ∧ i < cs.length) ∧ ((xs.map (placeD (lst cs))).any isNon = true ∧ colsAt cs xs = none ∨
    (xs.map (placeD (lst cs))).any isNon = false ∧ ∃ l, colsAt cs xs = some l ∧ (xs.map (placeD (lst cs))).map (atF cs) = l.map colD)
  | [] => ⟨fun d hd => (by cases hd), .inr ⟨rfl, [], rfl, rfl⟩⟩
  | x :: r => by
    obtain ⟨h1, h2⟩ := places_cols cs r
    rw [List.map_cons, List.any_cons]
    rcases place_col cs x with ⟨e1, e2⟩ | ⟨i, c, e1, e2, e3, e4⟩
    · refine ⟨fun d hd => ?_, .inl ⟨by rw [e1]; rfl, by unfold colsAt; rw [e2]⟩⟩
      rcases List.mem_cons.mp hd with z | z
      · rw [z, e1]; exact .inl rfl
      · exact h1 d z
    · refine ⟨fun d hd => ?_, ?_⟩
      · rcases List.mem_cons.mp hd with z | z
        · rw [z, e1]; exact .inr ⟨i, rfl, e4⟩
        · exact h1 d z
      · rcases h2 with ⟨a, b⟩ | ⟨a, l, b, c'⟩
        · exact .inl ⟨by rw [a]; simp, by unfold colsAt; rw [e3, b]⟩
        · refine .inr ⟨by rw [a, e1]; rfl, c :: l, by unfold colsAt; rw [e3, b], ?_⟩
          rw [List.map_cons, c', List.map_cons, e1]
          have : atF cs (.int (i : Nat)) = colD c := by simp only [atF, Int.toNat_natCast, e2]
          rw [this]
def F_named_columns : FD := fun ds M k => ∃ (cs : Cols) (d : D), ds = [colsD cs, d] ∧ cs.length ≤ 4000 ∧ okR M d ∧ k (optD (namedC cs d)) M
theorem ok_named_columns (T : Txt K mg) (B : DD K mg) : DFn P w K mg base 4 B.f_named_columns B.fd_named_columns p_named_columns F_named_columns := by
  have G_places_of : DFn P w K mg base 3 B.f_places_of B.fd_places_of p_places_of F_places_of := ok_places_of T B
  have G_with_unlike_names : DFn P w K mg base 1 B.f_with_unlike_names B.fd_with_unlike_names p_with_unlike_names F_unlike := ok_unlike T B
  refine Fun.okD B.d_named_columns.F sc_named_columns (fun cdv A outer s H E hr => (dss_cons (ds_if (dt_cmpA c_isn (de_type T.b_type (dv 1)) (de_ty (n := "tuple") T.b_tuple (by decide +kernel))) (dss_one (ds_ret de_non)) dss_nil) (dss_cons (ds_set (i := 2) sc_named_columns.nd (de_own B.d_places_of G_places_of hr (by first | decide | omega) (da_cons (dv 0) (da_cons (dv 1) da_nil)))) (dss_cons (ds_if (dt_cmpA c_in de_non (dv 2)) (dss_one (ds_ret de_non)) dss_nil) (dss_one (ds_ret (de_own B.d_with_unlike_names G_with_unlike_names hr (by first | decide | omega) (da_cons (de_tuple T.b_tuple (de_lc rfl sc_named_columns.nd (di_list (dv 2)) (blkOk_by (own := [("place", 3)]) (N := N_named_columns) (sc := defScope s_named_columns) (by decide +kernel)) (fun _ _ _ _ _ => (dg_name (i := 3) sc_named_columns.nd)) gd_name (fun _ _ _ _ _ => dts_nil) (fun _ _ _ _ _ => (de_ix (dv 0) (dv 3))))) da_nil)))))))) (fun ds M k h => ?_)
  obtain ⟨cs, d, rfl, hl, hd, hk⟩ := h
  (refine ⟨rfl, ?_⟩; rw [show startD N_named_columns [colsD cs, d] = [some (colsD cs), some (d), none, none] from rfl])
  simp only [wNext, wSeq, wBreak, wContinue, wExpr, wRet, wRetN, wIfS, wSet, wAsg, wPar, wPar3, wFor, wSub, wTst, wOp, wChain, wNotT, wAndT, wOrT, wAndV, wOrV, wNotV, wIf, wNil, wCons, wTup, wLst, wLstM, wCall, wCall0, wVar, wC, wLc, wLcM, wYes, wiL, wiT, wiS, wiR, wiEnT, wiEnL, wiZip, wSl, woNone, woSome, wMt, wJoin, wGet, wUn, wTru, wDNew, fin, List.getElem?_cons_zero, List.getElem?_cons_succ, List.set_cons_zero, List.set_cons_succ]
  refine ty_tup hd ?_
  cases d with
  | tup xs =>
    unfold okR at hd
    refine ff ⟨lst cs, xs, by rw [lst_pr], hd.1, fun x hx => okRs_mem hd.2 hx, ?_⟩
    obtain ⟨h1, h2⟩ := places_cols cs xs
    refine r_inNon (fun d hd => ?_) ?_
    · rcases h1 d hd with e | ⟨i, e, _⟩
      · exact .inl e
      · exact .inr ⟨_, e⟩
    rcases h2 with ⟨a, b⟩ | ⟨a, l, b, c⟩
    · simp only [namedC, b] at hk
      rw [a]; exact tt hk
    · simp only [namedC, b] at hk
      rw [a]
      refine ff ?_
      simp only [asR]
      refine lc_map (atF cs) (G := gAt (.lst (xs.map (placeD (lst cs)))) (xs.map (placeD (lst cs)))) (M := M) rfl _ _ _ (fun d hd => ⟨_, rfl, fun k' hk' => ?_⟩) (z1 (by simp; omega)) ?_
      · have nn : d ≠ .non := fun e => by
          subst e
          have : (xs.map (placeD (lst cs))).any isNon = true := List.any_eq_true.mpr ⟨_, hd, rfl⟩
          rw [a] at this; cases this
        rcases h1 d hd with e | ⟨i, rfl, hi⟩
        · exact absurd e nn
        · simp only [wNext, wSeq, wBreak, wContinue, wExpr, wRet, wRetN, wIfS, wSet, wAsg, wPar, wPar3, wFor, wSub, wTst, wOp, wChain, wNotT, wAndT, wOrT, wAndV, wOrV, wNotV, wIf, wNil, wCons, wTup, wLst, wLstM, wCall, wCall0, wVar, wC, wLc, wLcM, wYes, wiL, wiT, wiS, wiR, wiEnT, wiEnL, wiZip, wSl, woNone, woSome, wMt, wJoin, wGet, wUn, wTru, wDNew, fin, List.getElem?_cons_zero, List.getElem?_cons_succ, List.set_cons_zero, List.set_cons_succ, wipeD, List.map, colsD]
          have e : cs[i]? = some cs[i] := List.getElem?_eq_getElem hi
          refine ix_tup (d := colD cs[i]) (atI_nat (by rw [List.getElem?_map, e]; rfl)) ?_
          simp only [atF, Int.toNat_natCast, e] at hk'
          exact hk'
      · rw [List.nil_append, c]
        have ln := (colsAt_sub b).2
        exact r_tupL ⟨l, rfl, by omega, hk⟩
  | _ => exact tt hk
/-! each form's columns -/
def F_where (n : Nat) : FD := fun ds M k => ∃ (w x q i : D) (cs : Cols) (l : List Cols), ds = [.tup [w, x, q], i] ∧ InC M i (cs :: l) ∧ CsOk cs ∧ okR M x ∧ far x ≤ n ∧ k (optD (if chkB cs n x = true then some cs else none)) M
theorem ok_where (T : Txt K mg) (B : DD K mg) (TW : TxtW K w mg B) (n : Nat) : DFn P w K mg base (5 + n) B.f_where_columns B.fd_where_columns p_where_columns (F_where n) := by
  have G_is_check : DFn P w K mg base (4 + n) B.f_is_check B.fd_is_check p_is_check (F_is_check n) := ok_is_check T B TW n
  refine DFn.mono (j := 4 + n + 1) ?_ (by omega)
  refine Fun.okD (k := 4 + n) B.d_where_columns.F sc_where_columns (fun cdv A outer s H E hr => (dss_cons (ds_if (dt_not (dt_val (de_own B.d_is_check G_is_check hr (by first | decide | omega) (da_cons (de_ix (dv 1) de_int) (da_cons (de_ix (dv 0) de_int) da_nil))))) (dss_one (ds_ret de_non)) dss_nil) (dss_one (ds_ret (de_ix (dv 1) de_int))))) (fun ds M k h => ?_)
  obtain ⟨w', x, q, i, cs, l, rfl, hi, hcs, hx, hf, hk⟩ := h
  (refine ⟨rfl, ?_⟩; rw [show startD N_where_columns [.tup [w', x, q], i] = [some (.tup [w', x, q]), some (i)] from rfl])
  simp only [wNext, wSeq, wBreak, wContinue, wExpr, wRet, wRetN, wIfS, wSet, wAsg, wPar, wPar3, wFor, wSub, wTst, wOp, wChain, wNotT, wAndT, wOrT, wAndV, wOrV, wNotV, wIf, wNil, wCons, wTup, wLst, wLstM, wCall, wCall0, wVar, wC, wLc, wLcM, wYes, wiL, wiT, wiS, wiR, wiEnT, wiEnL, wiZip, wSl, woNone, woSome, wMt, wJoin, wGet, wUn, wTru, wDNew, fin, List.getElem?_cons_zero, List.getElem?_cons_succ, List.set_cons_zero, List.set_cons_succ]
  refine in0 hi (ix_tup (at1 _ _ _) ⟨cs, x, rfl, hcs, hx, hf, ?_⟩)
  cases e : chkB cs n x with
  | true => rw [e] at hk; exact ff (in0 hi hk)
  | false => rw [e] at hk; exact tt hk
def F_pick_columns : FD := fun ds M k => ∃ (w x q i : D) (cs : Cols) (l : List Cols), ds = [.tup [w, x, q], i] ∧ InC M i (cs :: l) ∧ cs.length ≤ 4000 ∧ okR M x ∧ k (optD (match x with | .tup (_ :: _) => namedC cs x | _ => none)) M
theorem ok_pick_columns (T : Txt K mg) (B : DD K mg) : DFn P w K mg base 5 B.f_pick_columns B.fd_pick_columns p_pick_columns F_pick_columns := by
  have G_named_columns : DFn P w K mg base 4 B.f_named_columns B.fd_named_columns p_named_columns F_named_columns := ok_named_columns T B
  refine Fun.okD B.d_pick_columns.F sc_pick_columns (fun cdv A outer s H E hr => (dss_cons (ds_set (i := 2) sc_pick_columns.nd (de_own B.d_named_columns G_named_columns hr (by first | decide | omega) (da_cons (de_ix (dv 1) de_int) (da_cons (de_ix (dv 0) de_int) da_nil)))) (dss_cons (ds_if (dt_not (dt_truth (dv 2))) (dss_one (ds_ret de_non)) dss_nil) (dss_one (ds_ret (dv 2)))))) (fun ds M k h => ?_)
  obtain ⟨w', x, q, i, cs, l, rfl, hi, hl, hx, hk⟩ := h
  (refine ⟨rfl, ?_⟩; rw [show startD N_pick_columns [.tup [w', x, q], i] = [some (.tup [w', x, q]), some (i), none] from rfl])
  simp only [wNext, wSeq, wBreak, wContinue, wExpr, wRet, wRetN, wIfS, wSet, wAsg, wPar, wPar3, wFor, wSub, wTst, wOp, wChain, wNotT, wAndT, wOrT, wAndV, wOrV, wNotV, wIf, wNil, wCons, wTup, wLst, wLstM, wCall, wCall0, wVar, wC, wLc, wLcM, wYes, wiL, wiT, wiS, wiR, wiEnT, wiEnL, wiZip, wSl, woNone, woSome, wMt, wJoin, wGet, wUn, wTru, wDNew, fin, List.getElem?_cons_zero, List.getElem?_cons_succ, List.set_cons_zero, List.set_cons_succ]
  refine in0 hi (ix_tup (at1 _ _ _) ⟨cs, x, rfl, hl, hx, ?_⟩)
  cases e : namedC cs x with
  | none =>
    have : (match x with | .tup (_ :: _) => namedC cs x | _ => none) = none := by
      split
      · exact e
      · rfl
    rw [this] at hk
    exact (by simp only [Bool.not_false, if_true]; exact hk : (if (!false) = true then k D.non M else k (optD none) M))
  | some m =>
    cases x with
    | tup xs =>
      cases xs with
      | nil => cases e; exact (tt (B := k (optD (some [])) M) hk)
      | cons y r =>
        simp only [e] at hk
        have hm : m ≠ [] := fun z => by
          simp only [namedC] at e
          split at e
          · rename_i l' hl'
            obtain ⟨e2, _⟩ := unlike_some e
            have := (colsAt_sub hl').2
            rw [← e2, z] at this; simp at this
          · cases e
        cases m with
        | nil => exact absurd rfl hm
        | cons a b => exact (ff (A := k .non M) hk)
    | _ => cases e
theorem strsN_all : ∀ xs : List D, (xs.all isNameB = true ∧ ∃ l, strsN xs = some l ∧ xs = l.map D.str) ∨ (xs.all isNameB = false ∧ strsN xs = none)
  | [] => .inl ⟨rfl, [], rfl, rfl⟩
  | x :: r => by
    cases x with
    | str s =>
      rw [List.all_cons]
      unfold strsN
      show ((isNm s && _) = true ∧ _) ∨ ((isNm s && _) = false ∧ _)
      cases q : isNm s with
      | false => exact .inr ⟨rfl, rfl⟩
      | true =>
        rcases strsN_all r with ⟨a, l, b, c⟩ | ⟨a, b⟩
        · rw [b]; exact .inl ⟨a, s :: l, rfl, by rw [c]; rfl⟩
        · rw [b]; exact .inr ⟨a, rfl⟩
    | _ => exact .inr ⟨rfl, rfl⟩
def F_called_columns : FD := fun ds M k => ∃ (w x q i : D) (cs : Cols) (l : List Cols), ds = [.tup [w, x, q], i] ∧ InC M i (cs :: l) ∧ cs.length ≤ 4000 ∧ okR M x ∧ k (optD (calledC cs x)) M
theorem ok_called_columns (T : Txt K mg) (B : DD K mg) : DFn P w K mg base 2 B.f_called_columns B.fd_called_columns p_called_columns F_called_columns := by
  have G_is_name : DFn P w K mg base 1 B.f_is_name B.fd_is_name p_is_name F_is_name := ok_is_name T B.d_is_name
  have G_with_unlike_names : DFn P w K mg base 1 B.f_with_unlike_names B.fd_with_unlike_names p_with_unlike_names F_unlike := ok_unlike T B
  refine Fun.okD B.d_called_columns.F sc_called_columns (fun cdv A outer s H E hr => (dss_cons (ds_set (i := 2) sc_called_columns.nd (de_ix (dv 0) de_int)) (dss_cons (ds_if (dw_pt (dw_or (dt_cmpA c_isn (de_type T.b_type (dv 2)) (de_ty (n := "tuple") T.b_tuple (by decide +kernel))) (dw_or1 (dt_cmpA (c_ne hr) (de_len T.b_len (dv 2)) (de_len T.b_len (de_ix (dv 1) de_int)))))) (dss_one (ds_ret de_non)) dss_nil) (dss_cons (ds_if (dt_not (dt_val (de_all rfl T.b_all (de_lc rfl sc_called_columns.nd (di_tup (dv 2)) (blkOk_by (own := [("name", 3)]) (N := N_called_columns) (sc := defScope s_called_columns) (by decide +kernel)) (fun _ _ _ _ _ => (dg_name (i := 3) sc_called_columns.nd)) gd_name (fun _ _ _ _ _ => dts_nil) (fun _ _ _ _ _ => (de_own B.d_is_name G_is_name hr (by first | decide | omega) (da_cons (dv 3) da_nil))))))) (dss_one (ds_ret de_non)) dss_nil) (dss_one (ds_ret (de_own B.d_with_unlike_names G_with_unlike_names hr (by first | decide | omega) (da_cons (de_tuple T.b_tuple (de_lc rfl sc_called_columns.nd (di_zip T.b_zip (da_cons (dv 2) (da_cons (de_ix (dv 1) de_int) da_nil))) (blkOk_by (own := [("name", 3), ("_", 4), ("kind", 5)]) (N := N_called_columns) (sc := defScope s_called_columns) (by decide +kernel)) (fun _ _ _ _ _ => (dg_tup rfl (dgs_cons (dg_name (i := 3) sc_called_columns.nd) (dgs_cons (dg_tup rfl (dgs_cons (dg_name (i := 4) sc_called_columns.nd) (dgs_cons (dg_name (i := 5) sc_called_columns.nd) dgs_nil)) (gsCons_len (gsCons_len gsNil_len))) dgs_nil)) (gsCons_len (gsCons_len gsNil_len)))) (gd_tup (gds_cons gd_name (gds_cons (gd_tup (gds_cons gd_name (gds_cons gd_name gds_nil)) (gsCons_len (gsCons_len gsNil_len))) gds_nil)) (gsCons_len (gsCons_len gsNil_len))) (fun _ _ _ _ _ => dts_nil) (fun _ _ _ _ _ => (de_tup (da_cons (dv 3) (da_cons (dv 5) da_nil)))))) da_nil)))))))) (fun ds M k h => ?_)
  obtain ⟨w', x, q, i, cs, l, rfl, hi, hl, hx, hk⟩ := h
  (refine ⟨rfl, ?_⟩; rw [show startD N_called_columns [.tup [w', x, q], i] = [some (.tup [w', x, q]), some (i), none, none, none, none] from rfl])
  simp only [wNext, wSeq, wBreak, wContinue, wExpr, wRet, wRetN, wIfS, wSet, wAsg, wPar, wPar3, wFor, wSub, wTst, wOp, wChain, wNotT, wAndT, wOrT, wAndV, wOrV, wNotV, wIf, wNil, wCons, wTup, wLst, wLstM, wCall, wCall0, wVar, wC, wLc, wLcM, wYes, wiL, wiT, wiS, wiR, wiEnT, wiEnL, wiZip, wSl, woNone, woSome, wMt, wJoin, wGet, wUn, wTru, wDNew, fin, List.getElem?_cons_zero, List.getElem?_cons_succ, List.set_cons_zero, List.set_cons_succ]
  refine ix_tup (at1 _ _ _) (ty_tup hx ?_)
  cases x with
  | tup xs =>
    unfold okR at hx
    refine ff (r_lenT (in0 hi (r_lenT (eq_int ?_))))
    by_cases hlen : xs.length = cs.length
    · simp only [calledC, hlen, if_true] at hk
      have : decide ((xs.length : Int) = ((cs.map colD).length : Int)) = true := decide_eq_true (by rw [List.length_map]; omega)
      rw [this]
      refine ff ?_
      refine lc_map (fun d => .bl (isNameB d)) (G := gAny) (M := M) trivial _ _ _ (fun d hm => ⟨_, rfl, fun k' hk' => ⟨okR_D (okRs_mem hx.2 hm), hk'⟩⟩) (z1 (by simp; omega)) (r_allL ?_)
      rcases strsN_all xs with ⟨a, m, b, rfl⟩ | ⟨a, b⟩
      · rw [b] at hk
        rw [a]
        refine ff (in0 hi ?_)
        have lm : m.length = cs.length := by simpa using hlen
        refine lc_map (fun d => match d with | .tup [n, .tup [_, k]] => .tup [n, k] | d => d) (G := gAny) (M := M) trivial _ _ _ (fun d hd => ?_) (z1 (by rw [zipD_len]; simp; omega)) ?_
        · obtain ⟨j, hj⟩ := List.mem_iff_getElem?.mp hd
          obtain ⟨x, y, hx', hy', rfl⟩ := zipD_get hj
          have hx2 := List.mem_of_getElem? hx'
          have hy2 := List.mem_of_getElem? hy'
          obtain ⟨s, _, rfl⟩ := List.mem_map.mp hx2
          obtain ⟨c, _, rfl⟩ := List.mem_map.mp hy2
          exact ⟨_, rfl, fun k' hk' => ⟨(show 2 ≤ sizeLine by decide), hk'⟩⟩
        · rw [List.nil_append]
          have e : (zipD (m.map D.str) (cs.map colD)).map (fun d => match d with | .tup [n, .tup [_, k]] => .tup [n, k] | d => d) = (List.zipWith (fun n (c : Str × Str) => (n, c.2)) m cs).map colD := by
            unfold zipD
            rw [List.map_zipWith, List.map_zipWith, List.zipWith_map]
            rfl
          rw [e]
          refine r_tupL ⟨_, rfl, by rw [List.length_zipWith]; omega, hk⟩
      · rw [b] at hk
        rw [a]; exact tt hk
    · simp only [calledC, hlen, if_false] at hk
      have : decide ((xs.length : Int) = ((cs.map colD).length : Int)) = false := decide_eq_false (by rw [List.length_map]; omega)
      rw [this]; exact tt hk
  | _ => exact tt hk
def F_paired : FD := fun ds M k => ∃ (w c d i : D) (r : List D) (cs es : Cols) (l : List Cols), ds = [.tup (w :: c :: d :: r), i] ∧ InC M i (cs :: es :: l) ∧ (∀ c ∈ cs, Kd c.2) ∧ (∀ c ∈ es, Kd c.2) ∧ okR M c ∧ okR M d ∧ k (.bl (pairB2 cs es c d)) M
theorem ok_paired (T : Txt K mg) (B : DD K mg) : DFn P w K mg base 4 B.f_are_paired B.fd_are_paired p_are_paired F_paired := by
  have G_kind_of : DFn P w K mg base 3 B.f_kind_of B.fd_kind_of p_kind_of F_kind_of := ok_kind_of T B
  refine Fun.okD B.d_are_paired.F sc_are_paired (fun cdv A outer s H E hr => (dss_cons (ds_set (i := 2) sc_are_paired.nd (de_own B.d_kind_of G_kind_of hr (by first | decide | omega) (da_cons (de_ix (dv 1) de_int) (da_cons (de_ix (dv 0) de_int) da_nil)))) (dss_one (ds_ret (de_and (de_cmpA c_isn (dv 2) de_non) (de_one (de_cmpA (c_eq hr) (dv 2) (de_own B.d_kind_of G_kind_of hr (by first | decide | omega) (da_cons (de_ix (dv 1) de_int) (da_cons (de_ix (dv 0) de_int) da_nil)))))))))) (fun ds M k h => ?_)
  obtain ⟨w', c, d, i, r, cs, es, l, rfl, hi, hk1, hk2, hc, hd, hk⟩ := h
  (refine ⟨rfl, ?_⟩; rw [show startD N_are_paired [.tup (w' :: c :: d :: r), i] = [some (.tup (w' :: c :: d :: r)), some (i), none] from rfl])
  simp only [wNext, wSeq, wBreak, wContinue, wExpr, wRet, wRetN, wIfS, wSet, wAsg, wPar, wPar3, wFor, wSub, wTst, wOp, wChain, wNotT, wAndT, wOrT, wAndV, wOrV, wNotV, wIf, wNil, wCons, wTup, wLst, wLstM, wCall, wCall0, wVar, wC, wLc, wLcM, wYes, wiL, wiT, wiS, wiR, wiEnT, wiEnL, wiZip, wSl, woNone, woSome, wMt, wJoin, wGet, wUn, wTru, wDNew, fin, List.getElem?_cons_zero, List.getElem?_cons_succ, List.set_cons_zero, List.set_cons_succ]
  refine in0 hi (ix_tup (at1 _ _ _) ⟨cs, c, rfl, hc, ?_⟩)
  unfold pairB2 at hk
  unfold kindD
  cases q : kindOf cs c with
  | none => rw [q] at hk; exact r_isN hk
  | some kd =>
    rw [q] at hk
    have h1 := kindOf_kd hk1 q
    refine r_isS (in1 hi (ix_tup (at2 _ _ _ _) ⟨es, d, rfl, hd, ?_⟩))
    unfold kindD
    cases q2 : kindOf es d with
    | none => rw [q2] at hk; exact eq_flat (.str kd (ok_kd h1)) .non hk
    | some k2 =>
      rw [q2] at hk
      refine eq_strA ?_
      have : decide (kd = k2) = decide (some k2 = some kd) := by
        rw [decide_eq_decide]
        exact ⟨fun h => by rw [h], fun h => (Option.some.inj h).symm⟩
      show k (.bl (decide (kd = k2))) M
      rw [this]; exact hk
def F_join : FD := fun ds M k => ∃ (w c d i : D) (r : List D) (cs es : Cols) (l : List Cols), ds = [.tup (w :: c :: d :: r), i] ∧ InC M i (cs :: es :: l) ∧ (∀ c ∈ cs, Kd c.2) ∧ (∀ c ∈ es, Kd c.2) ∧ cs.length + es.length ≤ 4000 ∧ okR M c ∧ okR M d ∧ k (optD (if pairB2 cs es c d = true then unlikeC (cs ++ es) else none)) M
theorem ok_join (T : Txt K mg) (B : DD K mg) : DFn P w K mg base 5 B.f_join_columns B.fd_join_columns p_join_columns F_join := by
  have G_are_paired : DFn P w K mg base 4 B.f_are_paired B.fd_are_paired p_are_paired F_paired := ok_paired T B
  have G_with_unlike_names : DFn P w K mg base 1 B.f_with_unlike_names B.fd_with_unlike_names p_with_unlike_names F_unlike := ok_unlike T B
  refine Fun.okD B.d_join_columns.F sc_join_columns (fun cdv A outer s H E hr => (dss_cons (ds_if (dt_not (dt_val (de_own B.d_are_paired G_are_paired hr (by first | decide | omega) (da_cons (dv 0) (da_cons (dv 1) da_nil))))) (dss_one (ds_ret de_non)) dss_nil) (dss_one (ds_ret (de_own B.d_with_unlike_names G_with_unlike_names hr (by first | decide | omega) (da_cons (de_add (de_ix (dv 1) de_int) (de_ix (dv 1) de_int)) da_nil)))))) (fun ds M k h => ?_)
  obtain ⟨w', c, d, i, r, cs, es, l, rfl, hi, hk1, hk2, hlen, hc, hd, hk⟩ := h
  (refine ⟨rfl, ?_⟩; rw [show startD N_join_columns [.tup (w' :: c :: d :: r), i] = [some (.tup (w' :: c :: d :: r)), some (i)] from rfl])
  simp only [wNext, wSeq, wBreak, wContinue, wExpr, wRet, wRetN, wIfS, wSet, wAsg, wPar, wPar3, wFor, wSub, wTst, wOp, wChain, wNotT, wAndT, wOrT, wAndV, wOrV, wNotV, wIf, wNil, wCons, wTup, wLst, wLstM, wCall, wCall0, wVar, wC, wLc, wLcM, wYes, wiL, wiT, wiS, wiR, wiEnT, wiEnL, wiZip, wSl, woNone, woSome, wMt, wJoin, wGet, wUn, wTru, wDNew, fin, List.getElem?_cons_zero, List.getElem?_cons_succ, List.set_cons_zero, List.set_cons_succ]
  refine ⟨w', c, d, i, r, cs, es, l, rfl, hi, hk1, hk2, hc, hd, ?_⟩
  cases q : pairB2 cs es c d with
  | false => rw [q] at hk; exact tt hk
  | true =>
    rw [q] at hk
    refine ff (in0 hi (in1 hi (r_addT (by simpa using z1 (by omega)) ?_)))
    rw [← List.map_append]
    exact ⟨cs ++ es, rfl, by rw [List.length_append]; omega, hk⟩
def F_lacking : FD := fun ds M k => ∃ (w c d i : D) (r : List D) (cs es : Cols) (l : List Cols), ds = [.tup (w :: c :: d :: r), i] ∧ InC M i (cs :: es :: l) ∧ (∀ c ∈ cs, Kd c.2) ∧ (∀ c ∈ es, Kd c.2) ∧ okR M c ∧ okR M d ∧ k (optD (if pairB2 cs es c d = true then some cs else none)) M
theorem ok_lacking (T : Txt K mg) (B : DD K mg) : DFn P w K mg base 5 B.f_lacking_columns B.fd_lacking_columns p_lacking_columns F_lacking := by
  have G_are_paired : DFn P w K mg base 4 B.f_are_paired B.fd_are_paired p_are_paired F_paired := ok_paired T B
  refine Fun.okD B.d_lacking_columns.F sc_lacking_columns (fun cdv A outer s H E hr => (dss_cons (ds_if (dt_not (dt_val (de_own B.d_are_paired G_are_paired hr (by first | decide | omega) (da_cons (dv 0) (da_cons (dv 1) da_nil))))) (dss_one (ds_ret de_non)) dss_nil) (dss_one (ds_ret (de_ix (dv 1) de_int))))) (fun ds M k h => ?_)
  obtain ⟨w', c, d, i, r, cs, es, l, rfl, hi, hk1, hk2, hc, hd, hk⟩ := h
  (refine ⟨rfl, ?_⟩; rw [show startD N_lacking_columns [.tup (w' :: c :: d :: r), i] = [some (.tup (w' :: c :: d :: r)), some (i)] from rfl])
  simp only [wNext, wSeq, wBreak, wContinue, wExpr, wRet, wRetN, wIfS, wSet, wAsg, wPar, wPar3, wFor, wSub, wTst, wOp, wChain, wNotT, wAndT, wOrT, wAndV, wOrV, wNotV, wIf, wNil, wCons, wTup, wLst, wLstM, wCall, wCall0, wVar, wC, wLc, wLcM, wYes, wiL, wiT, wiS, wiR, wiEnT, wiEnL, wiZip, wSl, woNone, woSome, wMt, wJoin, wGet, wUn, wTru, wDNew, fin, List.getElem?_cons_zero, List.getElem?_cons_succ, List.set_cons_zero, List.set_cons_succ]
  refine ⟨w', c, d, i, r, cs, es, l, rfl, hi, hk1, hk2, hc, hd, ?_⟩
  cases q : pairB2 cs es c d with
  | false => rw [q] at hk; exact tt hk
  | true => rw [q] at hk; exact ff (in0 hi hk)
def F_once : FD := fun ds M k => ∃ (f i : D) (cs : Cols) (l : List Cols), ds = [f, i] ∧ InC M i (cs :: l) ∧ k (colsD cs) M
theorem ok_once (T : Txt K mg) (B : DD K mg) : DFn P w K mg base 1 B.f_once_columns B.fd_once_columns p_once_columns F_once := by
  refine Fun.okD B.d_once_columns.F sc_once_columns (fun cdv A outer s H E hr => (dss_one (ds_ret (de_ix (dv 1) de_int)))) (fun ds M k h => ?_)
  obtain ⟨f, i, cs, l, rfl, hi, hk⟩ := h
  (refine ⟨rfl, ?_⟩; rw [show startD N_once_columns [f, i] = [some (f), some (i)] from rfl])
  simp only [wNext, wSeq, wBreak, wContinue, wExpr, wRet, wRetN, wIfS, wSet, wAsg, wPar, wPar3, wFor, wSub, wTst, wOp, wChain, wNotT, wAndT, wOrT, wAndV, wOrV, wNotV, wIf, wNil, wCons, wTup, wLst, wLstM, wCall, wCall0, wVar, wC, wLc, wLcM, wYes, wiL, wiT, wiS, wiR, wiEnT, wiEnL, wiZip, wSl, woNone, woSome, wMt, wJoin, wGet, wUn, wTru, wDNew, fin, List.getElem?_cons_zero, List.getElem?_cons_succ, List.set_cons_zero, List.set_cons_succ]
  exact in0 hi hk
end
end K04

set_option autoImplicit false
set_option maxRecDepth 100000
set_option maxHeartbeats 4000000
namespace K04
open PySem L2 DL
section
variable {P : Program} {w : World} {K : PySem.W.Frag} {mg : Str → Option Value} {base : Heap}
def optS : Option Str → D
  | some s => .str s
  | none => .non
def optP : Option (Str × Str) → D
  | some c => colD c
  | none => .non
def F_sum_kind : FD := fun ds M k => ∃ (cs : Cols) (w c : D), ds = [colsD cs, w, c] ∧ (∀ c ∈ cs, Kd c.2) ∧ okR M w ∧ okR M c ∧ k (optS (sumKind cs w c)) M
theorem kindD_opt (cs : Cols) (x : D) : kindD cs x = optS (kindOf cs x) := by unfold kindD optS; cases kindOf cs x <;> rfl
theorem ok_sum_kind (T : Txt K mg) (B : DD K mg) : DFn P w K mg base 4 B.f_sum_kind B.fd_sum_kind p_sum_kind F_sum_kind := by
  have G_kind_of : DFn P w K mg base 3 B.f_kind_of B.fd_kind_of p_kind_of F_kind_of := ok_kind_of T B
  refine Fun.okD B.d_sum_kind.F sc_sum_kind (fun cdv A outer s H E hr => (dss_cons (ds_if (dt_cmpA c_isn (de_type T.b_type (dv 1)) (de_ty (n := "str") T.b_str (by decide +kernel))) (dss_one (ds_ret de_non)) dss_nil) (dss_cons (ds_if (dw_pt (dw_and (dt_cmpA (c_eq hr) (dv 1) de_str) (dw_and1 (dt_cmpA c_is (dv 2) de_non)))) (dss_one (ds_ret de_str)) dss_nil) (dss_cons (ds_set (i := 3) sc_sum_kind.nd (de_own B.d_kind_of G_kind_of hr (by first | decide | omega) (da_cons (dv 0) (da_cons (dv 2) da_nil)))) (dss_cons (ds_if (dw_pt (dw_or (dt_cmpA c_in (dv 1) (de_tup (da_cons de_str (da_cons de_str da_nil)))) (dw_or1 (dw_pt (dw_and (dt_cmpA (c_eq hr) (dv 1) de_str) (dw_and1 (dt_cmpA (c_eq hr) (dv 3) de_str))))))) (dss_one (ds_ret (dv 3))) dss_nil) (dss_one (ds_ret de_non))))))) (fun ds M k h => ?_)
  obtain ⟨cs, w', c, rfl, hkd, hw, hc, hk⟩ := h
  (refine ⟨rfl, ?_⟩; rw [show startD N_sum_kind [colsD cs, w', c] = [some (colsD cs), some (w'), some (c), none] from rfl])
  simp only [wNext, wBreak, wContinue, wExpr, wRet, wRetN, wSet, wAsg, wPar, wPar3, wSub, wTst, wOp, wChain, wNotT, wAndV, wOrV, wNotV, wIf, wNil, wCons, wTup, wLst, wLstM, wCall, wCall0, wVar, wC, wLc, wLcM, wYes, wiL, wiT, wiS, wiR, wiEnT, wiEnL, wiZip, wSl, woNone, woSome, wMt, wJoin, wGet, wUn, wTru, wDNew, fin, List.getElem?_cons_zero, List.getElem?_cons_succ, List.set_cons_zero, List.set_cons_succ, wSeq, wIfS, wAndT, wOrT]
  refine ty_str hw ?_
  cases w' with
  | str s =>
    refine ff ?_
    refine eq_strA ?_
    have rest : ¬ (s = Str.ofString "count" ∧ isNon c = true) → F_kind_of [colsD cs, c] M fun d M1 => (wSeq (wIfS (wOrT (wTst (wOp (rdIn id) (wVar 1) (wTup (wCons (wC (.str (Str.ofString "least"))) (wCons (wC (.str (Str.ofString "most"))) wNil))))) (wAndT (wTst (wOp (rdEq id) (wVar 1) (wC (.str (Str.ofString "sum"))))) (wTst (wOp (rdEq id) (wVar 3) (wC (.str (Str.ofString "number"))))))) (wRet (wVar 3)) wNext) (wRet (wC .non))) (fin k) [some (colsD cs), some (.str s), some c, some d] M1 := fun hn => by
      refine ⟨cs, c, rfl, hc, ?_⟩
      simp only [sumKind, hn, if_false] at hk
      rw [kindD_opt]
      simp only [wNext, wSeq, wBreak, wContinue, wExpr, wRet, wRetN, wIfS, wSet, wAsg, wPar, wPar3, wFor, wSub, wTst, wOp, wChain, wNotT, wAndT, wOrT, wAndV, wOrV, wNotV, wIf, wNil, wCons, wTup, wLst, wLstM, wCall, wCall0, wVar, wC, wLc, wLcM, wYes, wiL, wiT, wiS, wiR, wiEnT, wiEnL, wiZip, wSl, woNone, woSome, wMt, wJoin, wGet, wUn, wTru, wDNew, fin, List.getElem?_cons_zero, List.getElem?_cons_succ, List.set_cons_zero, List.set_cons_succ]
      refine ⟨(show 2 ≤ sizeLine by decide), r_inS (l := [Str.ofString "least", Str.ofString "most"]) ?_⟩
      cases q : kindOf cs c with
      | none =>
        rw [q] at hk
        refine bb (fun _ => hk) (fun _ => eq_strA (bb (fun _ => eq_flat .non (.str _ (by decide +kernel)) (bb (fun _ => hk) (fun _ => hk))) (fun _ => hk)))
      | some kd =>
        rw [q] at hk
        simp only at hk
        by_cases h1 : s ∈ [Str.ofString "least", Str.ofString "most"]
        · refine tt' (decide_eq_true h1) ?_
          rw [if_pos (by simp only [List.mem_cons, List.not_mem_nil, or_false] at h1; rcases h1 with e | e; exact .inl e; exact .inr (.inl e))] at hk
          exact hk
        · refine ff' (decide_eq_false h1) (eq_strA ?_)
          have n1 : s ≠ Str.ofString "least" := fun e => h1 (by simp [e])
          have n2 : s ≠ Str.ofString "most" := fun e => h1 (by simp [e])
          simp only [n1, n2, false_or] at hk
          refine bb (fun e => eq_strA (bb (fun e2 => ?_) (fun e2 => ?_))) (fun e => ?_)
          · have e : s = Str.ofString "sum" := of_decide_eq_true e
            have e2 : kd = Str.ofString "number" := of_decide_eq_true e2
            rw [if_pos ⟨e, e2⟩] at hk; exact hk
          · have e2 : ¬ kd = Str.ofString "number" := of_decide_eq_false e2
            rw [if_neg fun z => e2 z.2] at hk; exact hk
          · have e : ¬ s = Str.ofString "sum" := of_decide_eq_false e
            rw [if_neg fun z => e z.1] at hk; exact hk
    simp only [wNext, wBreak, wContinue, wExpr, wRet, wRetN, wSet, wAsg, wPar, wPar3, wSub, wTst, wOp, wChain, wNotT, wAndV, wOrV, wNotV, wIf, wNil, wCons, wTup, wLst, wLstM, wCall, wCall0, wVar, wC, wLc, wLcM, wYes, wiL, wiT, wiS, wiR, wiEnT, wiEnL, wiZip, wSl, woNone, woSome, wMt, wJoin, wGet, wUn, wTru, wDNew, fin, List.getElem?_cons_zero, List.getElem?_cons_succ, List.set_cons_zero, List.set_cons_succ, wSeq, wIfS, wAndT, wOrT] at rest
    by_cases q : s = Str.ofString "count"
    · refine tt' (decide_eq_true q) (isn_ok hc ?_)
      cases q2 : isNon c with
      | true =>
        simp only [sumKind, q, q2, and_self, if_true] at hk
        exact hk
      | false => exact rest (fun z => by rw [q2] at z; cases z.2)
    · exact ff' (decide_eq_false q) (rest (fun z => q z.1))
  | _ => exact hk
def F_sum_column : FD := fun ds M k => ∃ (cs : Cols) (d : D), ds = [colsD cs, d] ∧ (∀ c ∈ cs, Kd c.2) ∧ okR M d ∧ k (optP (sumCol cs d)) M
def sumFin (n : D) (o : Option Str) : Option (Str × Str) := match n with
  | .str s => (match o with | some k => if isNm s = true then some (s, k) else none | none => none)
  | _ => none
theorem sumCol_three {cs : Cols} {n w c : D} : sumCol cs (.tup [n, w, c]) = sumFin n (sumKind cs w c) := by cases n <;> rfl
theorem sumFin_none {n : D} : sumFin n none = none := by cases n <;> rfl
theorem ok_sum_column (T : Txt K mg) (B : DD K mg) : DFn P w K mg base 5 B.f_sum_column B.fd_sum_column p_sum_column F_sum_column := by
  have G_sum_kind : DFn P w K mg base 4 B.f_sum_kind B.fd_sum_kind p_sum_kind F_sum_kind := ok_sum_kind T B
  have G_is_name : DFn P w K mg base 1 B.f_is_name B.fd_is_name p_is_name F_is_name := ok_is_name T B.d_is_name
  refine Fun.okD B.d_sum_column.F sc_sum_column (fun cdv A outer s H E hr => (dss_cons (ds_if (dw_pt (dw_or (dt_cmpA c_isn (de_type T.b_type (dv 1)) (de_ty (n := "tuple") T.b_tuple (by decide +kernel))) (dw_or1 (dt_cmpA (c_ne hr) (de_len T.b_len (dv 1)) de_int)))) (dss_one (ds_ret de_non)) dss_nil) (dss_cons (ds_asg (dg_tup rfl (dgs_cons (dg_name (i := 2) sc_sum_column.nd) (dgs_cons (dg_name (i := 3) sc_sum_column.nd) (dgs_cons (dg_name (i := 4) sc_sum_column.nd) dgs_nil))) (gsCons_len (gsCons_len (gsCons_len gsNil_len)))) (dv 1)) (dss_cons (ds_set (i := 5) sc_sum_column.nd (de_own B.d_sum_kind G_sum_kind hr (by first | decide | omega) (da_cons (dv 0) (da_cons (dv 3) (da_cons (dv 4) da_nil))))) (dss_cons (ds_if (dw_pt (dw_or (dt_cmpA c_is (dv 5) de_non) (dw_or1 (dt_not (dt_val (de_own B.d_is_name G_is_name hr (by first | decide | omega) (da_cons (dv 2) da_nil))))))) (dss_one (ds_ret de_non)) dss_nil) (dss_one (ds_ret (de_tup (da_cons (dv 2) (da_cons (dv 5) da_nil)))))))))) (fun ds M k h => ?_)
  obtain ⟨cs, d, rfl, hkd, hd, hk⟩ := h
  (refine ⟨rfl, ?_⟩; rw [show startD N_sum_column [colsD cs, d] = [some (colsD cs), some (d), none, none, none, none] from rfl])
  simp only [wNext, wSeq, wBreak, wContinue, wExpr, wRet, wRetN, wIfS, wSet, wAsg, wPar, wPar3, wFor, wSub, wTst, wOp, wChain, wNotT, wAndT, wOrT, wAndV, wOrV, wNotV, wIf, wNil, wCons, wTup, wLst, wLstM, wCall, wCall0, wVar, wC, wLc, wLcM, wYes, wiL, wiT, wiS, wiR, wiEnT, wiEnL, wiZip, wSl, woNone, woSome, wMt, wJoin, wGet, wUn, wTru, wDNew, fin, List.getElem?_cons_zero, List.getElem?_cons_succ, List.set_cons_zero, List.set_cons_succ]
  refine ty_tup hd ?_
  cases d with
  | tup ds =>
    unfold okR at hd
    refine ff (r_lenT (eq_int ?_))
    by_cases hl : ds.length = 3
    · obtain ⟨n, w', c, rfl⟩ : ∃ n w c, ds = [n, w, c] := by
        match ds, hl with
        | [a, b, c], _ => exact ⟨a, b, c, rfl⟩
      refine ff ?_
      simp only [gT, gsCons, gN, gsNil, List.set_cons_zero, List.set_cons_succ, List.getElem?_cons_zero, List.getElem?_cons_succ]
      refine ⟨cs, w', c, rfl, hkd, okRs_mem hd.2 (by simp), okRs_mem hd.2 (by simp), ?_⟩
      rw [sumCol_three] at hk
      cases q : sumKind cs w' c with
      | none =>
        rw [q, sumFin_none] at hk
        exact r_isN (tt hk)
      | some kd =>
        refine r_isS (ff ⟨okR_D (okRs_mem hd.2 (by simp)), ?_⟩)
        cases n with
        | str s =>
          rw [q] at hk
          simp only [sumFin] at hk
          cases q2 : isNm s with
          | true => rw [if_pos q2] at hk; exact ff' (by show (!isNm s) = false; rw [q2]; rfl) ⟨(show 2 ≤ sizeLine by decide), hk⟩
          | false => rw [if_neg (by rw [q2]; decide)] at hk; exact tt' (by show (!isNm s) = true; rw [q2]; rfl) hk
        | _ => exact tt hk
    · have : decide ((ds.length : Int) = 3) = false := decide_eq_false (by omega)
      rw [this]
      have e : sumCol cs (.tup ds) = none := by
        unfold sumCol
        split <;> simp_all
      rw [e] at hk
      exact tt hk
  | _ => exact tt hk
theorem sumCols_all (cs : Cols) : ∀ xs : List D, ((xs.map fun d => optP (sumCol cs d)).any isNon = true ∧ sumCols cs xs = none) ∨ ((xs.map fun d => optP (sumCol cs d)).any isNon = false ∧ ∃ l, sumCols cs xs = some l ∧ (xs.map fun d => optP (sumCol cs d)) = l.map colD ∧ l.length = xs.length)
  | [] => .inr ⟨rfl, [], rfl, rfl, rfl⟩
  | x :: r => by
    rw [List.map_cons, List.any_cons]
    cases q : sumCol cs x with
    | none => exact .inl ⟨rfl, by unfold sumCols; rw [q]⟩
    | some c =>
      rcases sumCols_all cs r with ⟨a, b⟩ | ⟨a, l, b, e, f⟩
      · exact .inl ⟨by rw [a]; rfl, by unfold sumCols; rw [q, b]⟩
      · exact .inr ⟨by rw [a]; rfl, c :: l, by unfold sumCols; rw [q, b], by rw [e]; rfl, by simp [f]⟩
theorem sumKind_kd {cs : Cols} (h : ∀ c ∈ cs, Kd c.2) {w c : D} {k : Str} (e : sumKind cs w c = some k) : Kd k := by
  unfold sumKind at e
  split at e
  · split at e
    · cases e; exact .inl rfl
    · split at e
      · rename_i k' hk
        split at e
        · cases e; exact kindOf_kd h hk
        · cases e
      · cases e
  · cases e
theorem sumCol_snd {cs : Cols} (h : ∀ c ∈ cs, Kd c.2) {d : D} {c : Str × Str} (e : sumCol cs d = some c) : isNm c.1 = true ∧ Kd c.2 := by
  unfold sumCol at e
  split at e
  · split at e
    · rename_i k hk
      split at e
      · rename_i q; cases e; exact ⟨q, sumKind_kd h hk⟩
      · cases e
    · cases e
  · cases e
theorem sumCols_snd {cs : Cols} (h : ∀ c ∈ cs, Kd c.2) : ∀ {xs : List D} {l : Cols}, sumCols cs xs = some l → ∀ c ∈ l, isNm c.1 = true ∧ Kd c.2
  | [], l, e => by cases e; exact fun c hc => by cases hc
  | x :: r, l, e => by
    unfold sumCols at e
    split at e
    · rename_i c m h1 h2
      cases e
      intro d hd
      rcases List.mem_cons.mp hd with z | z
      · rw [z]; exact sumCol_snd h h1
      · exact sumCols_snd h h2 d z
    · cases e
/-- None in a list of columns, some of them None -/
theorem none_in {M : Mem} : ∀ ds : List D, (∀ d ∈ ds, d = .non ∨ ∃ c : Str × Str, d = colD c ∧ PyData.strOk c.1 = true ∧ PyData.strOk c.2 = true) →
    cleans ds = true ∧ deeps ds ≤ 1 ∧ ∀ ps, toPs M ds = some ps → (ps.any fun z => PyData.eqv z .none) = ds.any isNon
  | [], _ => ⟨by unfold cleans; rfl, by unfold deeps; exact Nat.zero_le _, fun ps e => by cases e; rfl⟩
  | d :: ds, h => by
    obtain ⟨a, b, c⟩ := none_in (M := M) ds fun x hx => h x (List.mem_cons_of_mem _ hx)
    rcases h d List.mem_cons_self with rfl | ⟨e, rfl, h1, h2⟩
    · refine ⟨by unfold cleans clean; rw [a]; rfl, by unfold deeps deep; omega, fun ps q => ?_⟩
      unfold toPs toP at q
      split at q
      · rename_i p ps' q1 q2
        cases q1; cases q
        rw [List.any_cons, c _ q2]
        have : PyData.eqv .none .none = true := by unfold PyData.eqv; rfl
        rw [this]; rfl
      · cases q
    · have c1 : clean (colD e) = true := by unfold colD clean cleans clean cleans clean cleans; rw [h1, h2]; rfl
      have d1 : deep (colD e) ≤ 1 := by unfold colD deep deeps deep deeps deep deeps; exact Nat.le_refl _
      refine ⟨by unfold cleans; rw [a, c1]; rfl, by unfold deeps; omega, fun ps q => ?_⟩
      unfold toPs at q
      split at q
      · rename_i p ps' q1 q2
        cases q
        rw [List.any_cons, c _ q2]
        have : PyData.eqv p .none = false := by
          unfold colD toP at q1
          split at q1
          · cases q1; unfold PyData.eqv; rfl
          · cases q1
        rw [this]; rfl
      · cases q
theorem r_inDpNon {M : Mem} {k : KD} {f : Bool → Bool} {ds : List D} (h : ∀ d ∈ ds, d = .non ∨ ∃ c : Str × Str, d = colD c ∧ PyData.strOk c.1 = true ∧ PyData.strOk c.2 = true) (hk : k (.bl (f (ds.any isNon))) M) : rdInDp f .non (.lst ds) M k := by
  obtain ⟨a, b, c⟩ := none_in (M := M) ds h
  obtain ⟨ps, e, l1, l2⟩ := clean_toPs M ds a
  have e1 : toPC M (.lst ds) = some (.list ps) := by
    show toP M (.lst ds) = _
    unfold toP; rw [e]
  unfold rdInDp
  rw [e1]
  show SeqAt.shaped .none = true ∧ _ ∧ _
  refine ⟨shaped_non, ?_, ?_⟩
  · unfold SeqAt.shaped PyData.canLay0 PyData.depth
    rw [l1, decide_eq_true (by omega)]; rfl
  · rw [c ps e]; exact hk
def F_sums : FD := fun ds M k => ∃ (w x y q i : D) (cs : Cols) (l : List Cols) (n : Nat), ds = [.tup [w, x, y, q], i] ∧ InC M i (cs :: l) ∧ Snd n cs ∧ n ≤ 2000 ∧ okR M x ∧ okR M y ∧ k (optD (sumsC cs x y)) M
theorem ok_sums (T : Txt K mg) (B : DD K mg) : DFn P w K mg base 6 B.f_sums_columns B.fd_sums_columns p_sums_columns F_sums := by
  have G_named_columns : DFn P w K mg base 4 B.f_named_columns B.fd_named_columns p_named_columns F_named_columns := ok_named_columns T B
  have G_sum_column : DFn P w K mg base 5 B.f_sum_column B.fd_sum_column p_sum_column F_sum_column := ok_sum_column T B
  have G_with_unlike_names : DFn P w K mg base 1 B.f_with_unlike_names B.fd_with_unlike_names p_with_unlike_names F_unlike := ok_unlike T B
  refine Fun.okD B.d_sums_columns.F sc_sums_columns (fun cdv A outer s H E hr => (dss_cons (ds_asg (dg_tup rfl (dgs_cons (dg_name (i := 2) sc_sums_columns.nd) (dgs_cons (dg_name (i := 3) sc_sums_columns.nd) (dgs_cons (dg_name (i := 4) sc_sums_columns.nd) (dgs_cons (dg_name (i := 2) sc_sums_columns.nd) dgs_nil)))) (gsCons_len (gsCons_len (gsCons_len (gsCons_len gsNil_len))))) (dv 0)) (dss_cons (ds_set (i := 5) sc_sums_columns.nd (de_own B.d_named_columns G_named_columns hr (by first | decide | omega) (da_cons (de_ix (dv 1) de_int) (da_cons (dv 3) da_nil)))) (dss_cons (ds_if (dw_pt (dw_or (dt_cmpA c_is (dv 5) de_non) (dw_or (dt_cmpA c_isn (de_type T.b_type (dv 4)) (de_ty (n := "tuple") T.b_tuple (by decide +kernel))) (dw_or1 (dt_not (dt_truth (dv 4))))))) (dss_one (ds_ret de_non)) dss_nil) (dss_cons (ds_setLc (i := 6) rfl sc_sums_columns.nd (di_tup (dv 4)) (blkOk_by (own := [("thing", 7)]) (N := N_sums_columns) (sc := defScope s_sums_columns) (by decide +kernel)) (fun _ _ _ _ _ => (dg_name (i := 7) sc_sums_columns.nd)) gd_name (fun _ _ _ _ _ => dts_nil) (fun _ _ _ _ _ => (de_own B.d_sum_column G_sum_column hr (by first | decide | omega) (da_cons (de_ix (dv 1) de_int) (da_cons (dv 7) da_nil)))) (sw_true rfl rfl rfl (by decide +kernel))) (dss_cons (ds_if (dt_cmpA (c_inD hr) de_non (dv 6)) (dss_one (ds_ret de_non)) dss_nil) (dss_one (ds_ret (de_own B.d_with_unlike_names G_with_unlike_names hr (by first | decide | omega) (da_cons (de_add (dv 5) (de_tuple T.b_tuple (dv 6))) da_nil)))))))))) (fun ds M k h => ?_)
  obtain ⟨w', x, y, q, i, cs, l, n, rfl, hi, hs, hn, hx, hy, hk⟩ := h
  (refine ⟨rfl, ?_⟩; rw [show startD N_sums_columns [.tup [w', x, y, q], i] = [some (.tup [w', x, y, q]), some (i), none, none, none, none, none, none] from rfl])
  simp only [wNext, wSeq, wBreak, wContinue, wExpr, wRet, wRetN, wIfS, wSet, wAsg, wPar, wPar3, wFor, wSub, wTst, wOp, wChain, wNotT, wAndT, wOrT, wAndV, wOrV, wNotV, wIf, wNil, wCons, wTup, wLst, wLstM, wCall, wCall0, wVar, wC, wLc, wLcM, wYes, wiL, wiT, wiS, wiR, wiEnT, wiEnL, wiZip, wSl, woNone, woSome, wMt, wJoin, wGet, wUn, wTru, wDNew, fin, List.getElem?_cons_zero, List.getElem?_cons_succ, List.set_cons_zero, List.set_cons_succ]
  simp only [gT, gsCons, gN, gsNil, List.set_cons_zero, List.set_cons_succ, List.getElem?_cons_zero, List.getElem?_cons_succ]
  have hle := hs.le
  refine in0 hi ⟨cs, x, rfl, by omega, hx, ?_⟩
  cases e : namedC cs x with
  | none =>
    simp only [sumsC, e] at hk
    exact r_isN (tt hk)
  | some g =>
    simp only [sumsC, e] at hk
    refine (show rdIs id (colsD g) .non M _ from r_isT (ff ?_))
    refine ty_tup hy ?_
    cases y with
    | tup ys =>
      unfold okR at hy
      refine ff ?_
      cases ys with
      | nil => exact (tt (B := True) hk)
      | cons y1 yr =>
        refine ff' (A := True) (b := !(!(y1 :: yr).isEmpty)) rfl ?_
        refine lc_map (fun d => optP (sumCol cs d)) (G := gAny) (M := M) trivial _ _ _ (fun d hd => ⟨_, rfl, fun k' hk' => ?_⟩) (z1 (by have := hy.1; simp at this ⊢; omega)) ?_
        · simp only [wNext, wSeq, wBreak, wContinue, wExpr, wRet, wRetN, wIfS, wSet, wAsg, wPar, wPar3, wFor, wSub, wTst, wOp, wChain, wNotT, wAndT, wOrT, wAndV, wOrV, wNotV, wIf, wNil, wCons, wTup, wLst, wLstM, wCall, wCall0, wVar, wC, wLc, wLcM, wYes, wiL, wiT, wiS, wiR, wiEnT, wiEnL, wiZip, wSl, woNone, woSome, wMt, wJoin, wGet, wUn, wTru, wDNew, fin, List.getElem?_cons_zero, List.getElem?_cons_succ, List.set_cons_zero, List.set_cons_succ, wipeD, List.map]
          exact in0 hi ⟨cs, d, rfl, hs.kd, okRs_mem hy.2 hd, hk'⟩
        · rw [List.nil_append]
          refine r_inDpNon (fun d hd => ?_) ?_
          · obtain ⟨z, hz, rfl⟩ := List.mem_map.mp hd
            cases q2 : sumCol cs z with
            | none => exact .inl rfl
            | some c =>
              obtain ⟨a, b⟩ := sumCol_snd hs.kd q2
              exact .inr ⟨c, rfl, ok_nm a, ok_kd b⟩
          · rcases sumCols_all cs (y1 :: yr) with ⟨a, b⟩ | ⟨a, m, b, c, d⟩
            · simp only [b] at hk
              rw [a]; exact tt hk
            · simp only [b] at hk
              rw [a, c]
              have gl := (named_snd hs e).le
              have ml : m.length ≤ 1000 := by have := hy.1; omega
              refine ff (r_tupL (show rdAdd (colsD g) (.tup (m.map colD)) M _ from r_addT (by simpa using z1 (by omega)) ?_))
              rw [← List.map_append]
              exact ⟨g ++ m, rfl, by rw [List.length_append]; omega, hk⟩
    | _ => exact tt hk
end
end K04

set_option autoImplicit false
set_option maxRecDepth 100000
set_option maxHeartbeats 4000000
namespace K04
open PySem L2 DL
section
variable {P : Program} {w : World} {K : PySem.W.Frag} {mg : Str → Option Value} {base : Heap}
def F_is_step : FD := fun ds M k => ∃ d, ds = [d] ∧ okR M d ∧ k (.bl (stepB d)) M
theorem ok_is_step (T : Txt K mg) (B : DD K mg) : DFn P w K mg base 1 B.f_is_step B.fd_is_step p_is_step F_is_step := by
  refine Fun.okD B.d_is_step.F sc_is_step (fun cdv A outer s H E hr => (dss_one (ds_ret (de_and (de_cmpA c_is (de_type T.b_type (dv 0)) (de_ty (n := "tuple") T.b_tuple (by decide +kernel))) (de_and (de_cmpA (c_eq hr) (de_len T.b_len (dv 0)) de_int) (de_and (de_cmpA c_is (de_type T.b_type (de_ix (dv 0) de_int)) (de_ty (n := "str") T.b_str (by decide +kernel))) (de_one (de_cmpA c_in (de_ix (dv 0) de_int) T.e_WAYS)))))))) (fun ds M k h => ?_)
  obtain ⟨d, rfl, hd, hk⟩ := h
  (refine ⟨rfl, ?_⟩; rw [show startD N_is_step [d] = [some (d)] from rfl])
  simp only [wNext, wSeq, wBreak, wContinue, wExpr, wRet, wRetN, wIfS, wSet, wAsg, wPar, wPar3, wFor, wSub, wTst, wOp, wChain, wNotT, wAndT, wOrT, wAndV, wOrV, wNotV, wIf, wNil, wCons, wTup, wLst, wLstM, wCall, wCall0, wVar, wC, wLc, wLcM, wYes, wiL, wiT, wiS, wiR, wiEnT, wiEnL, wiZip, wSl, woNone, woSome, wMt, wJoin, wGet, wUn, wTru, wDNew, fin, List.getElem?_cons_zero, List.getElem?_cons_succ, List.set_cons_zero, List.set_cons_succ]
  refine ty_tup hd ?_
  cases d with
  | tup ds =>
    unfold okR at hd
    refine r_lenT (eq_int ?_)
    by_cases hl : ds.length = 2
    · obtain ⟨c, w', rfl⟩ : ∃ c w, ds = [c, w] := by
        match ds, hl with
        | [a, b], _ => exact ⟨a, b, rfl⟩
      refine ix_tup (at1 _ _ _) (ty_str (okRs_mem hd.2 (by simp)) ?_)
      cases w' with
      | str s =>
        refine ix_tup (at1 _ _ _) (r_inS (l := [Str.ofString "up", Str.ofString "down"]) ?_)
        have e : stepB (.tup [c, .str s]) = decide (s ∈ [Str.ofString "up", Str.ofString "down"]) := by
          show (decide (s = Str.ofString "up") || decide (s = Str.ofString "down")) = _
          rw [Bool.eq_iff_iff]; simp
        rw [e] at hk; exact hk
      | _ => exact hk
    · have : decide ((ds.length : Int) = 2) = false := decide_eq_false (by omega)
      rw [this]
      have e : stepB (.tup ds) = false := by
        unfold stepB
        split <;> simp_all
      rw [e] at hk
      exact hk
  | _ => exact hk
def F_is_order : FD := fun ds M k => ∃ (cs : Cols) (d : D), ds = [colsD cs, d] ∧ cs.length ≤ 4000 ∧ okR M d ∧ k (.bl (orderB cs d)) M
theorem step_shape {d : D} (h : stepB d = true) : ∃ c w, d = .tup [c, w] := by
  unfold stepB at h
  split at h
  · exact ⟨_, _, rfl⟩
  · cases h
theorem ok_is_order (T : Txt K mg) (B : DD K mg) : DFn P w K mg base 5 B.f_is_order B.fd_is_order p_is_order F_is_order := by
  have G_named_columns : DFn P w K mg base 4 B.f_named_columns B.fd_named_columns p_named_columns F_named_columns := ok_named_columns T B
  have G_is_step : DFn P w K mg base 1 B.f_is_step B.fd_is_step p_is_step F_is_step := ok_is_step T B
  refine Fun.okD B.d_is_order.F sc_is_order (fun cdv A outer s H E hr => (dss_cons (ds_if (dw_pt (dw_or (dt_cmpA c_isn (de_type T.b_type (dv 1)) (de_ty (n := "tuple") T.b_tuple (by decide +kernel))) (dw_or1 (dt_not (dt_val (de_all rfl T.b_all (de_lc rfl sc_is_order.nd (di_tup (dv 1)) (blkOk_by (own := [("step", 2)]) (N := N_is_order) (sc := defScope s_is_order) (by decide +kernel)) (fun _ _ _ _ _ => (dg_name (i := 2) sc_is_order.nd)) gd_name (fun _ _ _ _ _ => dts_nil) (fun _ _ _ _ _ => (de_own B.d_is_step G_is_step hr (by first | decide | omega) (da_cons (dv 2) da_nil)))))))))) (dss_one (ds_ret de_bl)) dss_nil) (dss_one (ds_ret (de_cmpA c_isn (de_own B.d_named_columns G_named_columns hr (by first | decide | omega) (da_cons (dv 0) (da_cons (de_tuple T.b_tuple (de_lc rfl sc_is_order.nd (di_tup (dv 1)) (blkOk_by (own := [("column", 3), ("_", 4)]) (N := N_is_order) (sc := defScope s_is_order) (by decide +kernel)) (fun _ _ _ _ _ => (dg_tup rfl (dgs_cons (dg_name (i := 3) sc_is_order.nd) (dgs_cons (dg_name (i := 4) sc_is_order.nd) dgs_nil)) (gsCons_len (gsCons_len gsNil_len)))) (gd_tup (gds_cons gd_name (gds_cons gd_name gds_nil)) (gsCons_len (gsCons_len gsNil_len))) (fun _ _ _ _ _ => dts_nil) (fun _ _ _ _ _ => (dv 3)))) da_nil))) de_non))))) (fun ds M k h => ?_)
  obtain ⟨cs, d, rfl, hl, hd, hk⟩ := h
  (refine ⟨rfl, ?_⟩; rw [show startD N_is_order [colsD cs, d] = [some (colsD cs), some (d), none, none, none] from rfl])
  simp only [wNext, wSeq, wBreak, wContinue, wExpr, wRet, wRetN, wIfS, wSet, wAsg, wPar, wPar3, wFor, wSub, wTst, wOp, wChain, wNotT, wAndT, wOrT, wAndV, wOrV, wNotV, wIf, wNil, wCons, wTup, wLst, wLstM, wCall, wCall0, wVar, wC, wLc, wLcM, wYes, wiL, wiT, wiS, wiR, wiEnT, wiEnL, wiZip, wSl, woNone, woSome, wMt, wJoin, wGet, wUn, wTru, wDNew, fin, List.getElem?_cons_zero, List.getElem?_cons_succ, List.set_cons_zero, List.set_cons_succ]
  refine ty_tup hd ?_
  cases d with
  | tup xs =>
    unfold okR at hd
    refine ff ?_
    refine lc_map (fun d => .bl (stepB d)) (G := gAny) (M := M) trivial _ _ _ (fun d hm => ⟨_, rfl, fun k' hk' => ⟨d, rfl, okRs_mem hd.2 hm, hk'⟩⟩) (z1 (by simp; omega)) (r_allL ?_)
    simp only [orderB] at hk
    cases q : xs.all stepB with
    | false => rw [q] at hk; exact tt hk
    | true =>
      rw [q] at hk
      refine ff ?_
      have sh : ∀ d ∈ xs, ∃ c w, d = .tup [c, w] := fun d hm => step_shape (List.all_eq_true.mp q d hm)
      refine lc_map hd2 (G := gAny) (M := M) trivial _ _ _ (fun d hm => ?_) (z1 (by simp; omega)) ?_
      · obtain ⟨c, w', rfl⟩ := sh d hm
        exact ⟨_, rfl, fun k' hk' => hk'⟩
      · rw [List.nil_append]
        refine r_tupL ⟨cs, .tup (xs.map hd2), rfl, hl, ?_, ?_⟩
        · unfold okR
          refine ⟨by simpa using hd.1, okRs_of fun e he => ?_⟩
          obtain ⟨z, hz, rfl⟩ := List.mem_map.mp he
          obtain ⟨c, w', rfl⟩ := sh z hz
          have := okRs_mem hd.2 hz
          unfold okR at this
          exact (show okR M c from okRs_mem this.2 (by simp))
        · cases e : namedC cs (.tup (xs.map hd2)) with
          | none => rw [e] at hk; exact r_isN hk
          | some m => rw [e] at hk; exact (show rdIs not (colsD m) .non M k from r_isT hk)
  | _ => exact tt hk
def F_first : FD := fun ds M k => ∃ (w x y q i : D) (cs : Cols) (l : List Cols), ds = [.tup [w, x, y, q], i] ∧ InC M i (cs :: l) ∧ cs.length ≤ 4000 ∧ okR M x ∧ okR M y ∧ k (optD (if manyB x = true ∧ orderB cs y = true then some cs else none)) M
theorem ok_first (T : Txt K mg) (B : DD K mg) : DFn P w K mg base 6 B.f_first_columns B.fd_first_columns p_first_columns F_first := by
  have G_is_order : DFn P w K mg base 5 B.f_is_order B.fd_is_order p_is_order F_is_order := ok_is_order T B
  have G_is_number : DFn P w K mg base 2 B.f_is_number B.fd_is_number p_is_number F_is_number := ok_is_number T B.d_is_whole B.d_is_number
  refine Fun.okD B.d_first_columns.F sc_first_columns (fun cdv A outer s H E hr => (dss_cons (ds_asg (dg_tup rfl (dgs_cons (dg_name (i := 2) sc_first_columns.nd) (dgs_cons (dg_name (i := 3) sc_first_columns.nd) (dgs_cons (dg_name (i := 4) sc_first_columns.nd) (dgs_cons (dg_name (i := 2) sc_first_columns.nd) dgs_nil)))) (gsCons_len (gsCons_len (gsCons_len (gsCons_len gsNil_len))))) (dv 0)) (dss_cons (ds_if (dw_pt (dw_or (dt_not (dt_val (de_own B.d_is_number G_is_number hr (by first | decide | omega) (da_cons (dv 3) da_nil)))) (dw_or (dt_cmpA c_lt (dv 3) de_int) (dw_or1 (dt_not (dt_val (de_own B.d_is_order G_is_order hr (by first | decide | omega) (da_cons (de_ix (dv 1) de_int) (da_cons (dv 4) da_nil))))))))) (dss_one (ds_ret de_non)) dss_nil) (dss_one (ds_ret (de_ix (dv 1) de_int)))))) (fun ds M k h => ?_)
  obtain ⟨w', x, y, q, i, cs, l, rfl, hi, hl, hx, hy, hk⟩ := h
  (refine ⟨rfl, ?_⟩; rw [show startD N_first_columns [.tup [w', x, y, q], i] = [some (.tup [w', x, y, q]), some (i), none, none, none] from rfl])
  simp only [wNext, wSeq, wBreak, wContinue, wExpr, wRet, wRetN, wIfS, wSet, wAsg, wPar, wPar3, wFor, wSub, wTst, wOp, wChain, wNotT, wAndT, wOrT, wAndV, wOrV, wNotV, wIf, wNil, wCons, wTup, wLst, wLstM, wCall, wCall0, wVar, wC, wLc, wLcM, wYes, wiL, wiT, wiS, wiR, wiEnT, wiEnL, wiZip, wSl, woNone, woSome, wMt, wJoin, wGet, wUn, wTru, wDNew, fin, List.getElem?_cons_zero, List.getElem?_cons_succ, List.set_cons_zero, List.set_cons_succ]
  simp only [gT, gsCons, gN, gsNil, List.set_cons_zero, List.set_cons_succ, List.getElem?_cons_zero, List.getElem?_cons_succ]
  refine ⟨x, rfl, hx, ?_⟩
  cases e : isNumB x with
  | false =>
    have : manyB x = false := by
      cases x with
      | int j => show (isNumB (.int j) && decide ((1 : Int) ≤ j)) = false; rw [e]; rfl
      | _ => rfl
    rw [if_neg (fun z => by rw [this] at z; cases z.1)] at hk
    exact tt hk
  | true =>
    cases x with
    | int j =>
      refine ff (r_ordI ?_)
      by_cases hj : j < 1
      · have : manyB (.int j) = false := by
          have h1 : ¬ (1 : Int) ≤ j := by omega
          show (isNumB (.int j) && decide ((1 : Int) ≤ j)) = false
          rw [decide_eq_false h1]; simp
        rw [if_neg (fun z => by rw [this] at z; cases z.1)] at hk
        exact tt' (decide_eq_true hj) hk
      · have : manyB (.int j) = true := by
          have h1 : (1 : Int) ≤ j := by omega
          show (isNumB (.int j) && decide ((1 : Int) ≤ j)) = true
          rw [decide_eq_true h1, e]; rfl
        refine ff' (decide_eq_false hj) (in0 hi ⟨cs, y, rfl, hl, hy, ?_⟩)
        cases q2 : orderB cs y with
        | false => rw [if_neg (fun z => by rw [q2] at z; cases z.2)] at hk; exact tt hk
        | true => rw [if_pos ⟨this, q2⟩] at hk; exact ff (in0 hi hk)
    | _ => cases e
/-! what stands within -/
def withinOf (s : Str) : D := (lookT kvs_WITHIN s).getD .non
def inners : D → List D
  | .tup [.str w, q] => if w = Str.ofString "once" then [q] else []
  | .tup [.str w, x, q] => if w = Str.ofString "where" ∨ w = Str.ofString "pick" ∨ w = Str.ofString "called" then [q] else []
  | .tup [.str w, x, y, q] => if w = Str.ofString "sums" ∨ w = Str.ofString "first" then [q] else []
  | .tup [.str w, c, d, q, r] => if w = Str.ofString "join" ∨ w = Str.ofString "lacking" then [q, r] else []
  | _ => []
/-- the forms that are no leaves -/
inductive Fm : D → Prop
  | once (q : D) : Fm (.tup [.str (Str.ofString "once"), q])
  | where_ (x q : D) : Fm (.tup [.str (Str.ofString "where"), x, q])
  | pick (x q : D) : Fm (.tup [.str (Str.ofString "pick"), x, q])
  | called (x q : D) : Fm (.tup [.str (Str.ofString "called"), x, q])
  | sums (x y q : D) : Fm (.tup [.str (Str.ofString "sums"), x, y, q])
  | first (x y q : D) : Fm (.tup [.str (Str.ofString "first"), x, y, q])
  | join (c d q r : D) : Fm (.tup [.str (Str.ofString "join"), c, d, q, r])
  | lacking (c d q r : D) : Fm (.tup [.str (Str.ofString "lacking"), c, d, q, r])
theorem Fm.inn {d : D} (h : Fm d) : (∃ q, inners d = [q]) ∨ ∃ q r, inners d = [q, r] := by
  cases h with
  | once q => exact .inl ⟨q, by simp [inners]⟩
  | where_ x q => exact .inl ⟨q, by simp [inners]⟩
  | pick x q => exact .inl ⟨q, by simp [inners]⟩
  | called x q => exact .inl ⟨q, by simp [inners]⟩
  | sums x y q => exact .inl ⟨q, by simp [inners]⟩
  | first x y q => exact .inl ⟨q, by simp [inners]⟩
  | join c d q r => exact .inr ⟨q, r, by simp [inners]⟩
  | lacking c d q r => exact .inr ⟨q, r, by simp [inners]⟩
theorem Fm.tup {d : D} (h : Fm d) : ∃ s r, d = .tup (.str s :: r) := by cases h <;> exact ⟨_, _, rfl⟩
theorem inners_mem {d e : D} (h : e ∈ inners d) : ∃ ds, d = .tup ds ∧ e ∈ ds := by
  unfold inners at h
  split at h
  all_goals first
    | (split at h
       · refine ⟨_, rfl, ?_⟩
         simp only [List.mem_cons, List.not_mem_nil, or_false] at h
         rcases h with rfl | rfl <;> simp
       · cases h)
    | (split at h
       · refine ⟨_, rfl, ?_⟩
         simp only [List.mem_cons, List.not_mem_nil, or_false] at h
         subst h; simp
       · cases h)
    | cases h
def F_just_within : FD := fun ds M k => ∃ d, ds = [d] ∧ Fm d ∧ k (.tup (inners d)) M
theorem w1 : withinOf (Str.ofString "once") = .int 1 := by rfl
theorem ok_just_within (T : Txt K mg) (B : DD K mg) (TW : TxtW K w mg B) : DFn P w K mg base 1 B.f_just_within B.fd_just_within p_just_within F_just_within := by
  refine Fun.okD B.d_just_within.F sc_just_within (fun cdv A outer s H E hr => (dss_one (ds_ret (de_slice (dv 0) (do_some (de_sub (de_len T.b_len (dv 0)) (de_mix TW.c_WITHIN (de_ix (dv 0) de_int)))) do_none)))) (fun ds M k h => ?_)
  obtain ⟨d, rfl, hd, hk⟩ := h
  (refine ⟨rfl, ?_⟩; rw [show startD N_just_within [d] = [some (d)] from rfl])
  simp only [wNext, wSeq, wBreak, wContinue, wExpr, wRet, wRetN, wIfS, wSet, wAsg, wPar, wPar3, wFor, wSub, wTst, wOp, wChain, wNotT, wAndT, wOrT, wAndV, wOrV, wNotV, wIf, wNil, wCons, wTup, wLst, wLstM, wCall, wCall0, wVar, wC, wLc, wLcM, wYes, wiL, wiT, wiS, wiR, wiEnT, wiEnL, wiZip, wSl, woNone, woSome, wMt, wJoin, wGet, wUn, wTru, wDNew, fin, List.getElem?_cons_zero, List.getElem?_cons_succ, List.set_cons_zero, List.set_cons_succ]
  have go : ∀ (s : Str) (r : List D) (n : Nat), lookT kvs_WITHIN s = some (.int n) → d = .tup (.str s :: r) → n ≤ r.length → inners d = (.str s :: r).drop (r.length + 1 - n) → rdLen [d] M fun x M1 => rdIx d (.int 0) M1 fun d_1 M1 => rdMIx kvs_WITHIN d_1 M1 fun y M2 => rdI0 (fun i j => D.int (i - j)) x y M2 fun d_2 M1 => match d_2 with | .int i => rdSl d (some i) none M1 k | _ => False := fun s r n e1 e2 e3 e4 => by
    subst e2
    refine r_lenT (ix_tup (at0 _ _) ?_)
    show (match lookT kvs_WITHIN s with | some x => _ | none => False)
    rw [e1]
    refine r_I0 (r_slT ?_)
    have : ((r.length + 1 - n : Nat) : Int) = ((.str s :: r : List D).length : Int) - (n : Int) := by rw [List.length_cons]; omega
    rw [← this, cut_drop, ← e4]; exact hk
  cases hd with
  | once q => exact go (Str.ofString "once") [q] 1 (by rfl) rfl (by simp) (by simp [inners])
  | where_ x q => exact go (Str.ofString "where") [x, q] 1 (by rfl) rfl (by simp) (by simp [inners])
  | pick x q => exact go (Str.ofString "pick") [x, q] 1 (by rfl) rfl (by simp) (by simp [inners])
  | called x q => exact go (Str.ofString "called") [x, q] 1 (by rfl) rfl (by simp) (by simp [inners])
  | sums x y q => exact go (Str.ofString "sums") [x, y, q] 1 (by rfl) rfl (by simp) (by simp [inners])
  | first x y q => exact go (Str.ofString "first") [x, y, q] 1 (by rfl) rfl (by simp) (by simp [inners])
  | join c d q r => exact go (Str.ofString "join") [c, d, q, r] 2 (by rfl) rfl (by simp) (by simp [inners])
  | lacking c d q r => exact go (Str.ofString "lacking") [c, d, q, r] 2 (by rfl) rfl (by simp) (by simp [inners])
end
end K04

set_option autoImplicit false
set_option maxRecDepth 100000
set_option maxHeartbeats 4000000
namespace K04
open PySem L2 DL
/-! columns_in -/
def Grow (M M' : Mem) : Prop := ∀ a c, M a = some c → M' a = some c
theorem Grow.refl (M : Mem) : Grow M M := fun _ _ e => e
theorem Grow.trans {M M1 M2 : Mem} (a : Grow M M1) (b : Grow M1 M2) : Grow M M2 := fun x c e => b x c (a x c e)
theorem Grow.set {M : Mem} {p : Addr} {c : Cell} (h : M p = none) : Grow M (setM M p c) := fun a x e => by rw [setM_ne (neM e h)]; exact e
mutual
theorem okR_domQ {M M' : Mem} (h : ∀ a, (M a).isSome = true → (M' a).isSome = true) : ∀ d, okR M d → okR M' d
  | .non, _ => by unfold okR; trivial
  | .bl _, _ => by unfold okR; trivial
  | .int _, _ => by unfold okR; trivial
  | .str _, q => by unfold okR at *; exact q
  | .tup ds, q => by unfold okR at *; exact ⟨q.1, okRs_domQ h ds q.2⟩
  | .lst _, _ => by unfold okR; trivial
  | .cel a, q => by unfold okR at *; rw [tyD_cel] at *; exact h a q
  | .scr _, q => by unfold okR at q; exact q.elim
  | .ty _, q => by unfold okR at q; exact q.elim
theorem okRs_domQ {M M' : Mem} (h : ∀ a, (M a).isSome = true → (M' a).isSome = true) : ∀ ds, okRs M ds → okRs M' ds
  | [], _ => by unfold okRs; trivial
  | d :: ds, q => by unfold okRs at *; exact ⟨okR_domQ h d q.1, okRs_domQ h ds q.2⟩
end
theorem Grow.okR {M M' : Mem} (g : Grow M M') {d : D} (h : okR M d) : okR M' d := okR_domQ (fun a e => by
  cases q : M a with
  | none => rw [q] at e; cases e
  | some c => rw [g a c q]; rfl) d h
/-- a plan whose tables have at most 2 c columns each -/
def PlB (c : Nat) (ts : List (Str × Cols)) : Prop := ∀ t ∈ ts, Snd (2 * c) t.2
def prs (ts : List (Str × Cols)) : List (Str × D) := ts.map fun t => (t.1, colsD t.2)
theorem tab_pr (ts : List (Str × Cols)) : ts.map tabD = (prs ts).map pr := by
  unfold prs
  rw [List.map_map]; rfl
theorem findP_tab : ∀ (ts : List (Str × Cols)) (s : Str), (findP (prs ts) s = none ∧ ts.find? (fun t => decide (t.1 = s)) = none) ∨ ∃ i t, findP (prs ts) s = some i ∧ ts.find? (fun t => decide (t.1 = s)) = some t ∧ ts[i]? = some t
  | [], s => .inl ⟨rfl, rfl⟩
  | t :: ts, s => by
    have e : findP (prs (t :: ts)) s = if t.1 = s then some 0 else (findP (prs ts) s).map (· + 1) := by
      unfold findP prs
      rw [List.map_cons, List.findIdx?_cons]
      by_cases q : t.1 = s <;> simp [q]
    rw [e, List.find?_cons]
    by_cases q : t.1 = s
    · simp only [q, if_true, decide_true]
      exact .inr ⟨0, t, rfl, rfl, rfl⟩
    · simp only [q, if_false, decide_false]
      rcases findP_tab ts s with ⟨h1, h2⟩ | ⟨i, c', h1, h2, h3⟩
      · exact .inl ⟨by rw [h1]; rfl, h2⟩
      · exact .inr ⟨i + 1, c', by rw [h1]; rfl, h2, by simpa using h3⟩
theorem place_tab (ts : List (Str × Cols)) (x : D) : (placeD (prs ts) x = .non ∧ tableOf ts x = none) ∨ ∃ i t, placeD (prs ts) x = .int ((i : Nat) : Int) ∧ ts[i]? = some t ∧ tableOf ts x = some t.2 := by
  cases x with
  | str s =>
    simp only [placeD, tableOf]
    by_cases q : isNm s = true
    · simp only [q, if_true]
      rcases findP_tab ts s with ⟨h1, h2⟩ | ⟨i, c, h1, h2, h3⟩
      · rw [h1, h2]; exact .inl ⟨rfl, rfl⟩
      · rw [h1, h2]; exact .inr ⟨i, c, rfl, h3, rfl⟩
    · simp only [q]; exact .inl ⟨rfl, rfl⟩
  | _ => exact .inl ⟨rfl, rfl⟩
def wAll : Str := Str.ofString "all"
theorem oneC_some {rec : D → Option Cols} {q : D} {f : Cols → Option Cols} {l : Cols} (h : oneC rec q f = some l) : ∃ cs, rec q = some cs ∧ f cs = some l := by
  unfold oneC at h
  split at h
  · rename_i cs e; exact ⟨cs, e, h⟩
  · cases h
theorem cnts_cons (d : D) (ds : List D) : cnts (d :: ds) = cnt d + 1 + cnts ds := by rw [cnts]
theorem cnts_nil : cnts [] = 0 := by rw [cnts]
theorem cnt_tup (ds : List D) : cnt (.tup ds) = cnts ds := by rw [cnt]
theorem cnt_mem : ∀ {ds : List D} {d : D}, d ∈ ds → cnt d + 1 ≤ cnts ds
  | x :: ds, d, h => by
    rw [cnts_cons]
    rcases List.mem_cons.mp h with e | e
    · rw [e]; omega
    · have := cnt_mem e; omega
theorem zip_snd {cs : Cols} : ∀ {l : List Str}, (∀ s ∈ l, isNm s = true) → (∀ c ∈ cs, Kd c.2) → ∀ x ∈ List.zipWith (fun n (c : Str × Str) => (n, c.2)) l cs, isNm x.1 = true ∧ Kd x.2 := by
  intro l hl hk x hx
  obtain ⟨i, hi⟩ := List.mem_iff_getElem?.mp hx
  rw [List.getElem?_zipWith] at hi
  cases q1 : l[i]? with
  | none => rw [q1] at hi; simp at hi
  | some n =>
    cases q2 : cs[i]? with
    | none => rw [q1, q2] at hi; simp at hi
    | some c =>
      rw [q1, q2] at hi
      simp at hi
      subst hi
      exact ⟨hl n (List.mem_of_getElem? q1), hk c (List.mem_of_getElem? q2)⟩
theorem strsN_nm : ∀ {xs : List D} {l : List Str}, strsN xs = some l → (∀ s ∈ l, isNm s = true) ∧ l.length = xs.length
  | [], l, h => by cases h; exact ⟨fun s hs => (by cases hs), rfl⟩
  | x :: r, l, h => by
    cases x with
    | str s =>
      simp only [strsN] at h
      split at h
      · rename_i m h1 h2
        cases h
        obtain ⟨a, b⟩ := strsN_nm h2
        refine ⟨fun t ht => ?_, by simp [b]⟩
        rcases List.mem_cons.mp ht with e | e
        · rw [e]; exact h1
        · exact a t e
      · cases h
    | _ => cases h
theorem sumCols_len {cs : Cols} : ∀ {xs : List D} {l : Cols}, sumCols cs xs = some l → l.length = xs.length
  | [], l, h => by cases h; rfl
  | x :: r, l, h => by
    unfold sumCols at h
    split at h
    · rename_i c m h1 h2
      cases h
      simp [sumCols_len h2]
    · cases h
/-- the columns found are sound -/
theorem q_snd {c : Nat} (hc : 1 ≤ c) {w : Str} {lf : D → Option Cols} (hl : ∀ d cs, lf d = some cs → Snd (c * cnt d) cs) : ∀ (n : Nat) (d : D) (cs : Cols), qCols w lf n d = some cs → Snd (c * cnt d) cs
  | 0, d, cs, h => by cases h
  | n + 1, d, cs, h => by
    have ih := q_snd hc (w := w) hl n
    unfold qCols at h
    split at h
    · exact hl d cs h
    rename_i nh
    clear nh
    unfold qStep at h
    split at h
    · rename_i w' q
      split at h
      · obtain ⟨es, e1, e2⟩ := oneC_some h
        cases e2
        refine (ih q cs e1).up (Nat.mul_le_mul_left c ?_)
        rw [cnt_tup]; exact Nat.le_of_succ_le (cnt_mem (by simp))
      · cases h
    · rename_i w' x q
      have mono : c * cnt q ≤ c * cnt (.tup [.str w', x, q]) := Nat.mul_le_mul_left c (by rw [cnt_tup]; exact Nat.le_of_succ_le (cnt_mem (by simp)))
      split at h
      · obtain ⟨es, e1, e2⟩ := oneC_some h
        split at e2
        · cases e2; exact (ih q cs e1).up mono
        · cases e2
      · split at h
        · obtain ⟨es, e1, e2⟩ := oneC_some h
          split at e2
          · exact (named_snd (ih q es e1) e2).up mono
          · cases e2
        · split at h
          · obtain ⟨es, e1, e2⟩ := oneC_some h
            have hs := ih q es e1
            unfold calledC at e2
            split at e2
            · split at e2
              · split at e2
                · rename_i l hl'
                  obtain ⟨rfl, _⟩ := unlike_some e2
                  have zs := zip_snd (strsN_nm hl').1 hs.kd
                  exact ⟨fun x hx => (zs x hx).1, fun x hx => (zs x hx).2, by rw [List.length_zipWith]; have := hs.le; omega⟩
                · cases e2
              · cases e2
            · cases e2
          · cases h
    · rename_i w' x y q
      have mono : c * cnt q ≤ c * cnt (.tup [.str w', x, y, q]) := Nat.mul_le_mul_left c (by rw [cnt_tup]; exact Nat.le_of_succ_le (cnt_mem (by simp)))
      split at h
      · obtain ⟨es, e1, e2⟩ := oneC_some h
        have hs := ih q es e1
        unfold sumsC at e2
        split at e2
        · rename_i g y1 yr eg
          split at e2
          · rename_i l hl'
            obtain ⟨rfl, _⟩ := unlike_some e2
            have gs := named_snd hs eg
            have ls := sumCols_snd hs.kd hl'
            refine ⟨fun x hx => ?_, fun x hx => ?_, ?_⟩
            · rcases List.mem_append.mp hx with z | z
              · exact gs.nm x z
              · exact (ls x z).1
            · rcases List.mem_append.mp hx with z | z
              · exact gs.kd x z
              · exact (ls x z).2
            · rw [List.length_append, sumCols_len hl', cnt_tup, cnts_cons, cnts_cons, cnts_cons, cnts_cons, cnts_nil, cnt_tup]
              have h1 := gs.le
              have h2 : (y1 :: yr).length ≤ cnts (y1 :: yr) := by
                have : ∀ zs : List D, zs.length ≤ cnts zs := fun zs => by
                  induction zs with
                  | nil => exact Nat.zero_le _
                  | cons z r ih => rw [cnts_cons, List.length_cons]; omega
                exact this _
              have h3 : c * cnt q + cnts (y1 :: yr) ≤ c * (cnt (.str w') + 1 + (cnt x + 1 + (cnts (y1 :: yr) + 1 + (cnt q + 1 + 0)))) := by
                have : cnts (y1 :: yr) ≤ c * cnts (y1 :: yr) := Nat.le_mul_of_pos_left _ hc
                calc c * cnt q + cnts (y1 :: yr) ≤ c * cnt q + c * cnts (y1 :: yr) := by omega
                  _ = c * (cnt q + cnts (y1 :: yr)) := by rw [Nat.mul_add]
                  _ ≤ _ := Nat.mul_le_mul_left c (by omega)
              omega
          · cases e2
        · cases e2
      · split at h
        · obtain ⟨es, e1, e2⟩ := oneC_some h
          split at e2
          · cases e2; exact (ih q cs e1).up mono
          · cases e2
        · cases h
    · rename_i w' a b q r
      have two : c * cnt q + c * cnt r ≤ c * cnt (.tup [.str w', a, b, q, r]) := by
        rw [← Nat.mul_add]
        refine Nat.mul_le_mul_left c ?_
        rw [cnt_tup, cnts_cons, cnts_cons, cnts_cons, cnts_cons, cnts_cons, cnts_nil]; omega
      split at h
      · obtain ⟨es, e1, e2⟩ := oneC_some h
        obtain ⟨fs, e3, e4⟩ := oneC_some e2
        split at e4
        · obtain ⟨rfl, _⟩ := unlike_some e4
          have s1 := ih q es e1
          have s2 := ih r fs e3
          refine ⟨fun x hx => ?_, fun x hx => ?_, ?_⟩
          · rcases List.mem_append.mp hx with z | z
            · exact s1.nm x z
            · exact s2.nm x z
          · rcases List.mem_append.mp hx with z | z
            · exact s1.kd x z
            · exact s2.kd x z
          · rw [List.length_append]; have := s1.le; have := s2.le; omega
        · cases e4
      · split at h
        · obtain ⟨es, e1, e2⟩ := oneC_some h
          obtain ⟨fs, e3, e4⟩ := oneC_some e2
          split at e4
          · cases e4; exact (ih q cs e1).up (by omega)
          · cases e4
        · cases h
    · cases h
theorem leaf_snd {c : Nat} {ts : List (Str × Cols)} (h : PlB c ts) : ∀ d cs, leafAll ts d = some cs → Snd (c * cnt d) cs := fun d cs e => by
  unfold leafAll at e
  split at e
  · rename_i a t
    rcases place_tab ts t with ⟨_, e2⟩ | ⟨i, t', _, h2, e2⟩
    · rw [e2] at e; cases e
    · rw [e2] at e; cases e
      refine (h t' (List.mem_of_getElem? h2)).up ?_
      rw [cnt_tup, cnts_cons, cnts_cons, cnts_nil, Nat.mul_comm]
      exact Nat.mul_le_mul_left c (by omega)
  · cases e
end K04

set_option autoImplicit false
set_option maxRecDepth 100000
set_option maxHeartbeats 4000000
namespace K04
open PySem L2 DL
section
variable {P : Program} {w : World} {K : PySem.W.Frag} {mg : Str → Option Value} {base : Heap}
def F_leaf : FD := fun ds M k => ∃ (ts : List (Str × Cols)) (t : D), ds = [.tup (ts.map tabD), .tup [.str wAll, t]] ∧ okR M t ∧ k (optD (tableOf ts t)) M
theorem ok_leaf (T : Txt K mg) (B : DD K mg) {L : Nat} {F : FD} (hL : 2 ≤ L) (G_is_right : DFn P w K mg base L B.f_is_right B.fd_is_right p_is_right F) : DFn P w K mg base (L + 1) B.f_leaf_columns B.fd_leaf_columns p_leaf_columns F_leaf := by
  have G_place_of : DFn P w K mg base 2 B.f_place_of B.fd_place_of p_place_of F_place_of := ok_place_of T B
  refine Fun.okD (k := L) B.d_leaf_columns.F sc_leaf_columns (fun cdv A outer s H E hr => (dss_cons (ds_set (i := 2) sc_leaf_columns.nd (de_own B.d_place_of G_place_of hr (by first | decide | omega) (da_cons (dv 0) (da_cons (de_ix (dv 1) de_int) da_nil)))) (dss_cons (ds_if (dt_cmpA c_is (dv 2) de_non) (dss_one (ds_ret de_non)) dss_nil) (dss_cons (ds_if (dw_pt (dw_and (dt_cmpA (c_eq hr) (de_ix (dv 1) de_int) de_str) (dw_and1 (dt_not (dt_val (de_own B.d_is_right G_is_right hr (by first | decide | omega) (da_cons (dv 0) (da_cons (de_ix (dv 1) de_int) (da_cons (de_ix (dv 1) de_int) da_nil))))))))) (dss_one (ds_ret de_non)) dss_nil) (dss_one (ds_ret (de_ix (de_ix (dv 0) (dv 2)) de_int))))))) (fun ds M k h => ?_)
  obtain ⟨ts, t, rfl, ht, hk⟩ := h
  (refine ⟨rfl, ?_⟩; rw [show startD N_leaf_columns [.tup (ts.map tabD), .tup [.str wAll, t]] = [some (.tup (ts.map tabD)), some (.tup [.str wAll, t]), none] from rfl])
  simp only [wNext, wSeq, wBreak, wContinue, wExpr, wRet, wRetN, wIfS, wSet, wAsg, wPar, wPar3, wFor, wSub, wTst, wOp, wChain, wNotT, wAndT, wOrT, wAndV, wOrV, wNotV, wIf, wNil, wCons, wTup, wLst, wLstM, wCall, wCall0, wVar, wC, wLc, wLcM, wYes, wiL, wiT, wiS, wiR, wiEnT, wiEnL, wiZip, wSl, woNone, woSome, wMt, wJoin, wGet, wUn, wTru, wDNew, fin, List.getElem?_cons_zero, List.getElem?_cons_succ, List.set_cons_zero, List.set_cons_succ]
  refine ix_tup (at1 _ _ _) ⟨prs ts, t, by rw [tab_pr], ht, ?_⟩
  rcases place_tab ts t with ⟨h1, h2⟩ | ⟨i, t', h1, h2, h3⟩
  · rw [h1]; rw [h2] at hk
    exact r_isN (tt hk)
  · rw [h1]; rw [h3] at hk
    refine r_isI (ff (ix_tup (at0 _ _) (eq_strA ?_)))
    rw [decide_eq_false (show ¬ wAll = Str.ofString "see" by decide)]
    refine ff (ff (ix_tup (d := tabD t') (atI_nat ?_) (ix_tup (at1 _ _ _) hk)))
    rw [List.getElem?_map, h2]; rfl
def lenQ (s : Str) : D := (lookT kvs_LENGTHS_forms s).getD .non
def formQ : D → Bool
  | .tup (.str s :: r) => (match lenQ s with | .int i => decide (i = ((r.length + 1 : Nat) : Int)) | _ => false)
  | _ => false
theorem lenQ_cases (s : Str) : (lenQ s = .non) ∨ ∃ i, lenQ s = .int i ∧ (s, D.int i) ∈ kvs_LENGTHS_forms := by
  unfold lenQ
  cases q : lookT kvs_LENGTHS_forms s with
  | none => exact .inl rfl
  | some d =>
    have h := lookT_mem q
    have h2 := h
    unfold kvs_LENGTHS_forms at h2
    simp only [List.mem_cons, List.not_mem_nil, or_false, Prod.mk.injEq] at h2
    obtain ⟨i, rfl⟩ : ∃ i, d = .int i := by
      rcases h2 with ⟨_, rfl⟩ | ⟨_, rfl⟩ | ⟨_, rfl⟩ | ⟨_, rfl⟩ | ⟨_, rfl⟩ | ⟨_, rfl⟩ | ⟨_, rfl⟩ | ⟨_, rfl⟩ | ⟨_, rfl⟩ | ⟨_, rfl⟩ <;> exact ⟨_, rfl⟩
    exact .inr ⟨i, rfl, h⟩
/-- what has the form of a question -/
theorem formQ_cases {d : D} (h : formQ d = true) : (∃ t, d = .tup [.str wAll, t]) ∨ (∃ a b, d = .tup [.str (Str.ofString "see"), a, b]) ∨ Fm d := by
  unfold formQ at h
  split at h
  · rename_i s r
    rcases lenQ_cases s with e | ⟨i, e, hm⟩
    · rw [e] at h; cases h
    · rw [e] at h
      simp only [decide_eq_true_eq] at h
      unfold kvs_LENGTHS_forms at hm
      simp only [List.mem_cons, List.not_mem_nil, or_false, Prod.mk.injEq, D.int.injEq] at hm
      have l1 : r.length = 1 → ∃ a, r = [a] := fun e => List.length_eq_one_iff.mp e
      have l2 : r.length = 2 → ∃ a b, r = [a, b] := fun e => by
        match r, e with
        | [a, b], _ => exact ⟨a, b, rfl⟩
      have l3 : r.length = 3 → ∃ a b c, r = [a, b, c] := fun e => by
        match r, e with
        | [a, b, c], _ => exact ⟨a, b, c, rfl⟩
      have l4 : r.length = 4 → ∃ a b c d, r = [a, b, c, d] := fun e => by
        match r, e with
        | [a, b, c, d], _ => exact ⟨a, b, c, d, rfl⟩
      rcases hm with ⟨rfl, q⟩ | ⟨rfl, q⟩ | ⟨rfl, q⟩ | ⟨rfl, q⟩ | ⟨rfl, q⟩ | ⟨rfl, q⟩ | ⟨rfl, q⟩ | ⟨rfl, q⟩ | ⟨rfl, q⟩ | ⟨rfl, q⟩
      · obtain ⟨a, rfl⟩ := l1 (by omega); exact .inl ⟨a, rfl⟩
      · obtain ⟨a, b, rfl⟩ := l2 (by omega); exact .inr (.inl ⟨a, b, rfl⟩)
      · obtain ⟨a, b, rfl⟩ := l2 (by omega); exact .inr (.inr (.where_ a b))
      · obtain ⟨a, b, rfl⟩ := l2 (by omega); exact .inr (.inr (.pick a b))
      · obtain ⟨a, b, rfl⟩ := l2 (by omega); exact .inr (.inr (.called a b))
      · obtain ⟨a, b, c, d, rfl⟩ := l4 (by omega); exact .inr (.inr (.join a b c d))
      · obtain ⟨a, b, c, rfl⟩ := l3 (by omega); exact .inr (.inr (.sums a b c))
      · obtain ⟨a, rfl⟩ := l1 (by omega); exact .inr (.inr (.once a))
      · obtain ⟨a, b, c, d, rfl⟩ := l4 (by omega); exact .inr (.inr (.lacking a b c d))
      · obtain ⟨a, b, c, rfl⟩ := l3 (by omega); exact .inr (.inr (.first a b c))
  · cases h
theorem fm_form {d : D} (h : Fm d) : formQ d = true := by
  cases h <;> rfl
theorem step_fm {rec : D → Option Cols} {n : Nat} {d : D} {l : Cols} (h : qStep rec n d = some l) : Fm d := by
  unfold qStep at h
  split at h
  · split at h
    · rename_i e; subst e; exact .once _
    · cases h
  · split at h
    · rename_i e; subst e; exact .where_ _ _
    · split at h
      · rename_i e; subst e; exact .pick _ _
      · split at h
        · rename_i e; subst e; exact .called _ _
        · cases h
  · split at h
    · rename_i e; subst e; exact .sums _ _ _
    · split at h
      · rename_i e; subst e; exact .first _ _ _
      · cases h
  · split at h
    · rename_i e; subst e; exact .join _ _ _ _
    · split at h
      · rename_i e; subst e; exact .lacking _ _ _ _
      · cases h
  · cases h
theorem step_none {rec : D → Option Cols} {n : Nat} {d e : D} (he : e ∈ inners d) (hr : rec e = none) : qStep rec n d = none := by
  cases q : qStep rec n d with
  | none => rfl
  | some l =>
    exfalso
    have fm := step_fm q
    cases fm with
    | once x => simp [inners] at he; subst he; simp [qStep, oneC, hr] at q
    | where_ x y => simp [inners] at he; subst he; simp [qStep, oneC, hr] at q
    | pick x y => simp [inners] at he; subst he; simp [qStep, oneC, hr] at q
    | called x y => simp [inners] at he; subst he; simp [qStep, oneC, hr] at q
    | sums x y z => simp [inners] at he; subst he; simp [qStep, oneC, hr] at q
    | first x y z => simp [inners] at he; subst he; simp [qStep, oneC, hr] at q
    | join a b c d =>
      simp [inners] at he
      rcases he with rfl | rfl
      · simp [qStep, oneC, hr] at q
      · cases e1 : rec c <;> simp [qStep, oneC, hr, e1] at q
    | lacking a b c d =>
      simp [inners] at he
      rcases he with rfl | rfl
      · simp [qStep, oneC, hr] at q
      · cases e1 : rec c <;> simp [qStep, oneC, hr, e1] at q
theorem cols_none {ts : List (Str × Cols)} {n : Nat} {d : D} (h : formQ d = false) : qCols wAll (leafAll ts) n d = none := by
  cases n with
  | zero => rfl
  | succ n =>
    unfold qCols
    split
    · rename_i e
      unfold leafAll
      split
      · rename_i a t
        unfold headS at e
        split at e
        · rename_i s r q
          cases e
          cases q
          cases h
        · cases e
      · rfl
    · cases q : qStep (qCols wAll (leafAll ts) n) n d with
      | none => rfl
      | some l => rw [fm_form (step_fm q)] at h; cases h
def F_cin (n : Nat) : FD := fun ds M k => ∃ (ts : List (Str × Cols)) (d : D) (c : Nat), ds = [.tup (ts.map tabD), .str wAll, d] ∧ 1 ≤ c ∧ PlB c ts ∧ okR M d ∧ far d ≤ n ∧ c * cnt d ≤ 2000 ∧ ∀ M', Grow M M' → k (optD (qCols wAll (leafAll ts) n d)) M'
def S_cin {K : PySem.W.Frag} {mg : Str → Option Value} (B : DD K mg) (m : Nat) : Addr → FD → Prop := fun f F => (f = B.f_where_columns ∧ F = F_where m) ∨ (f = B.f_pick_columns ∧ F = F_pick_columns) ∨ (f = B.f_called_columns ∧ F = F_called_columns) ∨ (f = B.f_join_columns ∧ F = F_join) ∨
  (f = B.f_sums_columns ∧ F = F_sums) ∨ (f = B.f_once_columns ∧ F = F_once) ∨ (f = B.f_lacking_columns ∧ F = F_lacking) ∨ (f = B.f_first_columns ∧ F = F_first)
theorem cin_step (T : Txt K mg) (B : DD K mg) (TW : TxtW K w mg B) {n L : Nat} (hL : 6 + n ≤ L) (G_columns_in : DFn P w K mg base L B.f_columns_in B.fd_columns_in p_columns_in (fun ds M k => ∃ m, n = m + 1 ∧ F_cin m ds M k)) : DFn P w K mg base (L + 1) B.f_columns_in B.fd_columns_in p_columns_in (F_cin n) := by
  have G_has_word : DFn P w K mg base 1 B.f_has_word B.fd_has_word p_has_word F_has_word := ok_has_word T B
  have G_just_within : DFn P w K mg base 1 B.f_just_within B.fd_just_within p_just_within F_just_within := ok_just_within T B TW
  have G_leaf_columns : DFn P w K mg base 3 B.f_leaf_columns B.fd_leaf_columns p_leaf_columns F_leaf := ok_leaf T B (F := fun _ _ _ => False) (Nat.le_refl 2) DFn.none
  obtain ⟨S_columns_in, hS⟩ : ∃ S, S = S_cin B (n - 1) := ⟨_, rfl⟩
  have A_columns_in : ∀ f F, S_columns_in f F → HeldD P w K mg base (6 + n) f F := fun f F h => by
    rw [hS] at h
    rcases h with ⟨rfl, rfl⟩ | ⟨rfl, rfl⟩ | ⟨rfl, rfl⟩ | ⟨rfl, rfl⟩ | ⟨rfl, rfl⟩ | ⟨rfl, rfl⟩ | ⟨rfl, rfl⟩ | ⟨rfl, rfl⟩
    · exact B.d_where_columns.held ((ok_where T B TW (n - 1)).mono (by omega))
    · exact B.d_pick_columns.held ((ok_pick_columns T B).mono (by omega))
    · exact B.d_called_columns.held ((ok_called_columns T B).mono (by omega))
    · exact B.d_join_columns.held ((ok_join T B).mono (by omega))
    · exact B.d_sums_columns.held ((ok_sums T B).mono (by omega))
    · exact B.d_once_columns.held ((ok_once T B).mono (by omega))
    · exact B.d_lacking_columns.held ((ok_lacking T B).mono (by omega))
    · exact B.d_first_columns.held ((ok_first T B).mono (by omega))
  refine Fun.okD (k := L) B.d_columns_in.F sc_columns_in (fun cdv A outer s H E hr => (dss_cons (ds_if (dw_pt (dw_or (dt_not (dt_val (de_own B.d_has_word G_has_word hr (by first | decide | omega) (da_cons (dv 2) da_nil)))) (dw_or1 (dt_cmpA (c_ne hr) (de_mget TW.c_LENGTHS_forms (de_ix (dv 2) de_int)) (de_len T.b_len (dv 2)))))) (dss_one (ds_ret de_non)) dss_nil) (dss_cons (ds_if (dt_cmpA (c_eq hr) (de_ix (dv 2) de_int) (dv 1)) (dss_one (ds_ret (de_own B.d_leaf_columns G_leaf_columns hr (by first | decide | omega) (da_cons (dv 0) (da_cons (dv 2) da_nil))))) dss_nil) (dss_cons (ds_if (dt_mnin TW.c_COLUMNS (de_ix (dv 2) de_int)) (dss_one (ds_ret de_non)) dss_nil) (dss_cons (ds_set (i := 3) sc_columns_in.nd (de_lstM da_nil)) (dss_cons (ds_for rfl (di_tup (de_own B.d_just_within G_just_within hr (by first | decide | omega) (da_cons (dv 2) da_nil))) (dg_name (i := 4) sc_columns_in.nd) (dss_cons (ds_set (i := 5) sc_columns_in.nd (de_own B.d_columns_in G_columns_in hr (by first | decide | omega) (da_cons (dv 0) (da_cons (dv 1) (da_cons (dv 4) da_nil))))) (dss_cons (ds_if (dt_cmpA c_is (dv 5) de_non) (dss_one (ds_ret de_non)) dss_nil) (dss_one (ds_expr (de_append (dv 3) (dv 5))))))) (dss_cons (ds_set (i := 6) sc_columns_in.nd (de_mix TW.c_COLUMNS (de_ix (dv 2) de_int))) (dss_one (ds_ret (de_callL (i := 6) (S := S_columns_in) A_columns_in hr (by first | decide | omega) (da_cons (dv 2) (da_cons (dv 3) da_nil)))))))))))) (fun ds M k h => ?_)
  obtain ⟨ts, d, c, rfl, c1, hpl, hd, hf, hcnt, hk⟩ := h
  (refine ⟨rfl, ?_⟩; rw [show startD N_columns_in [.tup (ts.map tabD), .str wAll, d] = [some (.tup (ts.map tabD)), some (.str wAll), some (d), none, none, none, none] from rfl])
  refine seq_step ?_
  simp only [wNext, wSeq, wBreak, wContinue, wExpr, wRet, wRetN, wIfS, wSet, wAsg, wPar, wPar3, wFor, wSub, wTst, wOp, wChain, wNotT, wAndT, wOrT, wAndV, wOrV, wNotV, wIf, wNil, wCons, wTup, wLst, wLstM, wCall, wCall0, wVar, wC, wLc, wLcM, wYes, wiL, wiT, wiS, wiR, wiEnT, wiEnL, wiZip, wSl, woNone, woSome, wMt, wJoin, wGet, wUn, wTru, wDNew, fin, List.getElem?_cons_zero, List.getElem?_cons_succ, List.set_cons_zero, List.set_cons_succ]
  refine ⟨d, rfl, hd, ?_⟩
  cases hform : formQ d with
  | false =>
    have hk := hk M (Grow.refl M)
    rw [cols_none hform] at hk
    match d, hd, hform, hk with
    | .tup (.str s :: r), _, hform, hk =>
      refine ff (ix_tup (at0 _ _) (r_mget ?_))
      rw [show (lookT kvs_LENGTHS_forms s).getD D.non = lenQ s from rfl]
      have e : formQ (.tup (.str s :: r)) = (match lenQ s with | .int i => decide (i = ((r.length + 1 : Nat) : Int)) | _ => false) := rfl
      rw [e] at hform
      rcases lenQ_cases s with q | ⟨i, q, _⟩
      · rw [q]
        exact r_lenT (eq_flat .non (.int _) (tt hk))
      · rw [q] at hform ⊢
        refine r_lenT (eq_int ?_)
        have hne : decide (i = (((D.str s :: r).length : Nat) : Int)) = false := hform
        rw [hne]
        exact tt hk
    | .tup [], _, _, hk => exact tt hk
    | .tup (.non :: _), _, _, hk => exact tt hk
    | .tup (.bl _ :: _), _, _, hk => exact tt hk
    | .tup (.int _ :: _), _, _, hk => exact tt hk
    | .tup (.tup _ :: _), _, _, hk => exact tt hk
    | .tup (.lst _ :: _), _, _, hk => exact tt hk
    | .tup (.scr _ :: _), _, _, hk => exact tt hk
    | .tup (.cel _ :: _), _, _, hk => exact tt hk
    | .tup (.ty _ :: _), _, _, hk => exact tt hk
    | .non, _, _, hk => exact tt hk
    | .bl _, _, _, hk => exact tt hk
    | .int _, _, _, hk => exact tt hk
    | .str _, _, _, hk => exact tt hk
    | .lst _, _, _, hk => exact tt hk
    | .scr _, _, _, hk => exact tt hk
    | .cel _, _, _, hk => exact tt hk
    | .ty _, _, _, hk => exact tt hk
  | true =>
    obtain ⟨s, r, rfl⟩ : ∃ s r, d = .tup (.str s :: r) := by
      unfold formQ at hform
      split at hform
      · exact ⟨_, _, rfl⟩
      · cases hform
    refine ff (ix_tup (at0 _ _) (r_mget ?_))
    rw [show (lookT kvs_LENGTHS_forms s).getD D.non = lenQ s from rfl]
    have e : formQ (.tup (.str s :: r)) = (match lenQ s with | .int i => decide (i = ((r.length + 1 : Nat) : Int)) | _ => false) := rfl
    have hf2 := hform
    rw [e] at hf2
    rcases lenQ_cases s with ql | ⟨i, ql, qm⟩
    · rw [ql] at hf2; cases hf2
    rw [ql] at hf2 ⊢
    refine r_lenT (eq_int ?_)
    have hyes : decide (i = (((D.str s :: r).length : Nat) : Int)) = true := hf2
    rw [hyes]
    clear hyes hf2 ql qm
    refine ff ?_
    obtain ⟨m, rfl⟩ : ∃ m, n = m + 1 := ⟨n - 1, by rw [far_tup] at hf; omega⟩
    have hfr := far_tupL hf
    unfold okR at hd
    have okx : ∀ x ∈ r, okR M x := fun x hx => okRs_mem hd.2 (List.mem_cons_of_mem _ hx)
    rcases formQ_cases hform with ⟨t, e1⟩ | ⟨a, b, e1⟩ | fm
    · cases e1
      refine ix_tup (at0 _ _) (eq_strA ?_)
      rw [decide_eq_true rfl]
      refine tt ⟨ts, t, rfl, okx t (by simp), ?_⟩
      have hk := hk M (Grow.refl M)
      unfold qCols at hk
      rw [if_pos (show headS (D.tup [D.str wAll, t]) = some wAll from rfl)] at hk
      exact hk
    · cases e1
      refine ix_tup (at0 _ _) (eq_strA ?_)
      rw [decide_eq_false (show ¬ Str.ofString "see" = wAll by decide)]
      refine ff (ix_tup (at0 _ _) (r_min ?_))
      have hk := hk M (Grow.refl M)
      unfold qCols at hk
      rw [if_neg (show ¬ headS (D.tup [D.str (Str.ofString "see"), a, b]) = some wAll by intro z; cases z)] at hk
      have : qStep (qCols wAll (leafAll ts) m) m (.tup [.str (Str.ofString "see"), a, b]) = none := by
        cases q : qStep (qCols wAll (leafAll ts) m) m (.tup [.str (Str.ofString "see"), a, b]) with
        | none => rfl
        | some l => exact absurd (step_fm q) (by intro z; cases z)
      rw [this] at hk
      exact tt hk
    · have nall : s ≠ wAll := fun e => by subst e; cases fm
      have hcol : ∃ f, lookT (kvs_COLUMNS B) s = some (.cel f) := by cases fm <;> exact ⟨_, rfl⟩
      obtain ⟨fc, hfc⟩ := hcol
      refine ix_tup (at0 _ _) (eq_strA ?_)
      rw [decide_eq_false nall]
      refine ff (ix_tup (at0 _ _) (r_min ?_))
      rw [hfc]
      refine ff ⟨Nat.zero_le _, fun p hp => ⟨_, rfl, fm, ?_⟩⟩
      have hk2 : ∀ M', Grow M M' → k (optD (qStep (qCols wAll (leafAll ts) m) m (.tup (.str s :: r)))) M' := fun M' g => by
        have hk := hk M' g
        unfold qCols at hk
        rw [if_neg (show ¬ headS (D.tup (D.str s :: r)) = some wAll from fun z => nall (Option.some.inj z))] at hk
        exact hk
      have inn : ∀ e ∈ inners (.tup (.str s :: r)), e ∈ r := fun e he => by
        cases fm <;> (simp [inners] at he; first | (rcases he with rfl | rfl <;> simp) | (subst he; simp))
      refine loop_inv (fun its Γ M' => ∃ (pre : List D) (css : List Cols), inners (.tup (.str s :: r)) = pre ++ its ∧ pre.map (qCols wAll (leafAll ts) m) = css.map some ∧ M' p = some (.lst (css.map colsD)) ∧ Grow M M' ∧ css.length ≤ 4 ∧ its.length + css.length ≤ 2 ∧
        ∃ x4 x5 x6, Γ = [some (.tup (ts.map tabD)), some (.str wAll), some (.tup (.str s :: r)), some (.cel p), x4, x5, x6]) (fun _ _ _ _ => trivial) ?_ ?_ _ _ _
        ⟨[], [], rfl, rfl, setM_same, Grow.set hp, by simp, (by rcases fm.inn with ⟨q, e⟩ | ⟨q, q', e⟩ <;> rw [e] <;> simp), _, _, _, rfl⟩
      · rintro Γ M1 ⟨pre, css, h1, h2, h3, g1, h4, h5, x4, x5, x6, rfl⟩
        rw [List.append_nil] at h1
        rw [← h1] at h2
        simp only [wNext, wSeq, wBreak, wContinue, wExpr, wRet, wRetN, wIfS, wSet, wAsg, wPar, wPar3, wFor, wSub, wTst, wOp, wChain, wNotT, wAndT, wOrT, wAndV, wOrV, wNotV, wIf, wNil, wCons, wTup, wLst, wLstM, wCall, wCall0, wVar, wC, wLc, wLcM, wYes, wiL, wiT, wiS, wiR, wiEnT, wiEnL, wiZip, wSl, woNone, woSome, wMt, wJoin, wGet, wUn, wTru, wDNew, fin, List.getElem?_cons_zero, List.getElem?_cons_succ, List.set_cons_zero, List.set_cons_succ]
        refine ix_tup (at0 _ _) (r_mix hfc ?_)
        have hk3 := hk2 M1 g1
        have snd : ∀ (q : D) (cs : Cols), q ∈ r → qCols wAll (leafAll ts) m q = some cs → Snd (c * cnt q) cs ∧ Snd 2000 cs := fun q cs hq e => by
          have hs := q_snd c1 (leaf_snd hpl) m q cs e
          refine ⟨hs, hs.up (Nat.le_trans (Nat.mul_le_mul_left c ?_) hcnt)⟩
          rw [cnt_tup]
          exact Nat.le_of_succ_le (cnt_mem (List.mem_cons_of_mem _ hq))
        have ok1 : ∀ x ∈ r, okR M1 x := fun x hx => g1.okR (okx x hx)
        have one : ∀ q, inners (.tup (.str s :: r)) = [q] → ∃ cs, qCols wAll (leafAll ts) m q = some cs ∧ InC M1 (.cel p) [cs] := fun q e => by
          rw [e] at h2
          match css, h2 with
          | [cs], h2 => simp at h2; exact ⟨cs, h2, p, rfl, h3⟩
          | [], h2 => simp at h2
          | _ :: _ :: _, h2 => simp at h2
        have two : ∀ q q', inners (.tup (.str s :: r)) = [q, q'] → ∃ cs es, qCols wAll (leafAll ts) m q = some cs ∧ qCols wAll (leafAll ts) m q' = some es ∧ InC M1 (.cel p) [cs, es] := fun q q' e => by
          rw [e] at h2
          match css, h2 with
          | [cs, es], h2 => simp at h2; exact ⟨cs, es, h2.1, h2.2, p, rfl, h3⟩
          | [], h2 => simp at h2
          | [_], h2 => simp at h2
          | _ :: _ :: _ :: _, h2 => simp at h2
        unfold wCallL
        rw [hS]
        cases fm with
        | once q =>
          obtain ⟨cs, e1, hi⟩ := one q (by simp [inners])
          cases hfc
          refine ⟨_, _, .inr (.inr (.inr (.inr (.inr (.inl ⟨rfl, rfl⟩))))), rfl, _, _, cs, [], rfl, hi, ?_⟩
          simp only [qStep, if_true, oneC, e1] at hk3
          exact hk3
        | where_ x q =>
          obtain ⟨cs, e1, hi⟩ := one q (by simp [inners])
          obtain ⟨s1, s2⟩ := snd q cs (by simp) e1
          cases hfc
          refine ⟨_, _, .inl ⟨rfl, rfl⟩, rfl, _, _, _, _, cs, [], rfl, hi, s2.cs (by decide), ok1 x (by simp), hfr x (by simp), ?_⟩
          simp only [qStep, if_true, oneC, e1] at hk3
          exact hk3
        | pick x q =>
          obtain ⟨cs, e1, hi⟩ := one q (by simp [inners])
          obtain ⟨s1, s2⟩ := snd q cs (by simp) e1
          cases hfc
          refine ⟨_, _, .inr (.inl ⟨rfl, rfl⟩), rfl, _, _, _, _, cs, [], rfl, hi, by have := s2.le; omega, ok1 x (by simp), ?_⟩
          simp only [qStep, show ¬ Str.ofString "pick" = Str.ofString "where" by decide, if_false, if_true, oneC, e1] at hk3
          exact hk3
        | called x q =>
          obtain ⟨cs, e1, hi⟩ := one q (by simp [inners])
          obtain ⟨s1, s2⟩ := snd q cs (by simp) e1
          cases hfc
          refine ⟨_, _, .inr (.inr (.inl ⟨rfl, rfl⟩)), rfl, _, _, _, _, cs, [], rfl, hi, by have := s2.le; omega, ok1 x (by simp), ?_⟩
          simp only [qStep, show ¬ Str.ofString "called" = Str.ofString "where" by decide, show ¬ Str.ofString "called" = Str.ofString "pick" by decide, if_false, if_true, oneC, e1] at hk3
          exact hk3
        | sums x y q =>
          obtain ⟨cs, e1, hi⟩ := one q (by simp [inners])
          obtain ⟨s1, s2⟩ := snd q cs (by simp) e1
          cases hfc
          refine ⟨_, _, .inr (.inr (.inr (.inr (.inl ⟨rfl, rfl⟩)))), rfl, _, _, _, _, _, cs, [], 2000, rfl, hi, s2, Nat.le_refl _, ok1 x (by simp), ok1 y (by simp), ?_⟩
          simp only [qStep, if_true, oneC, e1] at hk3
          exact hk3
        | first x y q =>
          obtain ⟨cs, e1, hi⟩ := one q (by simp [inners])
          obtain ⟨s1, s2⟩ := snd q cs (by simp) e1
          cases hfc
          refine ⟨_, _, .inr (.inr (.inr (.inr (.inr (.inr (.inr ⟨rfl, rfl⟩)))))), rfl, _, _, _, _, _, cs, [], rfl, hi, by have := s2.le; omega, ok1 x (by simp), ok1 y (by simp), ?_⟩
          simp only [qStep, show ¬ Str.ofString "first" = Str.ofString "sums" by decide, if_false, if_true, oneC, e1] at hk3
          exact hk3
        | join a b q q' =>
          obtain ⟨cs, es, e1, e2, hi⟩ := two q q' (by simp [inners])
          obtain ⟨s1, s2⟩ := snd q cs (by simp) e1
          obtain ⟨s3, s4⟩ := snd q' es (by simp) e2
          cases hfc
          refine ⟨_, _, .inr (.inr (.inr (.inl ⟨rfl, rfl⟩))), rfl, _, _, _, _, _, cs, es, [], rfl, hi, s2.kd, s4.kd, by have := s2.le; have := s4.le; omega, ok1 a (by simp), ok1 b (by simp), ?_⟩
          simp only [qStep, if_true, oneC, e1, e2] at hk3
          exact hk3
        | lacking a b q q' =>
          obtain ⟨cs, es, e1, e2, hi⟩ := two q q' (by simp [inners])
          obtain ⟨s1, s2⟩ := snd q cs (by simp) e1
          obtain ⟨s3, s4⟩ := snd q' es (by simp) e2
          cases hfc
          refine ⟨_, _, .inr (.inr (.inr (.inr (.inr (.inr (.inl ⟨rfl, rfl⟩)))))), rfl, _, _, _, _, _, cs, es, [], rfl, hi, s2.kd, s4.kd, ok1 a (by simp), ok1 b (by simp), ?_⟩
          simp only [qStep, show ¬ Str.ofString "lacking" = Str.ofString "join" by decide, if_false, if_true, oneC, e1, e2] at hk3
          exact hk3
      · rintro e its Γ M1 ⟨pre, css, h1, h2, h3, g1, h4, h5, x4, x5, x6, rfl⟩
        refine ⟨_, rfl, fun k' v1 v2 v3 v4 => ?_⟩
        have he : e ∈ inners (.tup (.str s :: r)) := by rw [h1]; simp
        have her := inn e he
        simp only [wNext, wSeq, wBreak, wContinue, wExpr, wRet, wRetN, wIfS, wSet, wAsg, wPar, wPar3, wFor, wSub, wTst, wOp, wChain, wNotT, wAndT, wOrT, wAndV, wOrV, wNotV, wIf, wNil, wCons, wTup, wLst, wLstM, wCall, wCall0, wVar, wC, wLc, wLcM, wYes, wiL, wiT, wiS, wiR, wiEnT, wiEnL, wiZip, wSl, woNone, woSome, wMt, wJoin, wGet, wUn, wTru, wDNew, fin, List.getElem?_cons_zero, List.getElem?_cons_succ, List.set_cons_zero, List.set_cons_succ]
        refine ⟨m, rfl, ts, e, c, rfl, c1, hpl, g1.okR (okx e her), hfr e (List.mem_cons_of_mem _ her), ?_, fun M2 g2 => ?_⟩
        · refine Nat.le_trans (Nat.mul_le_mul_left c ?_) hcnt
          rw [cnt_tup]
          exact Nat.le_of_succ_le (cnt_mem (List.mem_cons_of_mem _ her))
        · cases q : qCols wAll (leafAll ts) m e with
          | none =>
            have := hk2 M2 (g1.trans g2)
            rw [step_none he q] at this
            refine r_isN (tt ?_)
            rw [v1]; exact this
          | some cs =>
            refine (show rdIs id (colsD cs) .non M2 _ from r_isT (ff ?_))
            have h3' := g2 p _ h3
            refine ⟨isC h3', r_app h3' (z2 (by simp; omega)) ?_⟩
            refine v3 _ _ ⟨pre ++ [e], css ++ [cs], by rw [h1]; simp, by simp [h2, q], by rw [setM_same, List.map_append]; rfl, ?_, by simp at h5 ⊢; omega, by simp at h5 ⊢; omega, _, _, _, rfl⟩
            intro a x ha
            have : a ≠ p := neM ha hp
            rw [setM_ne this]; exact (g1.trans g2) a x ha
theorem ok_columns_in (T : Txt K mg) (B : DD K mg) (TW : TxtW K w mg B) : ∀ n, DFn P w K mg base (7 + n) B.f_columns_in B.fd_columns_in p_columns_in (F_cin n)
  | 0 => cin_step T B TW (L := 6) (by omega) (DFn.weak DFn.none fun ds M k ⟨m, e, _⟩ => by cases e)
  | n + 1 => cin_step T B TW (n := n + 1) (L := 7 + n) (by omega) (DFn.weak (ok_columns_in T B TW n) fun ds M k ⟨m, e, h⟩ => by
      cases e
      exact h)
def F_columns_of (n : Nat) : FD := fun ds M k => ∃ (ts : List (Str × Cols)) (d : D) (c : Nat), ds = [.tup (ts.map tabD), d] ∧ 1 ≤ c ∧ PlB c ts ∧ okR M d ∧ far d ≤ n ∧ c * cnt d ≤ 2000 ∧ ∀ M', Grow M M' → k (optD (qCols wAll (leafAll ts) n d)) M'
theorem ok_columns_of (T : Txt K mg) (B : DD K mg) (TW : TxtW K w mg B) (n : Nat) : DFn P w K mg base (8 + n) B.f_columns_of B.fd_columns_of p_columns_of (F_columns_of n) := by
  have G_columns_in : DFn P w K mg base (7 + n) B.f_columns_in B.fd_columns_in p_columns_in (F_cin n) := ok_columns_in T B TW n
  refine DFn.mono (j := 7 + n + 1) ?_ (by omega)
  refine Fun.okD (k := 7 + n) B.d_columns_of.F sc_columns_of (fun cdv A outer s H E hr => (dss_one (ds_ret (de_own B.d_columns_in G_columns_in hr (by first | decide | omega) (da_cons (dv 0) (da_cons de_str (da_cons (dv 1) da_nil))))))) (fun ds M k h => ?_)
  obtain ⟨ts, d, c, rfl, c1, hp, hd, hf, hcnt, hk⟩ := h
  (refine ⟨rfl, ?_⟩; rw [show startD N_columns_of [.tup (ts.map tabD), d] = [some (.tup (ts.map tabD)), some (d)] from rfl])
  simp only [wNext, wSeq, wBreak, wContinue, wExpr, wRet, wRetN, wIfS, wSet, wAsg, wPar, wPar3, wFor, wSub, wTst, wOp, wChain, wNotT, wAndT, wOrT, wAndV, wOrV, wNotV, wIf, wNil, wCons, wTup, wLst, wLstM, wCall, wCall0, wVar, wC, wLc, wLcM, wYes, wiL, wiT, wiS, wiR, wiEnT, wiEnL, wiZip, wSl, woNone, woSome, wMt, wJoin, wGet, wUn, wTru, wDNew, fin, List.getElem?_cons_zero, List.getElem?_cons_succ, List.set_cons_zero, List.set_cons_succ]
  exact ⟨ts, d, c, rfl, c1, hp, hd, hf, hcnt, hk⟩
def F_is_question (n : Nat) : FD := fun ds M k => ∃ (ts : List (Str × Cols)) (d : D) (c : Nat), ds = [.tup (ts.map tabD), d] ∧ 1 ≤ c ∧ PlB c ts ∧ okR M d ∧ far d ≤ n ∧ c * cnt d ≤ 2000 ∧ ∀ M', Grow M M' → k (.bl (qCols wAll (leafAll ts) n d).isSome) M'
theorem ok_is_question (T : Txt K mg) (B : DD K mg) (TW : TxtW K w mg B) (n : Nat) : DFn P w K mg base (9 + n) B.f_is_question B.fd_is_question p_is_question (F_is_question n) := by
  have G_columns_of : DFn P w K mg base (8 + n) B.f_columns_of B.fd_columns_of p_columns_of (F_columns_of n) := ok_columns_of T B TW n
  refine DFn.mono (j := 8 + n + 1) ?_ (by omega)
  refine Fun.okD (k := 8 + n) B.d_is_question.F sc_is_question (fun cdv A outer s H E hr => (dss_one (ds_ret (de_cmpA c_isn (de_own B.d_columns_of G_columns_of hr (by first | decide | omega) (da_cons (dv 0) (da_cons (dv 1) da_nil))) de_non)))) (fun ds M k h => ?_)
  obtain ⟨ts, d, c, rfl, c1, hp, hd, hf, hcnt, hk⟩ := h
  (refine ⟨rfl, ?_⟩; rw [show startD N_is_question [.tup (ts.map tabD), d] = [some (.tup (ts.map tabD)), some (d)] from rfl])
  simp only [wNext, wSeq, wBreak, wContinue, wExpr, wRet, wRetN, wIfS, wSet, wAsg, wPar, wPar3, wFor, wSub, wTst, wOp, wChain, wNotT, wAndT, wOrT, wAndV, wOrV, wNotV, wIf, wNil, wCons, wTup, wLst, wLstM, wCall, wCall0, wVar, wC, wLc, wLcM, wYes, wiL, wiT, wiS, wiR, wiEnT, wiEnL, wiZip, wSl, woNone, woSome, wMt, wJoin, wGet, wUn, wTru, wDNew, fin, List.getElem?_cons_zero, List.getElem?_cons_succ, List.set_cons_zero, List.set_cons_succ]
  refine ⟨ts, d, c, rfl, c1, hp, hd, hf, hcnt, fun M' g => ?_⟩
  have hk := hk M' g
  cases q : qCols wAll (leafAll ts) n d with
  | none => rw [q] at hk; exact r_isN hk
  | some cs => rw [q] at hk; exact (show rdIs not (colsD cs) .non M' k from r_isT hk)
end
end K04

set_option autoImplicit false
set_option maxRecDepth 100000
set_option maxHeartbeats 4000000
namespace K04
open PySem L2 DL
/-! lists that stand, or have a cell that nobody changes -/
def Lat (h l : Addr) (M : Mem) (x : D) (ds : List D) : Prop := x = .lst ds ∨ ∃ a, x = .cel a ∧ a ≠ h ∧ a ≠ l ∧ M a = some (.lst ds)
theorem Lat.ext {h l : Addr} {M M' : Mem} {x : D} {ds : List D} (e : Ext h l M M') (q : Lat h l M x ds) : Lat h l M' x ds := by
  rcases q with q | ⟨a, q, n1, n2, q4⟩
  · exact .inl q
  · exact .inr ⟨a, q, n1, n2, e a _ n1 n2 q4⟩
theorem Lat.asR {h l : Addr} {M : Mem} {x : D} {ds : List D} (q : Lat h l M x ds) : asR M x = some ds := by
  rcases q with q | ⟨a, q, n1, n2, q4⟩ <;> subst q
  · rfl
  · unfold DL.asR; simp only [q4]
theorem Lat.asL {h l : Addr} {M : Mem} {x : D} {ds : List D} (q : Lat h l M x ds) : asL M x = some ds := by
  rcases q with q | ⟨a, q, n1, n2, q4⟩ <;> subst q
  · rfl
  · unfold DL.asL; simp only [q4]
theorem Lat.seq {h l : Addr} {M : Mem} {x : D} {ds : List D} (q : Lat h l M x ds) : seqD M x = some ds := by
  rcases q with q | ⟨a, q, n1, n2, q4⟩ <;> subst q
  · rfl
  · show DL.asR M (.cel a) = _; unfold DL.asR; simp only [q4]
theorem Lat.len {h l : Addr} {M : Mem} {x : D} {ds : List D} (q : Lat h l M x ds) {k : KD} (hk : k (.int ds.length) M) : rdLen [x] M k := by
  have e := q.seq
  rcases q with q | ⟨a, q, n1, n2, q4⟩ <;> subst q
  · exact hk
  · unfold rdLen; simp only [e]; exact hk
theorem Lat.ix {h l : Addr} {M : Mem} {x : D} {ds : List D} (q : Lat h l M x ds) {i : Int} {d : D} (hi : atI ds i = some d) {k : KD} (hk : k d M) : rdIx x (.int i) M k := by
  have e := q.seq
  rcases q with q | ⟨a, q, n1, n2, q4⟩ <;> subst q
  · exact ix_lst hi hk
  · exact ix_cel q4 hi hk
theorem Lat.add {h l : Addr} {M : Mem} {x y : D} {ds es : List D} (q : Lat h l M x ds) (r : Lat h l M y es) (hz : ds.length + es.length ≤ sizeLine) {k : KD} (hk : k (.lst (ds ++ es)) M) : rdAdd x y M k := by
  have e1 := q.asL
  have e2 := r.asL
  rcases q with q | ⟨a, q, n1, n2, q4⟩ <;> subst q <;> rcases r with r | ⟨b, r, m1, m2, r4⟩ <;> subst r <;> unfold rdAdd <;> simp only [e1, e2] <;> exact ⟨hz, hk⟩
theorem Lat.tuple {h l : Addr} {M : Mem} {x : D} {ds : List D} (q : Lat h l M x ds) {k : KD} (hk : k (.tup ds) M) : rdTuple [x] M k := by
  unfold rdTuple; simp only [q.seq]; exact hk
theorem Lat.list {h l : Addr} {M : Mem} {x : D} {ds : List D} (q : Lat h l M x ds) {k : KD} (hk : k (.lst ds) M) : rdList [x] M k := by
  unfold rdList; simp only [q.seq]; exact hk
theorem Lat.cut {h l : Addr} {M : Mem} {x : D} {ds : List D} (q : Lat h l M x ds) {lo hi : Option Int} {k : KD} (hk : k (.lst (cutD ds lo hi)) M) : rdSl x lo hi M k := by
  have e := q.asR
  rcases q with q | ⟨a, q, n1, n2, q4⟩ <;> subst q <;> unfold rdSl <;> simp only [e] <;> exact hk
theorem Lat.inS {h l : Addr} {M : Mem} {x : D} {f : Bool → Bool} {s : Str} {ss : List Str} (q : Lat h l M x (ss.map D.str)) {k : KD} (hk : k (.bl (f (decide (s ∈ ss)))) M) : rdIn f (.str s) x M k := by
  have g := r_inS (M := M) (k := k) (f := f) (s := s) (l := ss) hk
  unfold rdIn at g ⊢
  rw [q.seq]
  exact g
theorem fresh_ne {h l p : Addr} {M : Mem} (hh : Hnd M h l) (hp : M p = none) : p ≠ h ∧ p ≠ l := by
  obtain ⟨_, _, a, b, _⟩ := hh
  exact ⟨Ne.symm (neM a hp), Ne.symm (neM b hp)⟩
theorem Ext.new {h l p : Addr} {M M' : Mem} {c : Cell} (e : Ext h l M M') (hp : M p = none) : Ext h l M (setM M' p c) := fun a x na nb q => by
  rw [setM_ne (neM q hp)]; exact e a x na nb q
theorem Ext.none {h l p : Addr} {M M' : Mem} (e : Ext h l M M') (n1 : p ≠ h) (n2 : p ≠ l) (hp : M' p = none) : M p = none := by
  cases q : M p with
  | none => rfl
  | some c => rw [e p c n1 n2 q] at hp; cases hp
/-! a name that isn't taken -/
def frS (at_ k : Nat) : Str := (⟨#[97 + (at_ + k) % 26]⟩ : Str) ++ ⟨#[118 + k / 26 + k / 26 / 2]⟩
def frL (at_ : Nat) : List Str := (List.range 78).map (frS at_)
theorem frL_ok : ∀ a : Nat, a < 26 → ∀ s ∈ frL a, isNm s = true := by
  intro a ha s hs
  unfold frL at hs
  obtain ⟨k, hk, rfl⟩ := List.mem_map.mp hs
  have hk := List.mem_range.mp hk
  unfold frS isNm
  have e : ((⟨#[97 + (a + k) % 26]⟩ : Str) ++ ⟨#[118 + k / 26 + k / 26 / 2]⟩) = ⟨#[97 + (a + k) % 26, 118 + k / 26 + k / 26 / 2]⟩ := rfl
  rw [e]
  have len : (⟨#[97 + (a + k) % 26, 118 + k / 26 + k / 26 / 2]⟩ : Str).length = 2 := rfl
  rw [len]
  have : ((#[97 + (a + k) % 26, 118 + k / 26 + k / 26 / 2] : Array Nat).toList).all letter = true := by
    simp only [List.all_cons, List.all_nil, letter, Bool.and_true, Bool.and_eq_true, decide_eq_true_eq]
    omega
  simp only [this]; rfl
theorem frS_inj {a j k : Nat} (hj : j < 78) (hk : k < 78) (e : frS a j = frS a k) : j = k := by
  have e1 : (#[97 + (a + j) % 26, 118 + j / 26 + j / 26 / 2] : Array Nat) = #[97 + (a + k) % 26, 118 + k / 26 + k / 26 / 2] := congrArg Str.cps e
  have e2 := congrArg Array.toList e1
  simp only [List.cons.injEq, and_true] at e2
  omega
theorem frL_nd (a : Nat) : (frL a).Nodup := by
  unfold frL
  refine List.nodup_iff_pairwise_ne.mpr ?_
  rw [List.pairwise_map]
  refine List.Pairwise.imp_of_mem ?_ (List.nodup_iff_pairwise_ne.mp List.nodup_range)
  intro x y hx hy hxy e
  exact hxy (frS_inj (List.mem_range.mp hx) (List.mem_range.mp hy) e)
theorem fr_left (a : Nat) (ss : List Str) (h : ss.length < 78) : ∃ s r, (frL a).filter (fun s => !decide (s ∈ ss)) = s :: r := by
  cases q : (frL a).filter (fun s => !decide (s ∈ ss)) with
  | cons s r => exact ⟨s, r, rfl⟩
  | nil =>
    exfalso
    have sub : ∀ s ∈ frL a, s ∈ ss := fun s hs => by
      have := List.filter_eq_nil_iff.mp q s hs
      simpa using this
    have l78 : (frL a).length = 78 := by simp [frL]
    have := (TS.perm_of_sub (frL_nd a) sub (by omega)).length_eq
    omega
section
variable {P : Program} {w : World} {K : PySem.W.Frag} {mg : Str → Option Value} {base : Heap}
def F_fresh : FD := fun ds M k => ∃ (h l : Addr) (y : D) (ss : List Str), ds = [.cel h, y] ∧ Hnd M h l ∧ Lat h l M y (ss.map D.str) ∧ ss.length ≤ 60 ∧ ∀ s M', isNm s = true → s ∉ ss → Hnd M' h l → Ext h l M M' → k (.str s) M'
theorem vwy_at : ∀ n < 3, atI (Str.ofString "vwy").cps.toList ((n : Nat) : Int) = some (118 + n + n / 2) := by decide
theorem ok_fresh (T : Txt K mg) (B : DD K mg) : DFn P w K mg base 2 B.f_law_fresh B.fd_law_fresh p_law_fresh F_fresh := by
  have G_law_pick : DFn P w K mg base 1 B.f_law_pick B.fd_law_pick p_law_pick F_pick := ok_pick T B.d_law_pick
  refine Fun.okD B.d_law_fresh.F sc_law_fresh (fun cdv A outer s H E hr => (dss_cons (ds_set (i := 2) sc_law_fresh.nd (de_own B.d_law_pick G_law_pick hr (by first | decide | omega) (da_cons (dv 0) (da_cons de_int da_nil)))) (dss_cons (ds_setLc (i := 3) rfl sc_law_fresh.nd (di_range T.b_range (da_cons de_int da_nil)) (blkOk_by (own := [("k", 4)]) (N := N_law_fresh) (sc := defScope s_law_fresh) (by decide +kernel)) (fun _ _ _ _ _ => (dg_name (i := 4) sc_law_fresh.nd)) gd_name (fun _ _ _ _ _ => dts_nil) (fun _ _ _ _ _ => (de_add (de_ix de_str (de_mod (de_add (dv 2) (dv 4)) de_int)) (de_ix de_str (de_div (dv 4) de_int)))) (sw_true rfl rfl rfl (by decide +kernel))) (dss_one (ds_ret (de_ix (de_lc rfl sc_law_fresh.nd (di_list (dv 3)) (blkOk_by (own := [("name", 5)]) (N := N_law_fresh) (sc := defScope s_law_fresh) (by decide +kernel)) (fun _ _ _ _ _ => (dg_name (i := 5) sc_law_fresh.nd)) gd_name (fun _ _ _ _ _ => (dts_one (dt_cmpA c_nin (dv 5) (dv 1)))) (fun _ _ _ _ _ => (dv 5))) de_int)))))) (fun ds M k h => ?_)
  obtain ⟨h, l, y, ss, rfl, hh, hy, hl, hk⟩ := h
  (refine ⟨rfl, ?_⟩; rw [show startD N_law_fresh [.cel h, y] = [some (.cel h), some (y), none, none, none, none] from rfl])
  simp only [wNext, wSeq, wBreak, wContinue, wExpr, wRet, wRetN, wIfS, wSet, wAsg, wPar, wPar3, wFor, wSub, wTst, wOp, wChain, wNotT, wAndT, wOrT, wAndV, wOrV, wNotV, wIf, wNil, wCons, wTup, wLst, wLstM, wCall, wCall0, wVar, wC, wLc, wLcM, wYes, wiL, wiT, wiS, wiR, wiEnT, wiEnL, wiZip, wSl, woNone, woSome, wMt, wJoin, wGet, wUn, wTru, wDNew, fin, List.getElem?_cons_zero, List.getElem?_cons_succ, List.set_cons_zero, List.set_cons_succ]
  refine ⟨h, l, 26, rfl, hh, by decide, by decide, fun r M1 r0 r1 hh1 e1 => ?_⟩
  obtain ⟨a, rfl⟩ : ∃ a : Nat, r = (a : Int) := ⟨r.toNat, by omega⟩
  refine ⟨by decide, ?_⟩
  refine lc_map (fun d => match d with | .int i => .str (frS a i.toNat) | d => d) (G := gAny) (M := M1) trivial _ _ _ (fun d hd => ?_) (z1 (by simp [rng])) ?_
  · obtain ⟨k, hk', rfl⟩ : ∃ k : Nat, k < 78 ∧ d = .int (k : Int) := by
      simp only [rng, List.mem_map, List.mem_range] at hd
      obtain ⟨k, hk', rfl⟩ := hd
      exact ⟨k, by omega, by simp⟩
    refine ⟨_, rfl, fun k' hk2 => ?_⟩
    simp only [wNext, wSeq, wBreak, wContinue, wExpr, wRet, wRetN, wIfS, wSet, wAsg, wPar, wPar3, wFor, wSub, wTst, wOp, wChain, wNotT, wAndT, wOrT, wAndV, wOrV, wNotV, wIf, wNil, wCons, wTup, wLst, wLstM, wCall, wCall0, wVar, wC, wLc, wLcM, wYes, wiL, wiT, wiS, wiR, wiEnT, wiEnL, wiZip, wSl, woNone, woSome, wMt, wJoin, wGet, wUn, wTru, wDNew, fin, List.getElem?_cons_zero, List.getElem?_cons_succ, List.set_cons_zero, List.set_cons_succ, wipeD, List.map]
    have m1 : (((a + k) % 26 : Nat) : Int) = ((a : Int) + (k : Int)) % 26 := by omega
    have d1 : ((k / 26 : Nat) : Int) = (k : Int) / 26 := by omega
    refine r_add (r_mod (by decide) ?_)
    rw [← m1]
    refine ix_str (by decide) (alph_at _ (by omega)) (r_div (by decide) (by decide) ?_)
    rw [← d1]
    refine ix_str (by decide) (vwy_at _ (by omega)) ⟨(show 1 + 1 ≤ sizeLine by decide), ?_⟩
    simpa [frS] using hk2
  · have e78 : Int.toNat 78 = 78 := rfl
    rw [e78]
    have e : ([] ++ (rng 0 78).map (fun d => match d with | .int i => D.str (frS a i.toNat) | d => d)) = (frL a).map D.str := by
      rw [List.nil_append]
      simp only [rng, frL, List.map_map]
      refine List.map_congr_left fun k hk => ?_
      simp
    rw [e]
    have hy1 := hy.ext e1
    simp only [asR]
    obtain ⟨s, rest, es⟩ := fr_left a ss (by omega)
    refine lc_filter (fun d => match d with | .str s => !decide (s ∈ ss) | _ => false) id (G := gAt (.lst ((frL a).map D.str)) ((frL a).map D.str)) (M := M1) rfl _ _ _ (fun d hd => ?_) (z1 (by simp [frL])) ?_
    · obtain ⟨s, hs, rfl⟩ := List.mem_map.mp hd
      refine ⟨_, rfl, fun k' hk' => ?_, fun _ k' hk' => hk'⟩
      simp only [wNext, wSeq, wBreak, wContinue, wExpr, wRet, wRetN, wIfS, wSet, wAsg, wPar, wPar3, wFor, wSub, wTst, wOp, wChain, wNotT, wAndT, wOrT, wAndV, wOrV, wNotV, wIf, wNil, wCons, wTup, wLst, wLstM, wCall, wCall0, wVar, wC, wLc, wLcM, wYes, wiL, wiT, wiS, wiR, wiEnT, wiEnL, wiZip, wSl, woNone, woSome, wMt, wJoin, wGet, wUn, wTru, wDNew, fin, List.getElem?_cons_zero, List.getElem?_cons_succ, List.set_cons_zero, List.set_cons_succ, wipeD, List.map]
      exact hy1.inS hk'
    · have e2 : [] ++ (((frL a).map D.str).filter (fun d => match d with | .str s => !decide (s ∈ ss) | _ => false)).map id = (s :: rest).map D.str := by
        rw [List.nil_append, List.map_id, List.filter_map, ← es]; rfl
      rw [e2]
      have hm : s ∈ (frL a).filter (fun s => !decide (s ∈ ss)) := by rw [es]; exact List.mem_cons_self
      obtain ⟨m1, m2⟩ := List.mem_filter.mp hm
      exact ix_lst (at0 _ _) (hk s M1 (frL_ok a (by omega) s m1) (by simpa using m2) hh1 e1)
end
end K04

set_option autoImplicit false
set_option maxRecDepth 100000
set_option maxHeartbeats 4000000
namespace K04
open PySem L2 DL
section
variable {P : Program} {w : World} {K : PySem.W.Frag} {mg : Str → Option Value} {base : Heap}
/-- a part of the columns, unlike, one at least -/
structure Part (cs es : Cols) : Prop where
  ne : es ≠ []
  nd : (es.map (·.1)).Nodup
  sub : ∀ c ∈ es, c ∈ cs
theorem pop_part {lf fo : Cols} {j : Nat} {c : Str × Str} (hj : lf[j]? = some c) : (lf.eraseIdx j ++ (fo ++ [c])).Perm (lf ++ fo) := by
  obtain ⟨hl, e⟩ := List.getElem?_eq_some_iff.mp hj
  have e1 : lf = lf.take j ++ c :: lf.drop (j + 1) := by
    rw [← e, List.getElem_cons_drop, List.take_append_drop]
  rw [List.eraseIdx_eq_take_drop_succ]
  refine List.perm_iff_count.mpr fun a => ?_
  have e2 := congrArg (List.count a) e1
  simp only [List.count_append, List.count_cons, List.count_nil] at e2 ⊢
  omega
theorem Part.le {cs es : Cols} (h : Part cs es) : es.length ≤ cs.length := nodup_sub_len h.sub h.nd
def F_some : FD := fun ds M k => ∃ (h l : Addr) (x : D) (cs : Cols), ds = [.cel h, x] ∧ Hnd M h l ∧ Lat h l M x (cs.map colD) ∧ cs ≠ [] ∧ (cs.map (·.1)).Nodup ∧ cs.length ≤ 1000 ∧
  ∀ y es M', Part cs es → Lat h l M' y (es.map colD) → Hnd M' h l → Ext h l M M' → k y M'
theorem ok_some (T : Txt K mg) (B : DD K mg) : DFn P w K mg base 2 B.f_law_some B.fd_law_some p_law_some F_some := by
  have G_law_pick : DFn P w K mg base 1 B.f_law_pick B.fd_law_pick p_law_pick F_pick := ok_pick T B.d_law_pick
  refine Fun.okD B.d_law_some.F sc_law_some (fun cdv A outer s H E hr => (dss_cons (ds_par (i := 2) (j := 3) rfl sc_law_some.nd (da_cons (de_listM T.b_list (dv 1)) (da_cons (de_lstM da_nil) da_nil)) rfl rfl (by decide) rfl rfl (by rfl)) (dss_cons (ds_for rfl (di_range T.b_range (da_cons (de_add de_int (de_own B.d_law_pick G_law_pick hr (by first | decide | omega) (da_cons (dv 0) (da_cons (de_len T.b_len (dv 2)) da_nil)))) da_nil)) (dg_name (i := 4) sc_law_some.nd) (dss_one (ds_expr (de_append (dv 3) (de_popAt (dv 2) (de_own B.d_law_pick G_law_pick hr (by first | decide | omega) (da_cons (dv 0) (da_cons (de_len T.b_len (dv 2)) da_nil)))))))) (dss_one (ds_ret (dv 3)))))) (fun ds M k h => ?_)
  obtain ⟨h, l, x, cs, rfl, hh, hx, hne, hnd, hl, hk⟩ := h
  (refine ⟨rfl, ?_⟩; rw [show startD N_law_some [.cel h, x] = [some (.cel h), some (x), none, none, none] from rfl])
  simp only [wNext, wSeq, wBreak, wContinue, wExpr, wRet, wRetN, wIfS, wSet, wAsg, wPar, wPar3, wFor, wSub, wTst, wOp, wChain, wNotT, wAndT, wOrT, wAndV, wOrV, wNotV, wIf, wNil, wCons, wTup, wLst, wLstM, wCall, wCall0, wVar, wC, wLc, wLcM, wYes, wiL, wiT, wiS, wiR, wiEnT, wiEnL, wiZip, wSl, woNone, woSome, wMt, wJoin, wGet, wUn, wTru, wDNew, fin, List.getElem?_cons_zero, List.getElem?_cons_succ, List.set_cons_zero, List.set_cons_succ]
  have lpos : 0 < cs.length := List.length_pos_iff.mpr hne
  unfold rdListM
  simp only [hx.seq]
  intro p hp
  refine ⟨Nat.zero_le _, fun q hq => ?_⟩
  obtain ⟨nph, npl⟩ := fresh_ne hh hp
  have nqp : q ≠ p := fun z => by rw [z, setM_same] at hq; cases hq
  have hqM : M q = none := by rw [setM_ne nqp] at hq; exact hq
  obtain ⟨nqh, nql⟩ := fresh_ne hh hqM
  have p2 : setM (setM M p (.lst (cs.map colD))) q (.lst []) p = some (.lst (cs.map colD)) := by rw [setM_ne (Ne.symm nqp), setM_same]
  have q2 : setM (setM M p (.lst (cs.map colD))) q (.lst []) q = some (.lst []) := setM_same
  have h2 : Hnd (setM (setM M p (.lst (cs.map colD))) q (.lst [])) h l := (hh.set nph npl).set nqh nql
  have e2 : Ext h l M (setM (setM M p (.lst (cs.map colD))) q (.lst [])) := ((Ext.refl h l M).new hp).new hqM
  generalize setM (setM M p (.lst (cs.map colD))) q (.lst []) = M2 at p2 q2 h2 e2
  refine r_lenC p2 ⟨h, l, _, rfl, h2, by rw [List.length_map]; omega, by rw [List.length_map]; omega, fun r M3 r0 r1 h3 e3 => r_add ⟨⟨by omega, by rw [List.length_map] at r1; omega⟩, ?_⟩⟩
  have p3 := e3 p _ nph npl p2
  have q3 := e3 q _ nqh nql q2
  have e23 := e2.trans e3
  rw [List.length_map] at r1
  refine loop_inv (fun its Γ M' => ∃ lf fo : Cols, Hnd M' h l ∧ Ext h l M M' ∧ M' p = some (.lst (lf.map colD)) ∧ M' q = some (.lst (fo.map colD)) ∧ ((lf ++ fo).map (·.1)).Nodup ∧ (∀ c ∈ lf ++ fo, c ∈ cs) ∧ its.length ≤ lf.length ∧ 1 ≤ fo.length + its.length ∧ (lf ++ fo).length ≤ cs.length ∧ ∃ x4, Γ = [some (.cel h), some x, some (.cel p), some (.cel q), x4]) (fun _ _ _ _ => trivial) ?_ ?_ _ _ _
    ⟨cs, [], h3, e23, p3, q3, by simpa using hnd, fun c hc => by simpa using hc, by simp [rng]; omega, by simp [rng]; omega, by simp, _, rfl⟩
  · rintro Γ M4 ⟨lf, fo, h4, e4, p4, q4, n4, s4, l4, o4, z4, x4, rfl⟩
    simp only [wNext, wSeq, wBreak, wContinue, wExpr, wRet, wRetN, wIfS, wSet, wAsg, wPar, wPar3, wFor, wSub, wTst, wOp, wChain, wNotT, wAndT, wOrT, wAndV, wOrV, wNotV, wIf, wNil, wCons, wTup, wLst, wLstM, wCall, wCall0, wVar, wC, wLc, wLcM, wYes, wiL, wiT, wiS, wiR, wiEnT, wiEnL, wiZip, wSl, woNone, woSome, wMt, wJoin, wGet, wUn, wTru, wDNew, fin, List.getElem?_cons_zero, List.getElem?_cons_succ, List.set_cons_zero, List.set_cons_succ]
    refine hk _ fo M4 ⟨fun z => by rw [z] at o4; simp at o4, ?_, fun c hc => s4 c (List.mem_append_right _ hc)⟩ (.inr ⟨q, rfl, nqh, nql, q4⟩) h4 e4
    rw [List.map_append] at n4
    exact (List.nodup_append.mp n4).2.1
  · rintro d its Γ M4 ⟨lf, fo, h4, e4, p4, q4, n4, s4, l4, o4, z4, x4, rfl⟩
    refine ⟨_, rfl, fun k' v1 v2 v3 v4 => ?_⟩
    simp only [wNext, wSeq, wBreak, wContinue, wExpr, wRet, wRetN, wIfS, wSet, wAsg, wPar, wPar3, wFor, wSub, wTst, wOp, wChain, wNotT, wAndT, wOrT, wAndV, wOrV, wNotV, wIf, wNil, wCons, wTup, wLst, wLstM, wCall, wCall0, wVar, wC, wLc, wLcM, wYes, wiL, wiT, wiS, wiR, wiEnT, wiEnL, wiZip, wSl, woNone, woSome, wMt, wJoin, wGet, wUn, wTru, wDNew, fin, List.getElem?_cons_zero, List.getElem?_cons_succ, List.set_cons_zero, List.set_cons_succ]
    have lf0 : 0 < lf.length := by simp only [List.length_cons] at l4; omega
    have lfc : lf.length ≤ cs.length := by rw [List.length_append] at z4; omega
    refine ⟨isC q4, isC p4, r_lenC p4 ⟨h, l, _, rfl, h4, by rw [List.length_map]; omega, by rw [List.length_map]; omega, fun i M5 i0 i1 h5 e5 => ?_⟩⟩
    rw [List.length_map] at i1
    obtain ⟨j, rfl⟩ : ∃ j : Nat, i = (j : Int) := ⟨i.toNat, by omega⟩
    have hj : j < lf.length := by omega
    have ej : lf[j]? = some lf[j] := List.getElem?_eq_getElem hj
    refine r_popAt (e5 p _ nph npl p4) rfl (y := colD lf[j]) (by rw [List.getElem?_map, ej]; rfl) (by rw [List.length_map]; omega) ?_
    have pm := pop_part (fo := fo) ej
    have q5 : setM M5 p (.lst ((lf.map colD).eraseIdx j)) q = some (.lst (fo.map colD)) := by rw [setM_ne nqp]; exact e5 q _ nqh nql q4
    refine r_app q5 (z2 (by rw [List.length_append] at z4; rw [List.length_map]; omega)) ?_
    have pl := pm.length_eq
    refine v3 _ _ ⟨lf.eraseIdx j, fo ++ [lf[j]], ?_, ?_, ?_, ?_, ?_, ?_, ?_, ?_, ?_, _, rfl⟩
    · exact (h5.set nph npl).set nqh nql
    · exact (((e4.trans e5).new hp)).new hqM
    · rw [setM_ne (Ne.symm nqp), setM_same, List.eraseIdx_eq_take_drop_succ, List.eraseIdx_eq_take_drop_succ, List.map_append, List.map_take, List.map_drop]
    · rw [setM_same, List.map_append]; rfl
    · exact (pm.map (·.1)).nodup_iff.mpr n4
    · exact fun c hc => s4 c (pm.mem_iff.mp hc)
    · rw [List.length_eraseIdx, if_pos hj]; simp only [List.length_cons] at l4; omega
    · simp; omega
    · omega
end
end K04

set_option autoImplicit false
set_option maxRecDepth 100000
set_option maxHeartbeats 4000000
namespace K04
open PySem L2 DL
section
variable {P : Program} {w : World} {K : PySem.W.Frag} {mg : Str → Option Value} {base : Heap}
def reN (ns : List Str) (cs : Cols) : Cols := List.zipWith (fun n c => (n, c.2)) ns cs
theorem zip_reN (ns : List Str) (cs : Cols) : (zipD (ns.map D.str) (cs.map colD)).map (fun d => match d with | .tup [n, .tup [_, k]] => .tup [n, k] | d => d) = (reN ns cs).map colD := by
  induction ns generalizing cs with
  | nil => simp [zipD, reN]
  | cons n ns ih =>
    cases cs with
    | nil => simp [zipD, reN]
    | cons c cs =>
      have := ih cs
      simp only [zipD, reN, List.map_cons, List.zipWith_cons_cons] at this ⊢
      rw [this]; rfl
def F_called : FD := fun ds M k => ∃ (h l : Addr) (q x y : D) (cs : Cols) (ss : List Str), ds = [.cel h, .tup [q, x], y] ∧ Hnd M h l ∧ Lat h l M x (cs.map colD) ∧ Lat h l M y (ss.map D.str) ∧ cs.length + ss.length ≤ 60 ∧
  ∀ ns M', ns.length = cs.length → ns.Nodup → (∀ s ∈ ns, isNm s = true ∧ s ∉ ss) → Hnd M' h l → Ext h l M M' → k (.tup [.tup [.str (Str.ofString "called"), .tup (ns.map D.str), q], .lst ((reN ns cs).map colD)]) M'
theorem ok_called (T : Txt K mg) (B : DD K mg) : DFn P w K mg base 3 B.f_law_called B.fd_law_called p_law_called F_called := by
  have G_law_fresh : DFn P w K mg base 2 B.f_law_fresh B.fd_law_fresh p_law_fresh F_fresh := ok_fresh T B
  refine Fun.okD B.d_law_called.F sc_law_called (fun cdv A outer s H E hr => (dss_cons (ds_set (i := 3) sc_law_called.nd (de_lstM da_nil)) (dss_cons (ds_for rfl (di_list (de_ix (dv 1) de_int)) (dg_name (i := 4) sc_law_called.nd) (dss_one (ds_expr (de_append (dv 3) (de_own B.d_law_fresh G_law_fresh hr (by first | decide | omega) (da_cons (dv 0) (da_cons (de_add (dv 2) (dv 3)) da_nil))))))) (dss_one (ds_ret (de_tup (da_cons (de_tup (da_cons de_str (da_cons (de_tuple T.b_tuple (dv 3)) (da_cons (de_ix (dv 1) de_int) da_nil)))) (da_cons (de_lc rfl sc_law_called.nd (di_zip T.b_zip (da_cons (dv 3) (da_cons (de_ix (dv 1) de_int) da_nil))) (blkOk_by (own := [("name", 5), ("old", 6), ("kind", 7)]) (N := N_law_called) (sc := defScope s_law_called) (by decide +kernel)) (fun _ _ _ _ _ => (dg_tup rfl (dgs_cons (dg_name (i := 5) sc_law_called.nd) (dgs_cons (dg_tup rfl (dgs_cons (dg_name (i := 6) sc_law_called.nd) (dgs_cons (dg_name (i := 7) sc_law_called.nd) dgs_nil)) (gsCons_len (gsCons_len gsNil_len))) dgs_nil)) (gsCons_len (gsCons_len gsNil_len)))) (gd_tup (gds_cons gd_name (gds_cons (gd_tup (gds_cons gd_name (gds_cons gd_name gds_nil)) (gsCons_len (gsCons_len gsNil_len))) gds_nil)) (gsCons_len (gsCons_len gsNil_len))) (fun _ _ _ _ _ => dts_nil) (fun _ _ _ _ _ => (de_tup (da_cons (dv 5) (da_cons (dv 7) da_nil))))) da_nil)))))))) (fun ds M k h => ?_)
  obtain ⟨h, l, q, x, y, cs, ss, rfl, hh, hx, hy, hl, hk⟩ := h
  (refine ⟨rfl, ?_⟩; rw [show startD N_law_called [.cel h, .tup [q, x], y] = [some (.cel h), some (.tup [q, x]), some (y), none, none, none, none, none] from rfl])
  simp only [wNext, wSeq, wBreak, wContinue, wExpr, wRet, wRetN, wIfS, wSet, wAsg, wPar, wPar3, wFor, wSub, wTst, wOp, wChain, wNotT, wAndT, wOrT, wAndV, wOrV, wNotV, wIf, wNil, wCons, wTup, wLst, wLstM, wCall, wCall0, wVar, wC, wLc, wLcM, wYes, wiL, wiT, wiS, wiR, wiEnT, wiEnL, wiZip, wSl, woNone, woSome, wMt, wJoin, wGet, wUn, wTru, wDNew, fin, List.getElem?_cons_zero, List.getElem?_cons_succ, List.set_cons_zero, List.set_cons_succ]
  refine ⟨Nat.zero_le _, fun p hp => ix_tup (at1 _ _ _) ?_⟩
  obtain ⟨nph, npl⟩ := fresh_ne hh hp
  have h1 : Hnd (setM M p (.lst [])) h l := hh.set nph npl
  have e1 : Ext h l M (setM M p (.lst [])) := (Ext.refl h l M).new hp
  have p1 : setM M p (.lst []) p = some (.lst []) := setM_same
  generalize setM M p (.lst []) = M1 at h1 e1 p1
  rw [(hx.ext e1).asR]
  refine loop_inv (fun its Γ M' => ∃ ns : List Str, Hnd M' h l ∧ Ext h l M M' ∧ M' p = some (.lst (ns.map D.str)) ∧ ns.length + its.length = cs.length ∧ ns.Nodup ∧ (∀ s ∈ ns, isNm s = true ∧ s ∉ ss) ∧ ∃ x4 x5 x6 x7, Γ = [some (.cel h), some (.tup [q, x]), some y, some (.cel p), x4, x5, x6, x7]) (fun its Γ M' z => by obtain ⟨ns, _, e, _⟩ := z; exact (hx.ext e).asR) ?_ ?_ _ _ _
    ⟨[], h1, e1, p1, by simp, by simp, (fun s hs => by cases hs), _, _, _, _, rfl⟩
  · rintro Γ M4 ⟨ns, h4, e4, p4, l4, n4, s4, x4, x5, x6, x7, rfl⟩
    simp only [List.length_nil, Nat.add_zero] at l4
    simp only [wNext, wSeq, wBreak, wContinue, wExpr, wRet, wRetN, wIfS, wSet, wAsg, wPar, wPar3, wFor, wSub, wTst, wOp, wChain, wNotT, wAndT, wOrT, wAndV, wOrV, wNotV, wIf, wNil, wCons, wTup, wLst, wLstM, wCall, wCall0, wVar, wC, wLc, wLcM, wYes, wiL, wiT, wiS, wiR, wiEnT, wiEnL, wiZip, wSl, woNone, woSome, wMt, wJoin, wGet, wUn, wTru, wDNew, fin, List.getElem?_cons_zero, List.getElem?_cons_succ, List.set_cons_zero, List.set_cons_succ]
    refine r_tupC p4 (ix_tup (at0 _ _) ⟨(show 3 ≤ sizeLine by decide), ix_tup (at1 _ _ _) ?_⟩)
    have ap : asR M4 (.cel p) = some (ns.map D.str) := by simp only [asR, p4]
    have fin := hk ns M4 l4 n4 s4 h4 e4
    have ax := (hx.ext e4).asR
    have nx : ∀ z, x ≠ .tup z := by rcases hx with z | ⟨a, z, _⟩ <;> (subst z; intro z e; cases e)
    simp only [ap, ax]
    refine lc_map (fun d => match d with | .tup [n, .tup [_, k]] => .tup [n, k] | d => d) (G := fun M => gAt (.cel p) (ns.map D.str) M ∧ gAt x (cs.map colD) M) (M := M4) ⟨ap, ax⟩ _ _ _ ?_ ?_ ?_
    · intro d hd
      obtain ⟨n, c, rfl⟩ : ∃ n c, d = .tup [.str n, colD c] := by
        obtain ⟨i, hi⟩ := List.mem_iff_getElem?.mp hd
        obtain ⟨d1, d2, e1', e2', rfl⟩ := zipD_get hi
        rw [List.getElem?_map] at e1' e2'
        cases q1 : ns[i]? with
        | none => rw [q1] at e1'; cases e1'
        | some n =>
          cases q2 : cs[i]? with
          | none => rw [q2] at e2'; cases e2'
          | some c =>
            rw [q1] at e1'; rw [q2] at e2'
            cases e1'; cases e2'
            exact ⟨n, c, rfl⟩
      refine ⟨_, rfl, fun k' hk' => ⟨(show 2 ≤ sizeLine by decide), hk'⟩⟩
    · rw [zipD_len]; exact z1 (by simp; omega)
    · rw [List.nil_append, zip_reN]
      exact ⟨(show 2 ≤ sizeLine by decide), fin⟩
  · rintro d its Γ M4 ⟨ns, h4, e4, p4, l4, n4, s4, x4, x5, x6, x7, rfl⟩
    refine ⟨_, rfl, fun k' v1 v2 v3 v4 => ?_⟩
    simp only [wNext, wSeq, wBreak, wContinue, wExpr, wRet, wRetN, wIfS, wSet, wAsg, wPar, wPar3, wFor, wSub, wTst, wOp, wChain, wNotT, wAndT, wOrT, wAndV, wOrV, wNotV, wIf, wNil, wCons, wTup, wLst, wLstM, wCall, wCall0, wVar, wC, wLc, wLcM, wYes, wiL, wiT, wiS, wiR, wiEnT, wiEnL, wiZip, wSl, woNone, woSome, wMt, wJoin, wGet, wUn, wTru, wDNew, fin, List.getElem?_cons_zero, List.getElem?_cons_succ, List.set_cons_zero, List.set_cons_succ]
    simp only [List.length_cons] at l4
    refine ⟨isC p4, ?_⟩
    refine (hy.ext e4).add (.inr ⟨p, rfl, nph, npl, p4⟩) (z1 (by simp; omega)) ?_
    refine ⟨h, l, _, ss ++ ns, rfl, h4, .inl (by rw [List.map_append]), by rw [List.length_append]; omega, fun s M5 hs hn h5 e5 => ?_⟩
    have p5 := e5 p _ nph npl p4
    refine r_app p5 (z2 (by simp; omega)) ?_
    refine v3 _ _ ⟨ns ++ [s], h5.set nph npl, (e4.trans e5).new hp, by rw [setM_same, List.map_append]; rfl, by simp; omega, ?_, ?_, _, _, _, _, rfl⟩
    · rw [List.nodup_append]
      exact ⟨n4, by simp, fun a ha b hb e => by rw [List.mem_singleton.mp hb] at e; exact hn (List.mem_append_right _ (e ▸ ha))⟩
    · intro t ht
      rcases List.mem_append.mp ht with z | z
      · exact s4 t z
      · rw [List.mem_singleton.mp z]; exact ⟨hs, fun z => hn (List.mem_append_left _ z)⟩
end
end K04

set_option autoImplicit false
set_option maxRecDepth 100000
set_option maxHeartbeats 4000000
namespace K04
open PySem L2 DL
section
variable {P : Program} {w : World} {K : PySem.W.Frag} {mg : Str → Option Value} {base : Heap}
inductive Wq : Str → D → Prop
  | non (kd : Str) : Wq kd .non
  | str (s : Str) : isNm s = true → Wq (Str.ofString "name") (.str s)
  | int (i : Int) : i.natAbs ≤ 10 ^ 9 → Wq (Str.ofString "number") (.int i)
theorem Wq.fits {kd : Str} {d : D} (h : Wq kd d) : fitsB kd d = true := by
  cases h with
  | non => rfl
  | str s hs => unfold fitsB; rw [if_neg (by decide)]; exact hs
  | int i hi =>
    unfold fitsB isNumB
    rw [if_pos rfl]
    have a : -(1000000000 : Int) ≤ i := by omega
    have b : i ≤ 1000000000 := by omega
    simp [a, b]
theorem good_wq {N : Nat} {M : Mem} {b c : Nat} (hN : 10 ^ 9 < N) {kd : Str} {d : D} (h : Wq kd d) : Good N M 41 b c d := by
  cases h with
  | non => exact good_non
  | str s hs => exact (good_nm hs).up (by decide) (Nat.le_refl _) (Nat.le_refl _)
  | int i hi => exact good_int (by omega)
def F_worth : FD := fun ds M k => ∃ h l kd, ds = [.cel h, .str kd] ∧ Hnd M h l ∧ Kd kd ∧ ∀ d M', Wq kd d → Hnd M' h l → Ext h l M M' → k d M'
theorem ok_worth (T : Txt K mg) (B : DD K mg) : DFn P w K mg base 3 B.f_law_worth B.fd_law_worth p_law_worth F_worth := by
  have G_law_pick : DFn P w K mg base 1 B.f_law_pick B.fd_law_pick p_law_pick F_pick := ok_pick T B.d_law_pick
  have G_law_of : DFn P w K mg base 2 B.f_law_of B.fd_law_of p_law_of F_of := ok_of T B.d_law_pick B.d_law_of
  refine Fun.okD B.d_law_worth.F sc_law_worth (fun cdv A outer s H E hr => (dss_cons (ds_if (dt_cmpA (c_eq hr) (de_own B.d_law_pick G_law_pick hr (by first | decide | omega) (da_cons (dv 0) (da_cons de_int da_nil))) de_int) (dss_one (ds_ret de_non)) dss_nil) (dss_cons (ds_if (dt_cmpA (c_eq hr) (dv 1) de_str) (dss_one (ds_ret (de_own B.d_law_of G_law_of hr (by first | decide | omega) (da_cons (dv 0) (da_cons (de_lst (da_cons de_str (da_cons de_str (da_cons de_str (da_cons de_str (da_cons de_str (da_cons de_str da_nil))))))) da_nil))))) dss_nil) (dss_one (ds_ret (de_own B.d_law_of G_law_of hr (by first | decide | omega) (da_cons (dv 0) (da_cons (de_lst (da_cons de_int (da_cons de_int (da_cons de_int (da_cons de_int (da_cons de_int (da_cons (de_neg de_int) (da_cons (de_sub (de_pow de_int de_int) de_int) (da_cons (de_sub de_int (de_pow de_int de_int)) (da_cons (de_own B.d_law_pick G_law_pick hr (by first | decide | omega) (da_cons (dv 0) (da_cons de_int da_nil))) da_nil)))))))))) da_nil)))))))) (fun ds M k h => ?_)
  obtain ⟨h, l, kd, rfl, hh, hkd, hk⟩ := h
  (refine ⟨rfl, ?_⟩; rw [show startD N_law_worth [.cel h, .str kd] = [some (.cel h), some (.str kd)] from rfl])
  simp only [wNext, wSeq, wBreak, wContinue, wExpr, wRet, wRetN, wIfS, wSet, wAsg, wPar, wPar3, wFor, wSub, wTst, wOp, wChain, wNotT, wAndT, wOrT, wAndV, wOrV, wNotV, wIf, wNil, wCons, wTup, wLst, wLstM, wCall, wCall0, wVar, wC, wLc, wLcM, wYes, wiL, wiT, wiS, wiR, wiEnT, wiEnL, wiZip, wSl, woNone, woSome, wMt, wJoin, wGet, wUn, wTru, wDNew, fin, List.getElem?_cons_zero, List.getElem?_cons_succ, List.set_cons_zero, List.set_cons_succ]
  refine ⟨h, l, 6, rfl, hh, by decide, by decide, fun r M1 r0 r1 hh1 e1 => ?_⟩
  refine eq_int (bb (fun _ => hk _ M1 (.non kd) hh1 e1) (fun _ => eq_strA (bb (fun hb => ?_) (fun hb => ?_))))
  · have ek : kd = Str.ofString "name" := of_decide_eq_true hb
    subst ek
    refine ⟨(show 6 ≤ sizeLine by decide), h, l, _, rfl, hh1, .inr ⟨_, .inr rfl, by decide, by decide, fun d M2 hd hh2 e2 => ?_⟩⟩
    refine hk d M2 ?_ hh2 (e1.trans e2)
    simp only [List.mem_cons, List.not_mem_nil, or_false] at hd
    rcases hd with rfl | rfl | rfl | rfl | rfl | rfl <;> exact .str _ (by decide +kernel)
  · have ek : kd = Str.ofString "number" := by
      rcases hkd with z | z
      · exact z
      · exact absurd z (of_decide_eq_false hb)
    subst ek
    refine r_U (r_pow (by decide) (by decide) (by decide) (r_I0 (r_pow (by decide) (by decide) (by decide) (r_I0 ?_))))
    refine ⟨h, l, 1000, rfl, hh1, by decide, by decide, fun r2 M2 q0 q1 hh2 e2 => ?_⟩
    refine ⟨(show 9 ≤ sizeLine by decide), h, l, _, rfl, hh2, .inr ⟨_, .inr rfl, by simp, by simp, fun d M3 hd hh3 e3 => ?_⟩⟩
    refine hk d M3 ?_ hh3 ((e1.trans e2).trans e3)
    have e9 : (10 : Int) ^ (9 : Int).toNat = 1000000000 := by decide
    simp only [e9, List.mem_cons, List.not_mem_nil, or_false] at hd
    rcases hd with rfl | rfl | rfl | rfl | rfl | rfl | rfl | rfl | rfl <;> exact .int _ (by omega)
def F_ofL : FD := fun ds M k => ∃ (h l : Addr) (x : D) (xs : List D), ds = [.cel h, x] ∧ Hnd M h l ∧ Lat h l M x xs ∧ 0 < xs.length ∧ xs.length < 1000000 ∧ ∀ d M', d ∈ xs → Hnd M' h l → Ext h l M M' → k d M'
theorem ok_ofL (T : Txt K mg) (B : DD K mg) : DFn P w K mg base 2 B.f_law_of B.fd_law_of p_law_of F_ofL := by
  have G_law_pick : DFn P w K mg base 1 B.f_law_pick B.fd_law_pick p_law_pick F_pick := ok_pick T B.d_law_pick
  refine Fun.okD B.d_law_of.F sc_law_of (fun cdv A outer s H E hr => (dss_one (ds_ret (de_ix (dv 1) (de_own B.d_law_pick G_law_pick hr (by first | decide | omega) (da_cons (dv 0) (da_cons (de_len T.b_len (dv 1)) da_nil))))))) (fun ds M k h => ?_)
  obtain ⟨h, l, x, xs, rfl, hh, hx, n0, n1, hk⟩ := h
  (refine ⟨rfl, ?_⟩; rw [show startD N_law_of [.cel h, x] = [some (.cel h), some (x)] from rfl])
  simp only [wNext, wSeq, wBreak, wContinue, wExpr, wRet, wRetN, wIfS, wSet, wAsg, wPar, wPar3, wFor, wSub, wTst, wOp, wChain, wNotT, wAndT, wOrT, wAndV, wOrV, wNotV, wIf, wNil, wCons, wTup, wLst, wLstM, wCall, wCall0, wVar, wC, wLc, wLcM, wYes, wiL, wiT, wiS, wiR, wiEnT, wiEnL, wiZip, wSl, woNone, woSome, wMt, wJoin, wGet, wUn, wTru, wDNew, fin, List.getElem?_cons_zero, List.getElem?_cons_succ, List.set_cons_zero, List.set_cons_succ]
  refine hx.len ⟨h, l, _, rfl, hh, by omega, by omega, fun r M' r0 r1 h' e' => ?_⟩
  obtain ⟨c, a1, a2⟩ := atI_of (xs := xs) r0 r1
  exact (hx.ext e').ix a1 (hk c M' a2 h' e')
def F_of2 : FD := fun ds M k => F_of ds M k ∨ F_ofL ds M k
theorem ok_of2 (T : Txt K mg) (B : DD K mg) : DFn P w K mg base 2 B.f_law_of B.fd_law_of p_law_of F_of2 := DFn.or (ok_of T B.d_law_pick B.d_law_of) (ok_ofL T B)
def F_named : FD := fun ds M k => ∃ (x : D) (cs : Cols) (kd : Str), ds = [x, .str kd] ∧ asR M x = some (cs.map colD) ∧ cs.length ≤ 1000 ∧ k (.lst (((cs.filter fun c => decide (c.2 = kd)).map (·.1)).map D.str)) M
theorem ok_named (T : Txt K mg) (B : DD K mg) : DFn P w K mg base 1 B.f_law_named B.fd_law_named p_law_named F_named := by
  refine Fun.okD B.d_law_named.F sc_law_named (fun cdv A outer s H E hr => (dss_one (ds_ret (de_lc rfl sc_law_named.nd (di_list (dv 0)) (blkOk_by (own := [("name", 2), ("sort", 3)]) (N := N_law_named) (sc := defScope s_law_named) (by decide +kernel)) (fun _ _ _ _ _ => (dg_tup rfl (dgs_cons (dg_name (i := 2) sc_law_named.nd) (dgs_cons (dg_name (i := 3) sc_law_named.nd) dgs_nil)) (gsCons_len (gsCons_len gsNil_len)))) (gd_tup (gds_cons gd_name (gds_cons gd_name gds_nil)) (gsCons_len (gsCons_len gsNil_len))) (fun _ _ _ _ _ => (dts_one (dt_cmpA (c_eq hr) (dv 3) (dv 1)))) (fun _ _ _ _ _ => (dv 2)))))) (fun ds M k h => ?_)
  obtain ⟨x, cs, kd, rfl, ax, hl, hk⟩ := h
  (refine ⟨rfl, ?_⟩; rw [show startD N_law_named [x, .str kd] = [some (x), some (.str kd), none, none] from rfl])
  simp only [wNext, wSeq, wBreak, wContinue, wExpr, wRet, wRetN, wIfS, wSet, wAsg, wPar, wPar3, wFor, wSub, wTst, wOp, wChain, wNotT, wAndT, wOrT, wAndV, wOrV, wNotV, wIf, wNil, wCons, wTup, wLst, wLstM, wCall, wCall0, wVar, wC, wLc, wLcM, wYes, wiL, wiT, wiS, wiR, wiEnT, wiEnL, wiZip, wSl, woNone, woSome, wMt, wJoin, wGet, wUn, wTru, wDNew, fin, List.getElem?_cons_zero, List.getElem?_cons_succ, List.set_cons_zero, List.set_cons_succ, ax]
  refine lc_filter (fun d => match d with | .tup [_, .str s] => decide (s = kd) | _ => false) (fun d => match d with | .tup [n, _] => n | d => d) (G := gAt x (cs.map colD)) (M := M) ax _ _ _ ?_ (by simpa using z1 (by omega)) ?_
  · intro d hd
    obtain ⟨c, hc', rfl⟩ := List.mem_map.mp hd
    refine ⟨_, rfl, fun k' hk' => ?_, fun _ k' hk' => ?_⟩
    · simp only [wNext, wSeq, wBreak, wContinue, wExpr, wRet, wRetN, wIfS, wSet, wAsg, wPar, wPar3, wFor, wSub, wTst, wOp, wChain, wNotT, wAndT, wOrT, wAndV, wOrV, wNotV, wIf, wNil, wCons, wTup, wLst, wLstM, wCall, wCall0, wVar, wC, wLc, wLcM, wYes, wiL, wiT, wiS, wiR, wiEnT, wiEnL, wiZip, wSl, woNone, woSome, wMt, wJoin, wGet, wUn, wTru, wDNew, fin, List.getElem?_cons_zero, List.getElem?_cons_succ, List.set_cons_zero, List.set_cons_succ, wipeD, List.map]
      exact eq_strA hk'
    · simp only [wNext, wSeq, wBreak, wContinue, wExpr, wRet, wRetN, wIfS, wSet, wAsg, wPar, wPar3, wFor, wSub, wTst, wOp, wChain, wNotT, wAndT, wOrT, wAndV, wOrV, wNotV, wIf, wNil, wCons, wTup, wLst, wLstM, wCall, wCall0, wVar, wC, wLc, wLcM, wYes, wiL, wiT, wiS, wiR, wiEnT, wiEnL, wiZip, wSl, woNone, woSome, wMt, wJoin, wGet, wUn, wTru, wDNew, fin, List.getElem?_cons_zero, List.getElem?_cons_succ, List.set_cons_zero, List.set_cons_succ, wipeD, List.map]
      exact hk'
  · have e : (List.filter (fun d => match d with | D.tup [_, .str s] => decide (s = kd) | _ => false) (cs.map colD)).map (fun d => match d with | D.tup [n, _] => n | d => d) = ((cs.filter fun c => decide (c.2 = kd)).map (·.1)).map D.str := by
      rw [List.filter_map, List.map_map, List.map_map]
      rfl
    rw [List.nil_append, e]; exact hk
/-- a check, with at most so many words -/
inductive Chq (cs : Cols) : Nat → D → Prop
  | not {n m : Nat} {c : D} : Chq cs n c → n + 1 ≤ m → Chq cs m (.tup [.str (Str.ofString "not"), c])
  | and {n m : Nat} {a b : D} : Chq cs n a → Chq cs n b → 2 * n ≤ m → Chq cs m (.tup [.str (Str.ofString "and"), a, b])
  | or {n m : Nat} {a b : D} : Chq cs n a → Chq cs n b → 2 * n ≤ m → Chq cs m (.tup [.str (Str.ofString "or"), a, b])
  | bel {m : Nat} {a : Str} (i : Int) : 1 ≤ m → i.natAbs ≤ 10 ^ 9 → (a, Str.ofString "number") ∈ cs → Chq cs m (.tup [.str (Str.ofString "below"), .str a, .int i])
  | lik {m : Nat} {a b kd : Str} : 1 ≤ m → (a, kd) ∈ cs → (b, kd) ∈ cs → Chq cs m (.tup [.str (Str.ofString "like"), .str a, .str b])
  | iss {m : Nat} {a kd : Str} {d : D} : 1 ≤ m → (a, kd) ∈ cs → Wq kd d → Chq cs m (.tup [.str (Str.ofString "is"), .str a, d])
theorem find_col : ∀ {cs : Cols} {a kd : Str}, (cs.map (·.1)).Nodup → (a, kd) ∈ cs → cs.find? (fun c => decide (c.1 = a)) = some (a, kd)
  | [], _, _, _, h => by cases h
  | c :: cs, a, kd, hn, h => by
    rw [List.find?_cons]
    have hn' := List.nodup_cons.mp hn
    rcases List.mem_cons.mp h with e | e
    · rw [← e]; simp
    · have : c.1 ≠ a := fun z => hn'.1 (by show c.1 ∈ _; rw [z]; exact List.mem_map_of_mem (f := fun x : Str × Str => x.1) e)
      simp only [this, decide_false]
      exact find_col hn'.2 e
theorem kindOf_mem {size : Nat} {cs : Cols} (h : ColsOk size cs) {a kd : Str} (hm : (a, kd) ∈ cs) : kindOf cs (.str a) = some kd := by
  unfold kindOf
  simp only
  rw [if_pos (h.nm _ hm), find_col h.nd hm]; rfl
theorem Chq.pos {cs : Cols} {m : Nat} {c : D} (h : Chq cs m c) : 1 ≤ m := by
  induction h with
  | not _ _ ih => omega
  | and _ _ _ ih _ => omega
  | or _ _ _ ih _ => omega
  | bel _ h _ _ => exact h
  | lik h _ _ => exact h
  | iss h _ _ => exact h
theorem Chq.chk {size : Nat} {cs : Cols} (hc : ColsOk size cs) {m : Nat} {c : D} (h : Chq cs m c) : ∀ n, m ≤ n → chkB cs n c = true := by
  have q1 : ¬ (Str.ofString "below" = Str.ofString "and" ∨ Str.ofString "below" = Str.ofString "or") := by decide
  have q2 : ¬ (Str.ofString "like" = Str.ofString "and" ∨ Str.ofString "like" = Str.ofString "or") := by decide
  have q3 : ¬ (Str.ofString "is" = Str.ofString "and" ∨ Str.ofString "is" = Str.ofString "or") := by decide
  have q4 : Str.ofString "below" ≠ Str.ofString "is" := by decide
  have q5 : Str.ofString "like" ≠ Str.ofString "is" := by decide
  have q6 : Str.ofString "like" ≠ Str.ofString "below" := by decide
  induction h with
  | not h hm ih =>
    intro n hn
    obtain ⟨n, rfl⟩ : ∃ j, n = j + 1 := ⟨n - 1, by omega⟩
    unfold chkB
    rw [ih n (by omega)]; simp
  | @and n' m' a b h1 h2 hm i1 i2 =>
    intro n hn
    have := h1.pos
    obtain ⟨n, rfl⟩ : ∃ j, n = j + 1 := ⟨n - 1, by omega⟩
    unfold chkB
    rw [if_pos (.inl rfl), i1 n (by omega), i2 n (by omega)]; rfl
  | @or n' m' a b h1 h2 hm i1 i2 =>
    intro n hn
    have := h1.pos
    obtain ⟨n, rfl⟩ : ∃ j, n = j + 1 := ⟨n - 1, by omega⟩
    unfold chkB
    rw [if_pos (.inr rfl), i1 n (by omega), i2 n (by omega)]; rfl
  | bel i hm hi ha =>
    intro n hn
    obtain ⟨n, rfl⟩ : ∃ j, n = j + 1 := ⟨n - 1, by omega⟩
    unfold chkB
    rw [if_neg q1, kindOf_mem hc ha]
    simp only
    simp only [q4, if_false, if_true]
    have a : -(1000000000 : Int) ≤ i := by omega
    have b : i ≤ 1000000000 := by omega
    simp [isNumB, a, b]
  | lik hm ha hb =>
    intro n hn
    obtain ⟨n, rfl⟩ : ∃ j, n = j + 1 := ⟨n - 1, by omega⟩
    unfold chkB
    rw [if_neg q2, kindOf_mem hc ha, kindOf_mem hc hb]
    simp only
    simp only [q5, q6, if_false, if_true]
    simp
  | iss hm ha hd =>
    intro n hn
    obtain ⟨n, rfl⟩ : ∃ j, n = j + 1 := ⟨n - 1, by omega⟩
    unfold chkB
    rw [if_neg q3, kindOf_mem hc ha]
    simp only [if_true]
    exact hd.fits
theorem Good.tri3 {N : Nat} {M : Mem} {a b c : Nat} {d : D} (g : Good N M a b c d) : fit N M d = true ∧ far d ≤ b ∧ wide d ≤ c := ⟨g.ok, g.fr, g.wd⟩
theorem good_word {N : Nat} {M : Mem} {b c : Nat} {s : Str} (h : plain s = true ∧ s.length ≤ 8) : Good N M 8 b c (.str s) := good_str h.1 h.2
theorem heavies_cons (d : D) (ds : List D) : heavies (d :: ds) = heavy d + 1 + heavies ds := by rw [heavies]
theorem good2 {N : Nat} {M : Mem} {a1 a2 b c : Nat} {x y : D} (h1 : Good N M a1 b c x) (h2 : Good N M a2 b c y) (hc : 2 ≤ c) : Good N M (a1 + a2 + 2) (b + 1) c (.tup [x, y]) := by
  refine good_tup (fun z hz => ?_) ?_ (by simpa using hc)
  · simp only [List.mem_cons, List.not_mem_nil, or_false] at hz
    rcases hz with rfl | rfl
    · exact h1.tri3
    · exact h2.tri3
  · rw [heavies_cons, heavies_one]
    have := h1.hv; have := h2.hv; omega
theorem good3 {N : Nat} {M : Mem} {a1 a2 a3 b c : Nat} {x y z : D} (h1 : Good N M a1 b c x) (h2 : Good N M a2 b c y) (h3 : Good N M a3 b c z) (hc : 3 ≤ c) : Good N M (a1 + a2 + a3 + 3) (b + 1) c (.tup [x, y, z]) := by
  refine good_tup (fun z hz => ?_) ?_ (by simpa using hc)
  · simp only [List.mem_cons, List.not_mem_nil, or_false] at hz
    rcases hz with rfl | rfl | rfl
    · exact h1.tri3
    · exact h2.tri3
    · exact h3.tri3
  · rw [heavies_cons, heavies_cons, heavies_one]
    have := h1.hv; have := h2.hv; have := h3.hv; omega
theorem Chq.good {size : Nat} {cs : Cols} (hc : ColsOk size cs) {N : Nat} {M : Mem} (hN : 10 ^ 9 < N) {m : Nat} {c : D} (h : Chq cs m c) : Good N M (100 * m - 20) m 3 c := by
  have wd : ∀ s ∈ [Str.ofString "not", Str.ofString "and", Str.ofString "or", Str.ofString "below", Str.ofString "like", Str.ofString "is"], ∀ b : Nat, Good N M 8 b 3 (.str s) := fun s hs b => by
    simp only [List.mem_cons, List.not_mem_nil, or_false] at hs
    rcases hs with rfl | rfl | rfl | rfl | rfl | rfl <;> exact good_word ⟨by decide +kernel, by decide +kernel⟩
  have nm : ∀ a kd : Str, (a, kd) ∈ cs → ∀ b : Nat, Good N M 8 b 3 (.str a) := fun a kd ha b => good_nm (hc.nm _ ha)
  induction h with
  | @not n m c h hm ih =>
    have p := h.pos
    exact (good2 (wd (Str.ofString "not") (by simp) n) ih (by decide)).up (by omega) (by omega) (Nat.le_refl _)
  | @and n m x y h1 h2 hm i1 i2 =>
    have p := h1.pos
    exact (good3 (wd (Str.ofString "and") (by simp) n) i1 i2 (by decide)).up (by omega) (by omega) (Nat.le_refl _)
  | @or n m x y h1 h2 hm i1 i2 =>
    have p := h1.pos
    exact (good3 (wd (Str.ofString "or") (by simp) n) i1 i2 (by decide)).up (by omega) (by omega) (Nat.le_refl _)
  | @bel m a i hm hi ha => exact (good3 (wd (Str.ofString "below") (by simp) 0) (nm _ _ ha 0) (good_int (i := i) (by omega)) (by decide)).up (by omega) (by omega) (Nat.le_refl _)
  | @lik m a b kd hm ha hb => exact (good3 (wd (Str.ofString "like") (by simp) 0) (nm _ _ ha 0) (nm _ _ hb 0) (by decide)).up (by omega) (by omega) (Nat.le_refl _)
  | @iss m a kd d hm ha hd => exact (good3 (wd (Str.ofString "is") (by simp) 0) (nm _ _ ha 0) (good_wq hN hd) (by decide)).up (by omega) (by omega) (Nat.le_refl _)
def F_check (n : Nat) : FD := fun ds M k => ∃ (h l : Addr) (x : D) (cs : Cols) (size left : Nat), ds = [.cel h, x, .int ((left : Nat) : Int)] ∧ Hnd M h l ∧ Lat h l M x (cs.map colD) ∧ ColsOk size cs ∧ size ≤ 60 ∧ 1 ≤ left ∧ left ≤ n ∧ ∀ c M', Chq cs left c → Hnd M' h l → Ext h l M M' → k c M'
theorem ok_check (T : Txt K mg) (B : DD K mg) : ∀ n, DFn P w K mg base (4 + n) B.f_law_check B.fd_law_check p_law_check (F_check n)
  | 0 => DFn.weak DFn.none fun ds M k ⟨h, l, x, cs, size, left, _, _, _, _, _, h1, h2, _⟩ => by omega
  | n + 1 => by
    have G_law_pick : DFn P w K mg base 1 B.f_law_pick B.fd_law_pick p_law_pick F_pick := ok_pick T B.d_law_pick
    have G_law_of : DFn P w K mg base 2 B.f_law_of B.fd_law_of p_law_of F_of2 := ok_of2 T B
    have G_law_worth : DFn P w K mg base 3 B.f_law_worth B.fd_law_worth p_law_worth F_worth := ok_worth T B
    have G_law_named : DFn P w K mg base 1 B.f_law_named B.fd_law_named p_law_named F_named := ok_named T B
    have G_law_check : DFn P w K mg base (4 + n) B.f_law_check B.fd_law_check p_law_check (F_check n) := ok_check T B n
    refine Fun.okD (k := 4 + n) B.d_law_check.F sc_law_check (fun cdv A outer s H E hr => (dss_cons (ds_asg (dg_tup rfl (dgs_cons (dg_name (i := 3) sc_law_check.nd) (dgs_cons (dg_tup rfl (dgs_cons (dg_name (i := 4) sc_law_check.nd) (dgs_cons (dg_name (i := 5) sc_law_check.nd) dgs_nil)) (gsCons_len (gsCons_len gsNil_len))) dgs_nil)) (gsCons_len (gsCons_len gsNil_len))) (de_tup (da_cons (de_own B.d_law_pick G_law_pick hr (by first | decide | omega) (da_cons (dv 0) (da_cons de_int da_nil))) (da_cons (de_own B.d_law_of G_law_of hr (by first | decide | omega) (da_cons (dv 0) (da_cons (dv 1) da_nil))) da_nil)))) (dss_cons (ds_if (dw_pt (dw_and (dt_cmpA (c_eq hr) (dv 3) de_int) (dw_and1 (dt_cmpA c_gt (dv 2) de_int)))) (dss_one (ds_ret (de_tup (da_cons de_str (da_cons (de_own B.d_law_check G_law_check hr (by first | decide | omega) (da_cons (dv 0) (da_cons (dv 1) (da_cons (de_sub (dv 2) de_int) da_nil)))) da_nil))))) dss_nil) (dss_cons (ds_if (dw_pt (dw_and (dt_cmpA c_in (dv 3) (de_tup (da_cons de_int (da_cons de_int da_nil)))) (dw_and1 (dt_cmpA c_gt (dv 2) de_int)))) (dss_one (ds_ret (de_tup (da_cons (de_ix (de_lst (da_cons de_str (da_cons de_str da_nil))) (de_sub (dv 3) de_int)) (da_cons (de_own B.d_law_check G_law_check hr (by first | decide | omega) (da_cons (dv 0) (da_cons (dv 1) (da_cons (de_div (dv 2) de_int) da_nil)))) (da_cons (de_own B.d_law_check G_law_check hr (by first | decide | omega) (da_cons (dv 0) (da_cons (dv 1) (da_cons (de_div (dv 2) de_int) da_nil)))) da_nil)))))) dss_nil) (dss_cons (ds_if (dw_pt (dw_and (dt_cmpA (c_eq hr) (dv 3) de_int) (dw_and1 (dt_cmpA (c_eq hr) (dv 5) de_str)))) (dss_one (ds_ret (de_tup (da_cons de_str (da_cons (dv 4) (da_cons (de_own B.d_law_of G_law_of hr (by first | decide | omega) (da_cons (dv 0) (da_cons (de_lst (da_cons de_int (da_cons de_int (da_cons de_int (da_cons de_int (da_cons (de_neg de_int) (da_cons (de_sub (de_pow de_int de_int) de_int) da_nil))))))) da_nil))) da_nil)))))) dss_nil) (dss_cons (ds_if (dt_cmpA (c_eq hr) (dv 3) de_int) (dss_one (ds_ret (de_tup (da_cons de_str (da_cons (dv 4) (da_cons (de_own B.d_law_of G_law_of hr (by first | decide | omega) (da_cons (dv 0) (da_cons (de_own B.d_law_named G_law_named hr (by first | decide | omega) (da_cons (dv 1) (da_cons (dv 5) da_nil))) da_nil))) da_nil)))))) dss_nil) (dss_one (ds_ret (de_tup (da_cons de_str (da_cons (dv 4) (da_cons (de_own B.d_law_worth G_law_worth hr (by first | decide | omega) (da_cons (dv 0) (da_cons (dv 5) da_nil))) da_nil)))))))))))) (fun ds M k h => ?_)
    obtain ⟨h, l, x, cs, size, left, rfl, hh, hx, hcs, hsz, l0, l1, hk⟩ := h
    (refine ⟨rfl, ?_⟩; rw [show startD N_law_check [.cel h, x, .int ((left : Nat) : Int)] = [some (.cel h), some (x), some (.int ((left : Nat) : Int)), none, none, none] from rfl])
    simp only [wSeq, wAsg, wTup, wCall, wCons, wNil, wVar, wC, List.getElem?_cons_zero, List.getElem?_cons_succ]
    refine ⟨h, l, 7, rfl, hh, by decide, by decide, fun way M1 w0 w1 hh1 e1 => ?_⟩
    have cl := hcs.le
    refine .inr ⟨h, l, _, cs.map colD, rfl, hh1, hx.ext e1, ?_, by simp; omega, fun d M2 hd hh2 e2 => ?_⟩
    · rw [List.length_map]; exact List.length_pos_iff.mpr hcs.ne
    obtain ⟨⟨nm, kd⟩, hc, rfl⟩ := List.mem_map.mp hd
    have hkd := hcs.kd _ hc
    have e12 := e1.trans e2
    refine ⟨(show 2 ≤ sizeLine by decide), ?_⟩
    simp only [gT, gsCons, gN, gsNil, colD, List.set_cons_zero, List.set_cons_succ, wIfS]
    refine and_pure (b1 := decide (way = 0)) (b2 := decide ((1 : Int) < ((left : Nat) : Int))) (fun k hk => by simp only [wNext, wSeq, wBreak, wContinue, wExpr, wRet, wRetN, wIfS, wSet, wAsg, wPar, wPar3, wFor, wSub, wTst, wOp, wChain, wNotT, wAndT, wOrT, wAndV, wOrV, wNotV, wIf, wNil, wCons, wTup, wLst, wLstM, wCall, wCall0, wVar, wC, wLc, wLcM, wYes, wiL, wiT, wiS, wiR, wiEnT, wiEnL, wiZip, wSl, woNone, woSome, wMt, wJoin, wGet, wUn, wTru, wDNew, fin, List.getElem?_cons_zero, List.getElem?_cons_succ, List.set_cons_zero, List.set_cons_succ]; exact eq_int hk) (fun _ k hk => by simp only [wNext, wSeq, wBreak, wContinue, wExpr, wRet, wRetN, wIfS, wSet, wAsg, wPar, wPar3, wFor, wSub, wTst, wOp, wChain, wNotT, wAndT, wOrT, wAndV, wOrV, wNotV, wIf, wNil, wCons, wTup, wLst, wLstM, wCall, wCall0, wVar, wC, wLc, wLcM, wYes, wiL, wiT, wiS, wiR, wiEnT, wiEnL, wiZip, wSl, woNone, woSome, wMt, wJoin, wGet, wUn, wTru, wDNew, fin, List.getElem?_cons_zero, List.getElem?_cons_succ, List.set_cons_zero, List.set_cons_succ]; exact r_ordI hk) (bb (fun c1 => ?_) (fun c1 => ?_))
    · simp only [Bool.and_eq_true, decide_eq_true_eq] at c1
      simp only [wNext, wSeq, wBreak, wContinue, wExpr, wRet, wRetN, wIfS, wSet, wAsg, wPar, wPar3, wFor, wSub, wTst, wOp, wChain, wNotT, wAndT, wOrT, wAndV, wOrV, wNotV, wIf, wNil, wCons, wTup, wLst, wLstM, wCall, wCall0, wVar, wC, wLc, wLcM, wYes, wiL, wiT, wiS, wiR, wiEnT, wiEnL, wiZip, wSl, woNone, woSome, wMt, wJoin, wGet, wUn, wTru, wDNew, fin, List.getElem?_cons_zero, List.getElem?_cons_succ, List.set_cons_zero, List.set_cons_succ]
      refine r_I0 ⟨h, l, x, cs, size, left - 1, by rw [show ((left - 1 : Nat) : Int) = (left : Int) - 1 by omega], hh2, hx.ext e12, hcs, hsz, by omega, by omega, fun c M3 hc3 hh3 e3 => ⟨(show 2 ≤ sizeLine by decide), ?_⟩⟩
      exact hk _ M3 (.not hc3 (by omega)) hh3 (e12.trans e3)
    try simp only [wNext, wSeq, wIfS]
    refine and_pure (b1 := decide (way ∈ [1, 2])) (b2 := decide ((2 : Int) < ((left : Nat) : Int))) (fun k hk => by simp only [wNext, wSeq, wBreak, wContinue, wExpr, wRet, wRetN, wIfS, wSet, wAsg, wPar, wPar3, wFor, wSub, wTst, wOp, wChain, wNotT, wAndT, wOrT, wAndV, wOrV, wNotV, wIf, wNil, wCons, wTup, wLst, wLstM, wCall, wCall0, wVar, wC, wLc, wLcM, wYes, wiL, wiT, wiS, wiR, wiEnT, wiEnL, wiZip, wSl, woNone, woSome, wMt, wJoin, wGet, wUn, wTru, wDNew, fin, List.getElem?_cons_zero, List.getElem?_cons_succ, List.set_cons_zero, List.set_cons_succ]; exact ⟨(show 2 ≤ sizeLine by decide), r_inI (l := [1, 2]) hk⟩) (fun _ k hk => by simp only [wNext, wSeq, wBreak, wContinue, wExpr, wRet, wRetN, wIfS, wSet, wAsg, wPar, wPar3, wFor, wSub, wTst, wOp, wChain, wNotT, wAndT, wOrT, wAndV, wOrV, wNotV, wIf, wNil, wCons, wTup, wLst, wLstM, wCall, wCall0, wVar, wC, wLc, wLcM, wYes, wiL, wiT, wiS, wiR, wiEnT, wiEnL, wiZip, wSl, woNone, woSome, wMt, wJoin, wGet, wUn, wTru, wDNew, fin, List.getElem?_cons_zero, List.getElem?_cons_succ, List.set_cons_zero, List.set_cons_succ]; exact r_ordI hk) (bb (fun c2 => ?_) (fun c2 => ?_))
    · simp only [Bool.and_eq_true, decide_eq_true_eq, List.mem_cons, List.not_mem_nil, or_false] at c2
      simp only [wNext, wSeq, wBreak, wContinue, wExpr, wRet, wRetN, wIfS, wSet, wAsg, wPar, wPar3, wFor, wSub, wTst, wOp, wChain, wNotT, wAndT, wOrT, wAndV, wOrV, wNotV, wIf, wNil, wCons, wTup, wLst, wLstM, wCall, wCall0, wVar, wC, wLc, wLcM, wYes, wiL, wiT, wiS, wiR, wiEnT, wiEnL, wiZip, wSl, woNone, woSome, wMt, wJoin, wGet, wUn, wTru, wDNew, fin, List.getElem?_cons_zero, List.getElem?_cons_succ, List.set_cons_zero, List.set_cons_succ]
      refine ⟨(show 2 ≤ sizeLine by decide), r_I0 ?_⟩
      have hw : ∃ w, atI [D.str (Str.ofString "and"), D.str (Str.ofString "or")] (way - 1) = some (.str w) ∧ ∀ a b, Chq cs (left / 2) a → Chq cs (left / 2) b → Chq cs left (.tup [.str w, a, b]) := by
        rcases c2.1 with rfl | rfl
        · exact ⟨_, at0 _ _, fun a b ha hb => .and ha hb (by omega)⟩
        · exact ⟨_, at1 _ _ _, fun a b ha hb => .or ha hb (by omega)⟩
      obtain ⟨w, aw, hw⟩ := hw
      have half : ((left / 2 : Nat) : Int) = (left : Int) / 2 := by omega
      refine ix_lst aw (r_div (by decide) (by decide) ?_)
      refine ⟨h, l, x, cs, size, left / 2, by rw [half], hh2, hx.ext e12, hcs, hsz, by omega, by omega, fun c M3 hc3 hh3 e3 => ?_⟩
      refine r_div (by decide) (by decide) ⟨h, l, x, cs, size, left / 2, by rw [half], hh3, hx.ext (e12.trans e3), hcs, hsz, by omega, by omega, fun c' M4 hc4 hh4 e4 => ⟨(show 3 ≤ sizeLine by decide), ?_⟩⟩
      exact hk _ M4 (hw _ _ hc3 hc4) hh4 ((e12.trans e3).trans e4)
    try simp only [wNext, wSeq, wIfS]
    refine and_pure (b1 := decide (way = 3)) (b2 := decide (kd = Str.ofString "number")) (fun k hk => by simp only [wNext, wSeq, wBreak, wContinue, wExpr, wRet, wRetN, wIfS, wSet, wAsg, wPar, wPar3, wFor, wSub, wTst, wOp, wChain, wNotT, wAndT, wOrT, wAndV, wOrV, wNotV, wIf, wNil, wCons, wTup, wLst, wLstM, wCall, wCall0, wVar, wC, wLc, wLcM, wYes, wiL, wiT, wiS, wiR, wiEnT, wiEnL, wiZip, wSl, woNone, woSome, wMt, wJoin, wGet, wUn, wTru, wDNew, fin, List.getElem?_cons_zero, List.getElem?_cons_succ, List.set_cons_zero, List.set_cons_succ]; exact eq_int hk) (fun _ k hk => by simp only [wNext, wSeq, wBreak, wContinue, wExpr, wRet, wRetN, wIfS, wSet, wAsg, wPar, wPar3, wFor, wSub, wTst, wOp, wChain, wNotT, wAndT, wOrT, wAndV, wOrV, wNotV, wIf, wNil, wCons, wTup, wLst, wLstM, wCall, wCall0, wVar, wC, wLc, wLcM, wYes, wiL, wiT, wiS, wiR, wiEnT, wiEnL, wiZip, wSl, woNone, woSome, wMt, wJoin, wGet, wUn, wTru, wDNew, fin, List.getElem?_cons_zero, List.getElem?_cons_succ, List.set_cons_zero, List.set_cons_succ]; exact eq_strA hk) (bb (fun c3 => ?_) (fun c3 => ?_))
    · simp only [Bool.and_eq_true, decide_eq_true_eq] at c3
      obtain ⟨_, rfl⟩ := c3
      simp only [wNext, wSeq, wBreak, wContinue, wExpr, wRet, wRetN, wIfS, wSet, wAsg, wPar, wPar3, wFor, wSub, wTst, wOp, wChain, wNotT, wAndT, wOrT, wAndV, wOrV, wNotV, wIf, wNil, wCons, wTup, wLst, wLstM, wCall, wCall0, wVar, wC, wLc, wLcM, wYes, wiL, wiT, wiS, wiR, wiEnT, wiEnL, wiZip, wSl, woNone, woSome, wMt, wJoin, wGet, wUn, wTru, wDNew, fin, List.getElem?_cons_zero, List.getElem?_cons_succ, List.set_cons_zero, List.set_cons_succ]
      refine r_U (r_pow (by decide) (by decide) (by decide) (r_I0 ?_))
      refine ⟨(show 6 ≤ sizeLine by decide), .inl ⟨h, l, _, rfl, hh2, .inr ⟨_, .inr rfl, by simp, by simp, fun d M3 hd hh3 e3 => ⟨(show 3 ≤ sizeLine by decide), ?_⟩⟩⟩⟩
      refine hk _ M3 ?_ hh3 (e12.trans e3)
      have e9 : (10 : Int) ^ (9 : Int).toNat = 1000000000 := by decide
      simp only [e9, List.mem_cons, List.not_mem_nil, or_false] at hd
      rcases hd with rfl | rfl | rfl | rfl | rfl | rfl <;> exact .bel _ l0 (by omega) hc
    simp only [wNext, wSeq, wBreak, wContinue, wExpr, wRet, wRetN, wIfS, wSet, wAsg, wPar, wPar3, wFor, wSub, wTst, wOp, wChain, wNotT, wAndT, wOrT, wAndV, wOrV, wNotV, wIf, wNil, wCons, wTup, wLst, wLstM, wCall, wCall0, wVar, wC, wLc, wLcM, wYes, wiL, wiT, wiS, wiR, wiEnT, wiEnL, wiZip, wSl, woNone, woSome, wMt, wJoin, wGet, wUn, wTru, wDNew, fin, List.getElem?_cons_zero, List.getElem?_cons_succ, List.set_cons_zero, List.set_cons_succ]
    refine eq_int (bb (fun c4 => ?_) (fun c4 => ?_))
    · refine ⟨x, cs, kd, rfl, (hx.ext e12).asR, by omega, ?_⟩
      have hm : nm ∈ (cs.filter fun c => decide (c.2 = kd)).map (·.1) := List.mem_map.mpr ⟨(nm, kd), List.mem_filter.mpr ⟨hc, by simp⟩, rfl⟩
      refine .inl ⟨h, l, _, rfl, hh2, .inr ⟨_, .inr rfl, ?_, ?_, fun d M3 hd hh3 e3 => ⟨(show 3 ≤ sizeLine by decide), ?_⟩⟩⟩
      · rw [List.length_map]; exact List.length_pos_of_mem hm
      · have := List.length_filter_le (fun c : Str × Str => decide (c.2 = kd)) cs
        simp only [List.length_map]; omega
      · obtain ⟨b, hb, rfl⟩ := List.mem_map.mp hd
        obtain ⟨c, hc', rfl⟩ := List.mem_map.mp hb
        obtain ⟨y1, y2⟩ := List.mem_filter.mp hc'
        have : c.2 = kd := of_decide_eq_true y2
        exact hk _ M3 (.lik l0 hc (by rw [← this]; exact y1)) hh3 (e12.trans e3)
    · refine ⟨h, l, kd, rfl, hh2, hkd, fun d M3 hd hh3 e3 => ⟨(show 3 ≤ sizeLine by decide), ?_⟩⟩
      exact hk _ M3 (.iss l0 hc hd) hh3 (e12.trans e3)
end
end K04

set_option autoImplicit false
set_option maxRecDepth 100000
set_option maxHeartbeats 4000000
namespace K04
open PySem L2 DL
/-! questions as they are drawn: what they come to, and how great they are -/
structure Drw (ts : List (Str × Cols)) (sz H F C : Nat) (d : D) (cs : Cols) : Prop where
  q : ∀ n, F ≤ n → qCols wAll (leafAll ts) n d = some cs
  ok : ColsOk sz cs
  good : ∀ N M, 10 ^ 9 < N → Good N M H F 30 d
  cn : cnt d ≤ C
theorem ColsOk.up {s t : Nat} {cs : Cols} (h : ColsOk s cs) (q : s ≤ t) : ColsOk t cs := ⟨h.ne, Nat.le_trans h.le q, h.nd, h.nm, h.kd⟩
theorem Drw.up {ts : List (Str × Cols)} {sz H F C sz' H' F' C' : Nat} {d : D} {cs : Cols} (h : Drw ts sz H F C d cs) (a : sz ≤ sz') (b : H ≤ H') (c : F ≤ F') (e : C ≤ C') : Drw ts sz' H' F' C' d cs :=
  ⟨fun n hn => h.q n (Nat.le_trans c hn), h.ok.up a, fun N M hN => (h.good N M hN).up b c (Nat.le_refl _), Nat.le_trans h.cn e⟩
theorem q_step {lf : D → Option Cols} {n : Nat} {w : Str} {r : List D} (h : w ≠ wAll) : qCols wAll lf (n + 1) (.tup (.str w :: r)) = qStep (qCols wAll lf n) n (.tup (.str w :: r)) := by
  show (if some w = some wAll then _ else _) = _
  rw [if_neg (fun e => h (Option.some.inj e))]
theorem q_leaf {lf : D → Option Cols} {n : Nat} {r : List D} : qCols wAll lf (n + 1) (.tup (.str wAll :: r)) = lf (.tup (.str wAll :: r)) := by
  show (if some wAll = some wAll then _ else _) = _
  rw [if_pos rfl]
theorem good_names {N : Nat} {M : Mem} {ns : List Str} {n : Nat} (h : ∀ s ∈ ns, isNm s = true) (hl : ns.length ≤ n) (hn : n ≤ 30) : Good N M (9 * n) 1 30 (.tup (ns.map D.str)) := by
  refine good_tup (b := 0) (fun z hz => ?_) ?_ (by rw [List.length_map]; omega)
  · obtain ⟨s, hs, rfl⟩ := List.mem_map.mp hz
    exact (good_nm (b := 0) (c := 30) (h s hs)).tri3
  · have : ∀ l : List Str, (∀ s ∈ l, isNm s = true) → heavies (l.map D.str) ≤ 9 * l.length := fun l => by
      induction l with
      | nil => intro _; rw [List.map_nil, heavies_nil]; omega
      | cons a l ih =>
        intro hl
        have := ih fun s hs => hl s (List.mem_cons_of_mem _ hs)
        have h8 := (good_nm (N := 0) (M := fun _ => none) (b := 0) (c := 0) (hl a List.mem_cons_self)).hv
        rw [List.map_cons, heavies_cons, List.length_cons]; omega
    exact Nat.le_trans (this ns h) (by omega)
theorem cnt_str (s : Str) : cnt (.str s) = 0 := by unfold cnt; rfl
theorem cnt_int (s : Int) : cnt (.int s) = 0 := by unfold cnt; rfl
theorem cnt_non : cnt .non = 0 := by unfold cnt; rfl
theorem cnts_strs : ∀ l : List Str, cnts (l.map D.str) = l.length
  | [] => cnts_nil
  | s :: l => by rw [List.map_cons, cnts_cons, cnt_str, cnts_strs l, List.length_cons]; omega
theorem good4 {N : Nat} {M : Mem} {a1 a2 a3 a4 b c : Nat} {x y z u : D} (h1 : Good N M a1 b c x) (h2 : Good N M a2 b c y) (h3 : Good N M a3 b c z) (h4 : Good N M a4 b c u) (hc : 4 ≤ c) : Good N M (a1 + a2 + a3 + a4 + 4) (b + 1) c (.tup [x, y, z, u]) := by
  refine good_tup (fun z hz => ?_) ?_ (by simpa using hc)
  · simp only [List.mem_cons, List.not_mem_nil, or_false] at hz
    rcases hz with rfl | rfl | rfl | rfl
    · exact h1.tri3
    · exact h2.tri3
    · exact h3.tri3
    · exact h4.tri3
  · rw [heavies_cons, heavies_cons, heavies_cons, heavies_one]
    have := h1.hv; have := h2.hv; have := h3.hv; have := h4.hv; omega
theorem good5 {N : Nat} {M : Mem} {a1 a2 a3 a4 a5 b c : Nat} {x y z u v : D} (h1 : Good N M a1 b c x) (h2 : Good N M a2 b c y) (h3 : Good N M a3 b c z) (h4 : Good N M a4 b c u) (h5 : Good N M a5 b c v) (hc : 5 ≤ c) : Good N M (a1 + a2 + a3 + a4 + a5 + 5) (b + 1) c (.tup [x, y, z, u, v]) := by
  refine good_tup (fun z hz => ?_) ?_ (by simpa using hc)
  · simp only [List.mem_cons, List.not_mem_nil, or_false] at hz
    rcases hz with rfl | rfl | rfl | rfl | rfl
    · exact h1.tri3
    · exact h2.tri3
    · exact h3.tri3
    · exact h4.tri3
    · exact h5.tri3
  · rw [heavies_cons, heavies_cons, heavies_cons, heavies_cons, heavies_one]
    have := h1.hv; have := h2.hv; have := h3.hv; have := h4.hv; have := h5.hv; omega
theorem good_ws {N : Nat} {M : Mem} {b c : Nat} {s : Str} (h : plain s = true ∧ s.length ≤ 8) : Good N M 8 b c (.str s) := good_str h.1 h.2
theorem colAt_in {size : Nat} {cs : Cols} (h : ColsOk size cs) {c : Str × Str} (hm : c ∈ cs) : colAt cs (.str c.1) = some c := by
  unfold colAt
  simp only
  rw [if_pos (h.nm _ hm), find_col (kd := c.2) h.nd hm]
theorem colsAt_part {size : Nat} {cs : Cols} (h : ColsOk size cs) : ∀ {es : Cols}, (∀ c ∈ es, c ∈ cs) → colsAt cs ((es.map (·.1)).map D.str) = some es
  | [], _ => rfl
  | c :: es, hs => by
    rw [List.map_cons, List.map_cons]
    unfold colsAt
    rw [colAt_in h (hs c List.mem_cons_self), colsAt_part h fun x hx => hs x (List.mem_cons_of_mem _ hx)]
theorem named_part {size : Nat} {cs es : Cols} (h : ColsOk size cs) (hs : ∀ c ∈ es, c ∈ cs) (hn : (es.map (·.1)).Nodup) : namedC cs (.tup ((es.map (·.1)).map D.str)) = some es := by
  unfold namedC
  simp only
  rw [colsAt_part h hs]
  simp only
  unfold unlikeC
  rw [if_pos hn]
theorem ColsOk.part {size : Nat} {cs es : Cols} (h : ColsOk size cs) (p : Part cs es) : ColsOk size es :=
  ⟨p.ne, Nat.le_trans p.le h.le, p.nd, fun c hc => h.nm c (p.sub c hc), fun c hc => h.kd c (p.sub c hc)⟩
theorem Chq.cnt {cs : Cols} {m : Nat} {c : D} (h : Chq cs m c) : K04.cnt c ≤ 8 * m - 4 := by
  induction h with
  | not h hm ih => have := h.pos; rw [cnt_tup, cnts_cons, cnts_cons, cnts_nil, cnt_str]; omega
  | and h1 h2 hm i1 i2 => have := h1.pos; rw [cnt_tup, cnts_cons, cnts_cons, cnts_cons, cnts_nil, cnt_str]; omega
  | or h1 h2 hm i1 i2 => have := h1.pos; rw [cnt_tup, cnts_cons, cnts_cons, cnts_cons, cnts_nil, cnt_str]; omega
  | bel i hm hi ha => rw [cnt_tup, cnts_cons, cnts_cons, cnts_cons, cnts_nil, cnt_str, cnt_str, cnt_int]; omega
  | lik hm ha hb => rw [cnt_tup, cnts_cons, cnts_cons, cnts_cons, cnts_nil, cnt_str, cnt_str, cnt_str]; omega
  | @iss m a kd d hm ha hd =>
    have e : K04.cnt d = 0 := by
      cases hd with
      | non => exact cnt_non
      | str s _ => exact cnt_str s
      | int i _ => exact cnt_int i
    rw [cnt_tup, cnts_cons, cnts_cons, cnts_cons, cnts_nil, cnt_str, cnt_str, e]; omega
section
variable {ts : List (Str × Cols)} {sz H F C : Nat} {d : D} {cs : Cols}
theorem Drw.leaf {t : Str × Cols} (h : PlanOk sz ts) (ht : t ∈ ts) : Drw ts sz 20 1 2 (.tup [.str wAll, .str t.1]) t.2 where
  q := fun n hn => by
    obtain ⟨n, rfl⟩ : ∃ j, n = j + 1 := ⟨n - 1, by omega⟩
    rw [q_leaf]
    show tableOf ts (.str t.1) = some t.2
    unfold tableOf
    simp only
    have : ∀ ts : List (Str × Cols), (ts.map (·.1)).Nodup → t ∈ ts → ts.find? (fun x => decide (x.1 = t.1)) = some t := fun ts => by
      induction ts with
      | nil => intro _ z; cases z
      | cons a r ih =>
        intro nd hm
        rw [List.find?_cons]
        have nd' := List.nodup_cons.mp nd
        rcases List.mem_cons.mp hm with e | e
        · rw [← e]; simp
        · have : a.1 ≠ t.1 := fun z => nd'.1 (by show a.1 ∈ _; rw [z]; exact List.mem_map_of_mem (f := fun x : Str × Cols => x.1) e)
          simp only [this, decide_false]
          exact ih nd'.2 e
    rw [if_pos (h.nm t ht), this ts h.nd ht]; rfl
  ok := h.ok t ht
  good := fun N M _ => (good2 (good_ws (b := 0) ⟨by decide +kernel, by decide +kernel⟩) (good_nm (h.nm t ht)) (by decide)).up (by omega) (by omega) (Nat.le_refl _)
  cn := by rw [cnt_tup, cnts_cons, cnts_cons, cnts_nil, cnt_str, cnt_str]; omega
theorem Drw.once (h : Drw ts sz H F C d cs) : Drw ts sz (H + 10) (F + 1) (C + 2) (.tup [.str (Str.ofString "once"), d]) cs where
  q := fun n hn => by
    obtain ⟨n, rfl⟩ : ∃ j, n = j + 1 := ⟨n - 1, by omega⟩
    rw [q_step (by decide)]
    simp only [qStep, if_true, oneC, h.q n (by omega)]
  ok := h.ok
  good := fun N M hN => (good2 (good_ws ⟨by decide +kernel, by decide +kernel⟩) (h.good N M hN) (by decide)).up (by omega) (by omega) (Nat.le_refl _)
  cn := by rw [cnt_tup, cnts_cons, cnts_cons, cnts_nil, cnt_str]; have := h.cn; omega
theorem Drw.wher {c : D} (h : Drw ts sz H F C d cs) (hc : Chq cs 3 c) (hF : 3 ≤ F) : Drw ts sz (H + 300) (F + 1) (C + 23) (.tup [.str (Str.ofString "where"), c, d]) cs where
  q := fun n hn => by
    obtain ⟨n, rfl⟩ : ∃ j, n = j + 1 := ⟨n - 1, by omega⟩
    rw [q_step (by decide)]
    simp only [qStep, if_true, oneC, h.q n (by omega), hc.chk h.ok n (by omega)]
  ok := h.ok
  good := fun N M hN => (good3 (good_ws ⟨by decide +kernel, by decide +kernel⟩) ((hc.good h.ok hN).up (Nat.le_refl _) hF (by decide)) (h.good N M hN) (by decide)).up (by omega) (by omega) (Nat.le_refl _)
  cn := by rw [cnt_tup, cnts_cons, cnts_cons, cnts_cons, cnts_nil, cnt_str]; have := h.cn; have := hc.cnt; omega
theorem Drw.pick {es : Cols} (h : Drw ts sz H F C d cs) (p : Part cs es) (hF : 1 ≤ F) (hs : sz ≤ 30) : Drw ts sz (H + 9 * sz + 20) (F + 1) (C + sz + 3) (.tup [.str (Str.ofString "pick"), .tup ((es.map (·.1)).map D.str), d]) es where
  q := fun n hn => by
    obtain ⟨n, rfl⟩ : ∃ j, n = j + 1 := ⟨n - 1, by omega⟩
    rw [q_step (by decide)]
    obtain ⟨e, r, rfl⟩ : ∃ e r, es = e :: r := by cases es with | nil => exact absurd rfl p.ne | cons e r => exact ⟨e, r, rfl⟩
    have := named_part h.ok p.sub p.nd
    simp only [qStep, show ¬ Str.ofString "pick" = Str.ofString "where" by decide, if_false, if_true, oneC, h.q n (by omega)]
    exact this
  ok := h.ok.part p
  good := fun N M hN => (good3 (good_ws ⟨by decide +kernel, by decide +kernel⟩) ((good_names (n := sz) (fun s hs' => by obtain ⟨c, hc, rfl⟩ := List.mem_map.mp hs'; exact h.ok.nm c (p.sub c hc)) (by rw [List.length_map]; exact Nat.le_trans p.le h.ok.le) hs).up (Nat.le_refl _) hF (Nat.le_refl _)) (h.good N M hN) (by decide)).up (by omega) (by omega) (Nat.le_refl _)
  cn := by
    rw [cnt_tup, cnts_cons, cnts_cons, cnts_cons, cnts_nil, cnt_str, cnt_tup, cnts_strs, List.length_map]
    have := h.cn; have := p.le; have := h.ok.le; omega
end
end K04

set_option autoImplicit false
set_option maxRecDepth 100000
set_option maxHeartbeats 4000000
namespace K04
open PySem L2 DL
section
variable {ts : List (Str × Cols)} {sz H F C sz2 H2 F2 C2 : Nat} {d d2 : D} {cs es : Cols}
theorem reN_fst : ∀ {ns : List Str} {cs : Cols}, ns.length = cs.length → (reN ns cs).map (·.1) = ns
  | [], [], _ => rfl
  | n :: ns, c :: cs, h => by
    have := reN_fst (ns := ns) (cs := cs) (by simpa using h)
    simp only [reN, List.zipWith_cons_cons, List.map_cons] at this ⊢
    rw [this]
  | [], _ :: _, h => by cases h
  | _ :: _, [], h => by cases h
theorem reN_mem {ns : List Str} {cs : Cols} {c : Str × Str} (h : c ∈ reN ns cs) : c.1 ∈ ns ∧ ∃ x ∈ cs, x.2 = c.2 := by
  obtain ⟨i, hi⟩ := List.mem_iff_getElem?.mp h
  unfold reN at hi
  rw [List.getElem?_zipWith] at hi
  cases q1 : ns[i]? with
  | none => rw [q1] at hi; simp at hi
  | some n =>
    cases q2 : cs[i]? with
    | none => rw [q1, q2] at hi; simp at hi
    | some x =>
      rw [q1, q2] at hi
      simp at hi
      subst hi
      exact ⟨List.mem_of_getElem? q1, x, List.mem_of_getElem? q2, rfl⟩
theorem strsN_of : ∀ {ns : List Str}, (∀ s ∈ ns, isNm s = true) → strsN (ns.map D.str) = some ns
  | [], _ => rfl
  | s :: ns, h => by
    rw [List.map_cons]
    unfold strsN
    rw [h s List.mem_cons_self, strsN_of fun x hx => h x (List.mem_cons_of_mem _ hx)]
theorem ColsOk.reN {size : Nat} {cs : Cols} (h : ColsOk size cs) {ns : List Str} (hl : ns.length = cs.length) (hn : ns.Nodup) (hm : ∀ s ∈ ns, isNm s = true) : ColsOk size (K04.reN ns cs) where
  ne := fun z => by
    have e1 := congrArg List.length z
    rw [K04.reN, List.length_zipWith, List.length_nil] at e1
    have := List.length_pos_iff.mpr h.ne
    omega
  le := by rw [K04.reN, List.length_zipWith]; have := h.le; omega
  nd := by rw [reN_fst hl]; exact hn
  nm := fun c hc => hm _ (reN_mem hc).1
  kd := fun c hc => by obtain ⟨_, x, hx, e⟩ := reN_mem hc; rw [← e]; exact h.kd x hx
theorem Drw.called {ns : List Str} (h : Drw ts sz H F C d cs) (hl : ns.length = cs.length) (hn : ns.Nodup) (hm : ∀ s ∈ ns, isNm s = true) (hF : 1 ≤ F) (hs : sz ≤ 30) : Drw ts sz (H + 9 * sz + 20) (F + 1) (C + sz + 3) (.tup [.str (Str.ofString "called"), .tup (ns.map D.str), d]) (reN ns cs) where
  q := fun n hn' => by
    obtain ⟨n, rfl⟩ : ∃ j, n = j + 1 := ⟨n - 1, by omega⟩
    rw [q_step (by decide)]
    simp only [qStep, show ¬ Str.ofString "called" = Str.ofString "where" by decide, show ¬ Str.ofString "called" = Str.ofString "pick" by decide, if_false, if_true, oneC, h.q n (by omega)]
    unfold calledC
    simp only
    rw [List.length_map, if_pos hl, strsN_of hm]
    simp only
    unfold unlikeC
    rw [if_pos]
    · rfl
    · rw [show List.zipWith (fun n (c : Str × Str) => (n, c.2)) ns cs = reN ns cs from rfl, reN_fst hl]; exact hn
  ok := h.ok.reN hl hn hm
  good := fun N M hN => (good3 (good_ws ⟨by decide +kernel, by decide +kernel⟩) ((good_names (n := sz) hm (by have := h.ok.le; omega) hs).up (Nat.le_refl _) hF (Nat.le_refl _)) (h.good N M hN) (by decide)).up (by omega) (by omega) (Nat.le_refl _)
  cn := by
    rw [cnt_tup, cnts_cons, cnts_cons, cnts_cons, cnts_nil, cnt_str, cnt_tup, cnts_strs]
    have := h.cn; have := h.ok.le; omega
theorem pair_ok {szA szB : Nat} {cs es : Cols} (h : ColsOk szA cs) (h2 : ColsOk szB es) {a b kd : Str} (ha : (a, kd) ∈ cs) (hb : (b, kd) ∈ es) : pairB2 cs es (.str a) (.str b) = true := by
  unfold pairB2
  rw [kindOf_mem h ha, kindOf_mem h2 hb]; simp
theorem Drw.join {a b kd : Str} (h : Drw ts sz H F C d cs) (h2 : Drw ts sz2 H2 F2 C2 d2 es) (ha : (a, kd) ∈ cs) (hb : (b, kd) ∈ es) (hn : ((cs ++ es).map (·.1)).Nodup) : Drw ts (sz + sz2) (H + H2 + 30) (max F F2 + 1) (C + C2 + 5) (.tup [.str (Str.ofString "join"), .str a, .str b, d, d2]) (cs ++ es) where
  q := fun n hn' => by
    obtain ⟨n, rfl⟩ : ∃ j, n = j + 1 := ⟨n - 1, by omega⟩
    rw [q_step (by decide)]
    simp only [qStep, if_true, oneC, h.q n (by omega), h2.q n (by omega), pair_ok h.ok h2.ok ha hb]
    unfold unlikeC
    rw [if_pos hn]
  ok := ⟨fun z => h.ok.ne (List.append_eq_nil_iff.mp z).1, by rw [List.length_append]; have := h.ok.le; have := h2.ok.le; omega, hn,
    fun c hc => (by rcases List.mem_append.mp hc with z | z; exact h.ok.nm c z; exact h2.ok.nm c z), fun c hc => (by rcases List.mem_append.mp hc with z | z; exact h.ok.kd c z; exact h2.ok.kd c z)⟩
  good := fun N M hN => (good5 (good_ws ⟨by decide +kernel, by decide +kernel⟩) (good_nm (h.ok.nm _ ha)) (good_nm (h2.ok.nm _ hb)) ((h.good N M hN).up (Nat.le_refl _) (Nat.le_max_left _ _) (Nat.le_refl _)) ((h2.good N M hN).up (Nat.le_refl _) (Nat.le_max_right _ _) (Nat.le_refl _)) (by decide)).up (by omega) (by omega) (Nat.le_refl _)
  cn := by rw [cnt_tup, cnts_cons, cnts_cons, cnts_cons, cnts_cons, cnts_cons, cnts_nil, cnt_str, cnt_str, cnt_str]; have := h.cn; have := h2.cn; omega
theorem Drw.lack {a b kd : Str} (h : Drw ts sz H F C d cs) (h2 : Drw ts sz2 H2 F2 C2 d2 es) (ha : (a, kd) ∈ cs) (hb : (b, kd) ∈ es) : Drw ts (sz + sz2) (H + H2 + 30) (max F F2 + 1) (C + C2 + 5) (.tup [.str (Str.ofString "lacking"), .str a, .str b, d, d2]) cs where
  q := fun n hn' => by
    obtain ⟨n, rfl⟩ : ∃ j, n = j + 1 := ⟨n - 1, by omega⟩
    rw [q_step (by decide)]
    simp only [qStep, show ¬ Str.ofString "lacking" = Str.ofString "join" by decide, if_false, if_true, oneC, h.q n (by omega), h2.q n (by omega), pair_ok h.ok h2.ok ha hb]
  ok := h.ok.up (by omega)
  good := fun N M hN => (good5 (good_ws ⟨by decide +kernel, by decide +kernel⟩) (good_nm (h.ok.nm _ ha)) (good_nm (h2.ok.nm _ hb)) ((h.good N M hN).up (Nat.le_refl _) (Nat.le_max_left _ _) (Nat.le_refl _)) ((h2.good N M hN).up (Nat.le_refl _) (Nat.le_max_right _ _) (Nat.le_refl _)) (by decide)).up (by omega) (by omega) (Nat.le_refl _)
  cn := by rw [cnt_tup, cnts_cons, cnts_cons, cnts_cons, cnts_cons, cnts_cons, cnts_nil, cnt_str, cnt_str, cnt_str]; have := h.cn; have := h2.cn; omega
/-! orders -/
inductive Stq (cs : Cols) : D → Prop
  | mk (a kd w : Str) : (a, kd) ∈ cs → (w = Str.ofString "up" ∨ w = Str.ofString "down") → Stq cs (.tup [.str a, .str w])
theorem order_ok {size : Nat} {cs : Cols} (h : ColsOk size cs) {os : List D} (hs : ∀ o ∈ os, Stq cs o) (hn : (os.map hd2).Nodup) : orderB cs (.tup os) = true := by
  unfold orderB
  rw [Bool.and_eq_true]
  constructor
  · rw [List.all_eq_true]
    intro o ho
    cases hs o ho with
    | mk a kd w _ hw => rcases hw with rfl | rfl <;> rfl
  · have : ∃ es : Cols, os.map hd2 = (es.map (·.1)).map D.str ∧ (∀ c ∈ es, c ∈ cs) := by
      clear hn
      induction os with
      | nil => exact ⟨[], rfl, fun c hc => by cases hc⟩
      | cons o os ih =>
        obtain ⟨es, e1, e2⟩ := ih fun x hx => hs x (List.mem_cons_of_mem _ hx)
        cases hs o List.mem_cons_self with
        | mk a kd w ha _ => exact ⟨(a, kd) :: es, by rw [List.map_cons, e1]; rfl, fun c hc => by
            rcases List.mem_cons.mp hc with z | z
            · rw [z]; exact ha
            · exact e2 c z⟩
    obtain ⟨es, e1, e2⟩ := this
    rw [e1] at hn ⊢
    have nd : (es.map (·.1)).Nodup := by
      rw [List.nodup_iff_pairwise_ne, List.pairwise_map] at hn
      rw [List.nodup_iff_pairwise_ne]
      exact hn.imp fun h e => h (by rw [e])
    rw [named_part h e2 nd]; rfl
theorem Drw.first {i : Int} {os : List D} (h : Drw ts sz H F C d cs) (h1 : 1 ≤ i) (h9 : i ≤ 1000) (hs : ∀ o ∈ os, Stq cs o) (hn : (os.map hd2).Nodup) (hl : os.length ≤ 2) (hF : 2 ≤ F) : Drw ts sz (H + 120) (F + 1) (C + 11) (.tup [.str (Str.ofString "first"), .int i, .tup os, d]) cs where
  q := fun n hn' => by
    obtain ⟨n, rfl⟩ : ∃ j, n = j + 1 := ⟨n - 1, by omega⟩
    rw [q_step (by decide)]
    have hm : manyB (.int i) = true := by
      unfold manyB isNumB
      have a : -(1000000000 : Int) ≤ i := by omega
      have b : i ≤ 1000000000 := by omega
      simp [a, b, h1]
    simp only [qStep, show ¬ Str.ofString "first" = Str.ofString "sums" by decide, if_false, if_true, oneC, h.q n (by omega), hm, order_ok h.ok hs hn, and_self]
  ok := h.ok
  good := fun N M hN => by
    have go : Good N M 50 2 30 (.tup os) := by
      have one : ∀ o ∈ os, Good N M 18 1 30 o := fun o ho => by
        cases hs o ho with
        | mk a kd w ha hw => exact (good2 (c := 30) (b := 0) (good_nm (h.ok.nm _ ha)) (good_ws (b := 0) (by rcases hw with rfl | rfl <;> exact ⟨by decide +kernel, by decide +kernel⟩)) (by decide)).up (by omega) (by omega) (by omega)
      refine good_tup (b := 1) (fun z hz => (one z hz).tri3) ?_ (by omega)
      match os, hl, one with
      | [], _, _ => rw [heavies_nil]; omega
      | [a], _, one => rw [heavies_one]; have := (one a (by simp)).hv; omega
      | [a, b], _, one => rw [heavies_cons, heavies_one]; have := (one a (by simp)).hv; have := (one b (by simp)).hv; omega
      | _ :: _ :: _ :: _, hl, _ => simp at hl
    exact (good4 (good_ws ⟨by decide +kernel, by decide +kernel⟩) (good_int (by omega)) (go.up (Nat.le_refl _) hF (Nat.le_refl _)) (h.good N M hN) (by decide)).up (by omega) (by omega) (Nat.le_refl _)
  cn := by
    have two : ∀ o ∈ os, cnt o = 2 := fun o ho => by
      cases hs o ho with
      | mk a kd w _ _ => rw [cnt_tup, cnts_cons, cnts_cons, cnts_nil, cnt_str, cnt_str]
    have : cnts os ≤ 6 := by
      match os, hl, two with
      | [], _, _ => rw [cnts_nil]; omega
      | [a], _, two => rw [cnts_cons, cnts_nil, two a (by simp)]; omega
      | [a, b], _, two => rw [cnts_cons, cnts_cons, cnts_nil, two a (by simp), two b (by simp)]; omega
      | _ :: _ :: _ :: _, hl, _ => simp at hl
    rw [cnt_tup, cnts_cons, cnts_cons, cnts_cons, cnts_cons, cnts_nil, cnt_str, cnt_int, cnt_tup]
    have := h.cn; omega
end
end K04

set_option autoImplicit false
set_option maxRecDepth 100000
set_option maxHeartbeats 4000000
namespace K04
open PySem L2 DL
section
variable {ts : List (Str × Cols)} {sz H F C : Nat} {d : D} {cs g : Cols}
inductive Smq (cs : Cols) : D → Str × Str → Prop
  | cnt (n : Str) : isNm n = true → Smq cs (.tup [.str n, .str (Str.ofString "count"), .non]) (n, Str.ofString "number")
  | sum (n a : Str) : isNm n = true → (a, Str.ofString "number") ∈ cs → Smq cs (.tup [.str n, .str (Str.ofString "sum"), .str a]) (n, Str.ofString "number")
  | ext (n w a kd : Str) : isNm n = true → (w = Str.ofString "least" ∨ w = Str.ofString "most") → (a, kd) ∈ cs → Smq cs (.tup [.str n, .str w, .str a]) (n, kd)
theorem sumCol_tri {n k : Str} {w c : D} (e : sumKind cs w c = some k) (hn : isNm n = true) : sumCol cs (.tup [.str n, w, c]) = some (n, k) := by
  show (match sumKind cs w c with | some k => if isNm n = true then some (n, k) else none | none => none) = _
  rw [e]
  simp only [hn, if_true]
theorem sumKind_str (s : Str) (c : D) : sumKind cs (.str s) c = if s = Str.ofString "count" ∧ isNon c = true then some (Str.ofString "number") else (match kindOf cs c with
      | some k => if s = Str.ofString "least" ∨ s = Str.ofString "most" ∨ (s = Str.ofString "sum" ∧ k = Str.ofString "number") then some k else none
      | none => none) := rfl
theorem Smq.col {size : Nat} (h : ColsOk size cs) {s : D} {c : Str × Str} (q : Smq cs s c) : sumCol cs s = some c := by
  cases q with
  | cnt n hn => exact sumCol_tri (by rw [sumKind_str, if_pos ⟨rfl, rfl⟩]) hn
  | sum n a hn ha => exact sumCol_tri (by rw [sumKind_str, if_neg (fun z => by cases z.2), kindOf_mem h ha]; exact if_pos (.inr (.inr ⟨rfl, rfl⟩))) hn
  | ext n w a kd hn hw ha => exact sumCol_tri (by rw [sumKind_str, if_neg (fun z => by cases z.2), kindOf_mem h ha]; exact if_pos (by rcases hw with rfl | rfl; exact .inl rfl; exact .inr (.inl rfl))) hn
theorem Smq.kd {size : Nat} (h : ColsOk size cs) {s : D} {c : Str × Str} (q : Smq cs s c) : isNm c.1 = true ∧ Kd c.2 := by
  cases q with
  | cnt n hn => exact ⟨hn, .inl rfl⟩
  | sum n a hn ha => exact ⟨hn, .inl rfl⟩
  | ext n w a kd hn hw ha => exact ⟨hn, h.kd (a, kd) ha⟩
theorem Smq.size {size : Nat} (h : ColsOk size cs) {N : Nat} {M : Mem} {s : D} {c : Str × Str} (q : Smq cs s c) : Good N M 27 1 30 s ∧ K04.cnt s = 3 := by
  cases q with
  | cnt n hn => exact ⟨(good3 (b := 0) (c := 30) (good_nm hn) (good_ws ⟨by decide +kernel, by decide +kernel⟩) (good_non (a := 8)) (by decide)).up (by omega) (by omega) (by omega), by rw [cnt_tup, cnts_cons, cnts_cons, cnts_cons, cnts_nil, cnt_str, cnt_str, cnt_non]⟩
  | sum n a hn ha => exact ⟨(good3 (b := 0) (c := 30) (good_nm hn) (good_ws ⟨by decide +kernel, by decide +kernel⟩) (good_nm (h.nm _ ha)) (by decide)).up (by omega) (by omega) (by omega), by rw [cnt_tup, cnts_cons, cnts_cons, cnts_cons, cnts_nil, cnt_str, cnt_str, cnt_str]⟩
  | ext n w a kd hn hw ha => exact ⟨(good3 (b := 0) (c := 30) (good_nm hn) (good_ws (s := w) (by rcases hw with rfl | rfl <;> exact ⟨by decide +kernel, by decide +kernel⟩)) (good_nm (h.nm _ ha)) (by decide)).up (by omega) (by omega) (by omega), by rw [cnt_tup, cnts_cons, cnts_cons, cnts_cons, cnts_nil, cnt_str, cnt_str, cnt_str]⟩
theorem sumCols_app {s : D} {c : Str × Str} : ∀ {ss : List D} {ms : Cols}, sumCols cs ss = some ms → sumCol cs s = some c → sumCols cs (ss ++ [s]) = some (ms ++ [c])
  | [], ms, h, q => by
    cases h
    show sumCols cs [s] = some [c]
    unfold sumCols
    rw [q]; rfl
  | x :: ss, ms, h, q => by
    unfold sumCols at h
    split at h
    · rename_i c1 m1 h1 h2
      cases h
      show sumCols cs (x :: (ss ++ [s])) = _
      unfold sumCols
      rw [h1, sumCols_app h2 q]; rfl
    · cases h
/-- sums as they are drawn -/
structure Sms (cs g : Cols) (ss : List D) (ms : Cols) : Prop where
  q : sumCols cs ss = some ms
  all : ∀ s ∈ ss, ∃ c, Smq cs s c
  kd : ∀ c ∈ ms, isNm c.1 = true ∧ Kd c.2
  nd : ((g ++ ms).map (·.1)).Nodup
  len : ms.length = ss.length
theorem Sms.add {size : Nat} (h : ColsOk size cs) {ss : List D} {ms : Cols} {s : D} {c : Str × Str} (q : Sms cs g ss ms) (r : Smq cs s c) (hn : c.1 ∉ (g ++ ms).map (·.1)) : Sms cs g (ss ++ [s]) (ms ++ [c]) where
  q := sumCols_app q.q (r.col h)
  all := fun x hx => by
    rcases List.mem_append.mp hx with z | z
    · exact q.all x z
    · rw [List.mem_singleton.mp z]; exact ⟨c, r⟩
  kd := fun x hx => by
    rcases List.mem_append.mp hx with z | z
    · exact q.kd x z
    · rw [List.mem_singleton.mp z]; exact r.kd h
  nd := by
    rw [← List.append_assoc, List.map_append, List.nodup_append]
    exact ⟨q.nd, by simp, fun a ha b hb e => by simp at hb; rw [hb] at e; exact hn (e ▸ ha)⟩
  len := by rw [List.length_append, List.length_append, q.len]; rfl
theorem Drw.sums {ss : List D} {ms : Cols} (h : Drw ts sz H F C d cs) (hg : ∀ c ∈ g, c ∈ cs) (q : Sms cs g ss ms) (lg : g.length ≤ 2) (ne : ss ≠ []) (ls : ss.length ≤ 2) (hF : 2 ≤ F) : Drw ts 4 (H + 120) (F + 1) (C + 15) (.tup [.str (Str.ofString "sums"), .tup ((g.map (·.1)).map D.str), .tup ss, d]) (g ++ ms) where
  q := fun n hn' => by
    obtain ⟨n, rfl⟩ : ∃ j, n = j + 1 := ⟨n - 1, by omega⟩
    rw [q_step (by decide)]
    simp only [qStep, if_true, oneC, h.q n (by omega)]
    unfold sumsC
    have gn : (g.map (·.1)).Nodup := by have := q.nd; rw [List.map_append] at this; exact (List.nodup_append.mp this).1
    rw [named_part h.ok hg gn]
    obtain ⟨x, r, rfl⟩ : ∃ x r, ss = x :: r := by cases ss with | nil => exact absurd rfl ne | cons x r => exact ⟨x, r, rfl⟩
    simp only [q.q]
    unfold unlikeC
    rw [if_pos q.nd]
  ok := ⟨fun z => by have := q.len; rw [(List.append_eq_nil_iff.mp z).2] at this; exact ne (List.length_eq_zero_iff.mp this.symm), by rw [List.length_append, q.len]; omega, q.nd,
    fun c hc => (by rcases List.mem_append.mp hc with z | z; exact h.ok.nm c (hg c z); exact (q.kd c z).1), fun c hc => (by rcases List.mem_append.mp hc with z | z; exact h.ok.kd c (hg c z); exact (q.kd c z).2)⟩
  good := fun N M hN => by
    have go : Good N M 60 2 30 (.tup ss) := by
      have one : ∀ o ∈ ss, Good N M 27 1 30 o := fun o ho => by obtain ⟨c, r⟩ := q.all o ho; exact (r.size h.ok).1
      refine good_tup (b := 1) (fun z hz => (one z hz).tri3) ?_ (by omega)
      clear ne q
      match ss, ls, one with
      | [], _, _ => rw [heavies_nil]; omega
      | [a], _, one => rw [heavies_one]; have := (one a (by simp)).hv; omega
      | [a, b], _, one => rw [heavies_cons, heavies_one]; have := (one a (by simp)).hv; have := (one b (by simp)).hv; omega
      | _ :: _ :: _ :: _, hl, _ => simp at hl
    exact (good4 (good_ws ⟨by decide +kernel, by decide +kernel⟩) ((good_names (n := 2) (fun s hs' => by obtain ⟨c, hc, rfl⟩ := List.mem_map.mp hs'; exact h.ok.nm c (hg c hc)) (by rw [List.length_map]; exact lg) (by decide)).up (Nat.le_refl _) (by omega) (Nat.le_refl _)) (go.up (Nat.le_refl _) hF (Nat.le_refl _)) (h.good N M hN) (by decide)).up (by omega) (by omega) (Nat.le_refl _)
  cn := by
    have three : ∀ o ∈ ss, K04.cnt o = 3 := fun o ho => by obtain ⟨c, r⟩ := q.all o ho; exact (r.size (N := 0) (M := fun _ => none) h.ok).2
    have : cnts ss ≤ 8 := by
      clear ne q
      match ss, ls, three with
      | [], _, _ => rw [cnts_nil]; omega
      | [a], _, two => rw [cnts_cons, cnts_nil, two a (by simp)]; omega
      | [a, b], _, two => rw [cnts_cons, cnts_cons, cnts_nil, two a (by simp), two b (by simp)]; omega
      | _ :: _ :: _ :: _, hl, _ => simp at hl
    rw [cnt_tup, cnts_cons, cnts_cons, cnts_cons, cnts_cons, cnts_nil, cnt_str, cnt_tup, cnts_strs, List.length_map, cnt_tup]
    have := h.cn; omega
end
end K04

set_option autoImplicit false
set_option maxRecDepth 100000
set_option maxHeartbeats 4000000
namespace K04
open PySem L2 DL
section
variable {P : Program} {w : World} {K : PySem.W.Frag} {mg : Str → Option Value} {base : Heap}
theorem fst_cols (cs : Cols) : (cs.map colD).map (fun d => match d with | D.tup [n, _] => n | d => d) = (cs.map (·.1)).map D.str := by
  rw [List.map_map, List.map_map]; rfl
theorem wif_k {wc : WT} {wa wb : WE} {Γ : DL.Env} {M : Mem} {c : Bool} {a b : D} {k : KD} (h1 : ∀ kb : Bool → Mem → Prop, kb c M → wc Γ M kb) (ha : ∀ k : KD, k a M → wa Γ M k) (hb : ∀ k : KD, k b M → wb Γ M k) (h : k (if c = true then a else b) M) : wIf wc wa wb Γ M k := by
  unfold wIf
  refine h1 _ ?_
  cases c
  · exact ff (hb _ h)
  · exact tt (ha _ h)
theorem at_end {α : Type} (xs : List α) (y : α) : atI (xs ++ [y]) (-1) = some y := by
  unfold atI
  rw [ix_last (by simp)]
  simp
theorem smq_of {cs : Cols} {s nm kd w : Str} (hs : isNm s = true) (hc : (nm, kd) ∈ cs) (hw : w ∈ [Str.ofString "count", Str.ofString "sum", Str.ofString "least", Str.ofString "most"]) (hk : w = Str.ofString "sum" → kd = Str.ofString "number") :
    Smq cs (.tup [.str s, .str w, if decide (w = Str.ofString "count") = true then .non else .str nm]) (s, if decide (w ∈ [Str.ofString "least", Str.ofString "most"]) = true then kd else Str.ofString "number") := by
  simp only [List.mem_cons, List.not_mem_nil, or_false] at hw
  rcases hw with rfl | rfl | rfl | rfl
  · rw [if_pos (by decide), if_neg (by decide)]; exact .cnt s hs
  · rw [if_neg (by decide), if_neg (by decide)]
    exact .sum s nm hs (by rw [← hk rfl]; exact hc)
  · rw [if_neg (by decide), if_pos (by decide)]; exact .ext s _ nm kd hs (.inl rfl) hc
  · rw [if_neg (by decide), if_pos (by decide)]; exact .ext s _ nm kd hs (.inr rfl) hc
def F_lsums : FD := fun ds M k => ∃ (h l : Addr) (q x : D) (cs : Cols) (size : Nat), ds = [.cel h, .tup [q, x]] ∧ Hnd M h l ∧ Lat h l M x (cs.map colD) ∧ ColsOk size cs ∧ size ≤ 30 ∧
  ∀ g ss ms M', (∀ c ∈ g, c ∈ cs) → g.length ≤ 2 → Sms cs g ss ms → ss ≠ [] → ss.length ≤ 2 → Hnd M' h l → Ext h l M M' →
    k (.tup [.tup [.str (Str.ofString "sums"), .tup ((g.map (·.1)).map D.str), .tup ss, q], .lst ((g ++ ms).map colD)]) M'
theorem ok_lsums (T : Txt K mg) (B : DD K mg) : DFn P w K mg base 3 B.f_law_sums B.fd_law_sums p_law_sums F_lsums := by
  have G_law_pick : DFn P w K mg base 1 B.f_law_pick B.fd_law_pick p_law_pick F_pick := ok_pick T B.d_law_pick
  have G_law_of : DFn P w K mg base 2 B.f_law_of B.fd_law_of p_law_of F_of2 := ok_of2 T B
  have G_law_fresh : DFn P w K mg base 2 B.f_law_fresh B.fd_law_fresh p_law_fresh F_fresh := ok_fresh T B
  have G_law_some : DFn P w K mg base 2 B.f_law_some B.fd_law_some p_law_some F_some := ok_some T B
  refine Fun.okD B.d_law_sums.F sc_law_sums (fun cdv A outer s H E hr => (dss_cons (ds_asg (dg_tup rfl (dgs_cons (dg_name (i := 2) sc_law_sums.nd) (dgs_cons (dg_name (i := 3) sc_law_sums.nd) dgs_nil)) (gsCons_len (gsCons_len gsNil_len))) (dv 1)) (dss_cons (ds_set (i := 4) sc_law_sums.nd (de_if (dt_cmpA c_gt (de_own B.d_law_pick G_law_pick hr (by first | decide | omega) (da_cons (dv 0) (da_cons de_int da_nil))) de_int) (de_slice (de_own B.d_law_some G_law_some hr (by first | decide | omega) (da_cons (dv 0) (da_cons (dv 3) da_nil))) do_none (do_some de_int)) (de_lst da_nil))) (dss_cons (ds_par3 (i := 5) (j := 6) (l := 7) rfl sc_law_sums.nd (da_cons (de_lstM da_nil) (da_cons (de_lstM da_nil) (da_cons (de_lcM rfl sc_law_sums.nd (di_list (dv 4)) (blkOk_by (own := [("name", 8), ("kind", 9)]) (N := N_law_sums) (sc := defScope s_law_sums) (by decide +kernel)) (fun _ _ _ _ _ => (dg_tup rfl (dgs_cons (dg_name (i := 8) sc_law_sums.nd) (dgs_cons (dg_name (i := 9) sc_law_sums.nd) dgs_nil)) (gsCons_len (gsCons_len gsNil_len)))) (gd_tup (gds_cons gd_name (gds_cons gd_name gds_nil)) (gsCons_len (gsCons_len gsNil_len))) (fun _ _ _ _ _ => dts_nil) (fun _ _ _ _ _ => (dv 8))) da_nil))) rfl rfl rfl (by decide) (by decide) (by decide) rfl rfl rfl (by rfl)) (dss_cons (ds_for rfl (di_range T.b_range (da_cons (de_add de_int (de_own B.d_law_pick G_law_pick hr (by first | decide | omega) (da_cons (dv 0) (da_cons de_int da_nil)))) da_nil)) (dg_name (i := 10) sc_law_sums.nd) (dss_cons (ds_asg (dg_tup rfl (dgs_cons (dg_name (i := 11) sc_law_sums.nd) (dgs_cons (dg_tup rfl (dgs_cons (dg_name (i := 8) sc_law_sums.nd) (dgs_cons (dg_name (i := 9) sc_law_sums.nd) dgs_nil)) (gsCons_len (gsCons_len gsNil_len))) dgs_nil)) (gsCons_len (gsCons_len gsNil_len))) (de_tup (da_cons (de_own B.d_law_of G_law_of hr (by first | decide | omega) (da_cons (dv 0) (da_cons (de_lst (da_cons de_str (da_cons de_str (da_cons de_str (da_cons de_str da_nil))))) da_nil))) (da_cons (de_own B.d_law_of G_law_of hr (by first | decide | omega) (da_cons (dv 0) (da_cons (dv 3) da_nil))) da_nil)))) (dss_cons (ds_set (i := 11) sc_law_sums.nd (de_if (dw_pt (dw_and (dt_cmpA (c_eq hr) (dv 11) de_str) (dw_and1 (dt_cmpA (c_eq hr) (dv 9) de_str)))) de_str (dv 11))) (dss_cons (ds_expr (de_append (dv 7) (de_own B.d_law_fresh G_law_fresh hr (by first | decide | omega) (da_cons (dv 0) (da_cons (dv 7) da_nil))))) (dss_cons (ds_expr (de_append (dv 5) (de_tup (da_cons (de_ix (dv 7) (de_neg de_int)) (da_cons (dv 11) (da_cons (de_if (dt_cmpA (c_eq hr) (dv 11) de_str) de_non (dv 8)) da_nil)))))) (dss_one (ds_expr (de_append (dv 6) (de_tup (da_cons (de_ix (dv 7) (de_neg de_int)) (da_cons (de_if (dt_cmpA c_in (dv 11) (de_tup (da_cons de_str (da_cons de_str da_nil)))) (dv 9) de_str) da_nil))))))))))) (dss_one (ds_ret (de_tup (da_cons (de_tup (da_cons de_str (da_cons (de_tuple T.b_tuple (de_lc rfl sc_law_sums.nd (di_list (dv 4)) (blkOk_by (own := [("name", 8), ("kind", 9)]) (N := N_law_sums) (sc := defScope s_law_sums) (by decide +kernel)) (fun _ _ _ _ _ => (dg_tup rfl (dgs_cons (dg_name (i := 8) sc_law_sums.nd) (dgs_cons (dg_name (i := 9) sc_law_sums.nd) dgs_nil)) (gsCons_len (gsCons_len gsNil_len)))) (gd_tup (gds_cons gd_name (gds_cons gd_name gds_nil)) (gsCons_len (gsCons_len gsNil_len))) (fun _ _ _ _ _ => dts_nil) (fun _ _ _ _ _ => (dv 8)))) (da_cons (de_tuple T.b_tuple (dv 5)) (da_cons (dv 2) da_nil))))) (da_cons (de_add (dv 4) (dv 6)) da_nil)))))))))) (fun ds M k h => ?_)
  obtain ⟨h, l, q, x, cs, size, rfl, hh, hx, hcs, hsz, hk⟩ := h
  (refine ⟨rfl, ?_⟩; rw [show startD N_law_sums [.cel h, .tup [q, x]] = [some (.cel h), some (.tup [q, x]), none, none, none, none, none, none, none, none, none, none] from rfl])
  have cl := hcs.le
  refine seq_step ?_
  simp only [wNext, wBreak, wContinue, wExpr, wRet, wRetN, wSet, wAsg, wPar, wPar3, wSub, wTst, wOp, wChain, wNotT, wAndV, wOrV, wNotV, wIf, wNil, wCons, wTup, wLst, wLstM, wCall, wCall0, wVar, wC, wLc, wLcM, wYes, wiL, wiT, wiS, wiR, wiEnT, wiEnL, wiZip, wSl, woNone, woSome, wMt, wJoin, wGet, wUn, wTru, wDNew, fin, List.getElem?_cons_zero, List.getElem?_cons_succ, List.set_cons_zero, List.set_cons_succ]
  refine seq_join (fun Γ' M' => ∃ g : Cols, (∀ c ∈ g, c ∈ cs) ∧ g.length ≤ 2 ∧ (g.map (·.1)).Nodup ∧ Hnd M' h l ∧ Ext h l M M' ∧ Γ' = [some (.cel h), some (.tup [q, x]), some q, some x, some (.lst (g.map colD)), none, none, none, none, none, none, none]) ?_ ?_
  · rintro Γ M1 ⟨g, g1, g2, g3, h1, e1, rfl⟩
    refine seq_step ?_
    simp only [wNext, wBreak, wContinue, wExpr, wRet, wRetN, wSet, wAsg, wPar, wPar3, wSub, wTst, wOp, wChain, wNotT, wAndV, wOrV, wNotV, wIf, wNil, wCons, wTup, wLst, wLstM, wCall, wCall0, wVar, wC, wLc, wLcM, wYes, wiL, wiT, wiS, wiR, wiEnT, wiEnL, wiZip, wSl, woNone, woSome, wMt, wJoin, wGet, wUn, wTru, wDNew, fin, List.getElem?_cons_zero, List.getElem?_cons_succ, List.set_cons_zero, List.set_cons_succ]
    refine ⟨Nat.zero_le _, fun p hp => ⟨Nat.zero_le _, fun r hr => ?_⟩⟩
    simp only [asR]
    refine lc_map (fun d => match d with | D.tup [n, _] => n | d => d) (G := gAt (.lst (g.map colD)) (g.map colD)) (M := _) rfl _ _ _ (fun d hd => ?_) (z1 (by simp; omega)) ?_
    · obtain ⟨c, hc, rfl⟩ := List.mem_map.mp hd
      exact ⟨_, rfl, fun k' hk' => hk'⟩
    rw [List.nil_append, fst_cols]
    intro t ht
    have h2a : Hnd (setM M1 p (.lst [])) h l := h1.set (fresh_ne h1 hp).1 (fresh_ne h1 hp).2
    have h2b : Hnd (setM (setM M1 p (.lst [])) r (.lst [])) h l := h2a.set (fresh_ne h2a hr).1 (fresh_ne h2a hr).2
    obtain ⟨nph, npl⟩ := fresh_ne h1 hp
    obtain ⟨nrh, nrl⟩ := fresh_ne h2a hr
    obtain ⟨nth, ntl⟩ := fresh_ne h2b ht
    have nrp : r ≠ p := fun z => by rw [z, setM_same] at hr; cases hr
    have ntr : t ≠ r := fun z => by rw [z, setM_same] at ht; cases ht
    have hr1 : M1 r = none := by rw [setM_ne nrp] at hr; exact hr
    have ht1 : setM M1 p (.lst []) t = none := by rw [setM_ne ntr] at ht; exact ht
    have ntp : t ≠ p := fun z => by rw [z, setM_same] at ht1; cases ht1
    have ht2 : M1 t = none := by rw [setM_ne ntp] at ht1; exact ht1
    have p0 : M p = none := e1.none nph npl hp
    have r0 : M r = none := e1.none nrh nrl hr1
    have t0 : M t = none := e1.none nth ntl ht2
    have h2 := h2b.set (c := .lst ((g.map (·.1)).map D.str)) nth ntl
    have e2 : Ext h l M (setM (setM (setM M1 p (.lst [])) r (.lst [])) t (.lst ((g.map (·.1)).map D.str))) := ((e1.new p0).new r0).new t0
    have p2 : setM (setM (setM M1 p (.lst [])) r (.lst [])) t (.lst ((g.map (·.1)).map D.str)) p = some (.lst []) := by rw [setM_ne (Ne.symm ntp), setM_ne (Ne.symm nrp), setM_same]
    have r2 : setM (setM (setM M1 p (.lst [])) r (.lst [])) t (.lst ((g.map (·.1)).map D.str)) r = some (.lst []) := by rw [setM_ne (Ne.symm ntr), setM_same]
    have t2 : setM (setM (setM M1 p (.lst [])) r (.lst [])) t (.lst ((g.map (·.1)).map D.str)) t = some (.lst ((g.map (·.1)).map D.str)) := setM_same
    generalize setM (setM (setM M1 p (.lst [])) r (.lst [])) t (.lst ((g.map (·.1)).map D.str)) = M2 at h2 e2 p2 r2 t2
    clear ht2 ht1 hr1 h2b h2a ht hr hp
    refine seq_step ?_
    unfold wFor
    simp only [wNext, wBreak, wContinue, wExpr, wRet, wRetN, wSet, wAsg, wPar, wPar3, wSub, wTst, wOp, wChain, wNotT, wAndV, wOrV, wNotV, wIf, wNil, wCons, wTup, wLst, wLstM, wCall, wCall0, wVar, wC, wLc, wLcM, wYes, wiL, wiT, wiS, wiR, wiEnT, wiEnL, wiZip, wSl, woNone, woSome, wMt, wJoin, wGet, wUn, wTru, wDNew, fin, List.getElem?_cons_zero, List.getElem?_cons_succ, List.set_cons_zero, List.set_cons_succ]
    refine ⟨h, l, 2, rfl, h2, by decide, by decide, fun j M3 j0 j1 h3 e3 => r_add ⟨⟨by omega, by omega⟩, ?_⟩⟩
    have e23 := e2.trans e3
    refine loop_inv (fun its Γ M' => ∃ ss ms, Hnd M' h l ∧ Ext h l M M' ∧ M' p = some (.lst ss) ∧ M' r = some (.lst (ms.map colD)) ∧ M' t = some (.lst (((g ++ ms).map (·.1)).map D.str)) ∧ Sms cs g ss ms ∧ ss.length + its.length ≤ 2 ∧ 1 ≤ ss.length + its.length ∧ ∃ x8 x9 x10 x11, Γ = [some (.cel h), some (.tup [q, x]), some q, some x, some (.lst (g.map colD)), some (.cel p), some (.cel r), some (.cel t), x8, x9, x10, x11]) (fun _ _ _ _ => trivial) ?_ ?_ _ _ _
      ⟨[], [], h3, e23, e3 p _ nph npl p2, e3 r _ nrh nrl r2, by rw [List.append_nil]; exact e3 t _ nth ntl t2, ⟨rfl, (fun s hs => by cases hs), (fun s hs => by cases hs), by rw [List.append_nil]; exact g3, rfl⟩, by simp [rng]; omega, by simp [rng]; omega, _, _, _, _, rfl⟩
    · rintro Γ M4 ⟨ss, ms, h4, e4, p4, r4, t4, s4, l4, o4, x8, x9, x10, x11, rfl⟩
      simp only [wNext, wSeq, wBreak, wContinue, wExpr, wRet, wRetN, wIfS, wSet, wAsg, wPar, wPar3, wFor, wSub, wTst, wOp, wChain, wNotT, wAndT, wOrT, wAndV, wOrV, wNotV, wIf, wNil, wCons, wTup, wLst, wLstM, wCall, wCall0, wVar, wC, wLc, wLcM, wYes, wiL, wiT, wiS, wiR, wiEnT, wiEnL, wiZip, wSl, woNone, woSome, wMt, wJoin, wGet, wUn, wTru, wDNew, fin, List.getElem?_cons_zero, List.getElem?_cons_succ, List.set_cons_zero, List.set_cons_succ]
      simp only [List.length_nil, Nat.add_zero] at l4 o4
      simp only [asR]
      refine lc_map (fun d => match d with | D.tup [n, _] => n | d => d) (G := gAt (.lst (g.map colD)) (g.map colD)) (M := M4) rfl _ _ _ (fun d hd => ?_) (z1 (by simp; omega)) ?_
      · obtain ⟨c, hc, rfl⟩ := List.mem_map.mp hd
        exact ⟨_, rfl, fun k' hk' => hk'⟩
      rw [List.nil_append, fst_cols]
      refine r_tupL (r_tupC p4 ⟨(show 4 ≤ sizeLine by decide), ?_⟩)
      have ml := s4.len
      refine Lat.add (h := h) (l := l) (.inl rfl) (.inr ⟨r, rfl, nrh, nrl, r4⟩) (z1 (by simp; omega)) ?_
      rw [← List.map_append]
      exact ⟨(show 2 ≤ sizeLine by decide), hk g ss ms M4 g1 g2 s4 (fun z => by rw [z] at o4; simp at o4) l4 h4 e4⟩
    · rintro d its Γ M4 ⟨ss, ms, h4, e4, p4, r4, t4, s4, l4, o4, x8, x9, x10, x11, rfl⟩
      refine ⟨_, rfl, fun k' v1 v2 v3 v4 => ?_⟩
      simp only [List.length_cons] at l4 o4
      have ml := s4.len
      refine seq_step ?_
      simp only [wNext, wBreak, wContinue, wExpr, wRet, wRetN, wSet, wAsg, wPar, wPar3, wSub, wTst, wOp, wChain, wNotT, wAndV, wOrV, wNotV, wIf, wNil, wCons, wTup, wLst, wLstM, wCall, wCall0, wVar, wC, wLc, wLcM, wYes, wiL, wiT, wiS, wiR, wiEnT, wiEnL, wiZip, wSl, woNone, woSome, wMt, wJoin, wGet, wUn, wTru, wDNew, fin, List.getElem?_cons_zero, List.getElem?_cons_succ, List.set_cons_zero, List.set_cons_succ]
      refine ⟨(show 4 ≤ sizeLine by decide), .inl ⟨h, l, _, rfl, h4, .inr ⟨_, .inr rfl, by decide, by decide, fun wd M5 hw h5 e5 => ?_⟩⟩⟩
      have e45 := e4.trans e5
      refine .inr ⟨h, l, _, cs.map colD, rfl, h5, hx.ext e45, by rw [List.length_map]; exact List.length_pos_iff.mpr hcs.ne, by simp; omega, fun d M6 hd h6 e6 => ⟨(show 2 ≤ sizeLine by decide), ?_⟩⟩
      obtain ⟨⟨nm, kd⟩, hc, rfl⟩ := List.mem_map.mp hd
      obtain ⟨w, rfl, hw2⟩ : ∃ w, wd = .str w ∧ w ∈ [Str.ofString "count", Str.ofString "sum", Str.ofString "least", Str.ofString "most"] := by
        simp only [List.mem_cons, List.not_mem_nil, or_false] at hw
        rcases hw with rfl | rfl | rfl | rfl <;> exact ⟨_, rfl, by simp⟩
      have hkd := hcs.kd _ hc
      have p6 := e6 p _ nph npl (e5 p _ nph npl p4)
      have r6 := e6 r _ nrh nrl (e5 r _ nrh nrl r4)
      have t6 := e6 t _ nth ntl (e5 t _ nth ntl t4)
      have e46 := e45.trans e6
      simp only [wNext, wBreak, wContinue, wExpr, wRet, wRetN, wSet, wAsg, wPar, wPar3, wSub, wTst, wOp, wChain, wNotT, wAndV, wOrV, wNotV, wIf, wNil, wCons, wTup, wLst, wLstM, wCall, wCall0, wVar, wC, wLc, wLcM, wYes, wiL, wiT, wiS, wiR, wiEnT, wiEnL, wiZip, wSl, woNone, woSome, wMt, wJoin, wGet, wUn, wTru, wDNew, fin, List.getElem?_cons_zero, List.getElem?_cons_succ, List.set_cons_zero, List.set_cons_succ, gT, gsCons, gN, gsNil, colD]
      refine seq_join (fun Γ' M' => ∃ w', w' ∈ [Str.ofString "count", Str.ofString "sum", Str.ofString "least", Str.ofString "most"] ∧ (w' = Str.ofString "sum" → kd = Str.ofString "number") ∧ M' = M6 ∧ Γ' = [some (.cel h), some (.tup [q, x]), some q, some x, some (.lst (g.map colD)), some (.cel p), some (.cel r), some (.cel t), some (.str nm), some (.str kd), some d, some (.str w')]) ?_ ?_
      rotate_left
      · intro n hn
        simp only [wSet, wIf, List.set_cons_zero, List.set_cons_succ]
        refine and_pure (b1 := decide (w = Str.ofString "sum")) (b2 := decide (kd = Str.ofString "name")) (fun k hk => by simp only [wNext, wSeq, wBreak, wContinue, wExpr, wRet, wRetN, wIfS, wSet, wAsg, wPar, wPar3, wFor, wSub, wTst, wOp, wChain, wNotT, wAndT, wOrT, wAndV, wOrV, wNotV, wIf, wNil, wCons, wTup, wLst, wLstM, wCall, wCall0, wVar, wC, wLc, wLcM, wYes, wiL, wiT, wiS, wiR, wiEnT, wiEnL, wiZip, wSl, woNone, woSome, wMt, wJoin, wGet, wUn, wTru, wDNew, fin, List.getElem?_cons_zero, List.getElem?_cons_succ, List.set_cons_zero, List.set_cons_succ]; exact eq_strA hk) (fun _ k hk => by simp only [wNext, wSeq, wBreak, wContinue, wExpr, wRet, wRetN, wIfS, wSet, wAsg, wPar, wPar3, wFor, wSub, wTst, wOp, wChain, wNotT, wAndT, wOrT, wAndV, wOrV, wNotV, wIf, wNil, wCons, wTup, wLst, wLstM, wCall, wCall0, wVar, wC, wLc, wLcM, wYes, wiL, wiT, wiS, wiR, wiEnT, wiEnL, wiZip, wSl, woNone, woSome, wMt, wJoin, wGet, wUn, wTru, wDNew, fin, List.getElem?_cons_zero, List.getElem?_cons_succ, List.set_cons_zero, List.set_cons_succ]; exact eq_strA hk) (bb (fun c1 => ?_) (fun c1 => ?_))
        · exact hn _ _ ⟨_, by simp, fun z => absurd z (by decide), rfl, rfl⟩
        · simp only [wNext, wSeq, wBreak, wContinue, wExpr, wRet, wRetN, wIfS, wSet, wAsg, wPar, wPar3, wFor, wSub, wTst, wOp, wChain, wNotT, wAndT, wOrT, wAndV, wOrV, wNotV, wIf, wNil, wCons, wTup, wLst, wLstM, wCall, wCall0, wVar, wC, wLc, wLcM, wYes, wiL, wiT, wiS, wiR, wiEnT, wiEnL, wiZip, wSl, woNone, woSome, wMt, wJoin, wGet, wUn, wTru, wDNew, fin, List.getElem?_cons_zero, List.getElem?_cons_succ, List.set_cons_zero, List.set_cons_succ]
          refine hn _ _ ⟨w, hw2, fun z => ?_, rfl, rfl⟩
          subst z
          rcases hkd with z | z
          · exact z
          · subst z; simp at c1
      · rintro Γ' M' ⟨w, hw, hsum, rfl, rfl⟩
        refine seq_step ?_
        simp only [wNext, wBreak, wContinue, wExpr, wRet, wRetN, wSet, wAsg, wPar, wPar3, wSub, wTst, wOp, wChain, wNotT, wAndV, wOrV, wNotV, wIf, wNil, wCons, wTup, wLst, wLstM, wCall, wCall0, wVar, wC, wLc, wLcM, wYes, wiL, wiT, wiS, wiR, wiEnT, wiEnL, wiZip, wSl, woNone, woSome, wMt, wJoin, wGet, wUn, wTru, wDNew, fin, List.getElem?_cons_zero, List.getElem?_cons_succ, List.set_cons_zero, List.set_cons_succ]
        refine ⟨isC t6, ?_⟩
        refine ⟨h, l, _, (g ++ ms).map (·.1), rfl, h6, .inr ⟨t, rfl, nth, ntl, t6⟩, by simp; omega, fun s M7 hs hn h7 e7 => ?_⟩
        have p7 := e7 p _ nph npl p6
        have r7 := e7 r _ nrh nrl r6
        have t7 := e7 t _ nth ntl t6
        have e47 := e46.trans e7
        refine r_app t7 (z2 (by simp; omega)) ?_
        have h8 : Hnd (setM M7 t (.lst (((g ++ ms).map (·.1)).map D.str ++ [.str s]))) h l := h7.set nth ntl
        have e8 : Ext h l M (setM M7 t (.lst (((g ++ ms).map (·.1)).map D.str ++ [.str s]))) := e47.new t0
        have p8 : setM M7 t (.lst (((g ++ ms).map (·.1)).map D.str ++ [.str s])) p = some (.lst ss) := by rw [setM_ne (Ne.symm ntp)]; exact p7
        have r8 : setM M7 t (.lst (((g ++ ms).map (·.1)).map D.str ++ [.str s])) r = some (.lst (ms.map colD)) := by rw [setM_ne (Ne.symm ntr)]; exact r7
        have t8 : setM M7 t (.lst (((g ++ ms).map (·.1)).map D.str ++ [.str s])) t = some (.lst (((g ++ ms).map (·.1)).map D.str ++ [.str s])) := setM_same
        generalize setM M7 t (.lst (((g ++ ms).map (·.1)).map D.str ++ [.str s])) = M8 at h8 e8 p8 r8 t8
        refine seq_step ?_
        simp only [wNext, wBreak, wContinue, wExpr, wRet, wRetN, wSet, wAsg, wPar, wPar3, wSub, wTst, wOp, wChain, wNotT, wAndV, wOrV, wNotV, wNil, wCons, wTup, wLst, wLstM, wCall, wCall0, wVar, wC, wMt, wUn, fin, List.getElem?_cons_zero, List.getElem?_cons_succ, List.set_cons_zero, List.set_cons_succ]
        refine ⟨isC p8, r_U (ix_cel t8 (at_end _ _) ?_)⟩
        refine wif_k (c := decide (w = Str.ofString "count")) (a := .non) (b := .str nm) (fun kb hb => by simp only [wNext, wSeq, wBreak, wContinue, wExpr, wRet, wRetN, wIfS, wSet, wAsg, wPar, wPar3, wFor, wSub, wTst, wOp, wChain, wNotT, wAndT, wOrT, wAndV, wOrV, wNotV, wIf, wNil, wCons, wTup, wLst, wLstM, wCall, wCall0, wVar, wC, wLc, wLcM, wYes, wiL, wiT, wiS, wiR, wiEnT, wiEnL, wiZip, wSl, woNone, woSome, wMt, wJoin, wGet, wUn, wTru, wDNew, fin, List.getElem?_cons_zero, List.getElem?_cons_succ, List.set_cons_zero, List.set_cons_succ]; exact eq_strA hb) (fun k hk => hk) (fun k hk => hk) ⟨(show 3 ≤ sizeLine by decide), r_app p8 (z2 (by omega)) ?_⟩
        have sq := smq_of hs hc hw hsum
        generalize (if decide (w = Str.ofString "count") = true then D.non else D.str nm) = en at sq
        have h9 : Hnd (setM M8 p (.lst (ss ++ [.tup [.str s, .str w, en]]))) h l := h8.set nph npl
        have e9 : Ext h l M (setM M8 p (.lst (ss ++ [.tup [.str s, .str w, en]]))) := e8.new p0
        have p9 : setM M8 p (.lst (ss ++ [.tup [.str s, .str w, en]])) p = some (.lst (ss ++ [.tup [.str s, .str w, en]])) := setM_same
        have r9 : setM M8 p (.lst (ss ++ [.tup [.str s, .str w, en]])) r = some (.lst (ms.map colD)) := by rw [setM_ne nrp]; exact r8
        have t9 : setM M8 p (.lst (ss ++ [.tup [.str s, .str w, en]])) t = some (.lst (((g ++ ms).map (·.1)).map D.str ++ [.str s])) := by rw [setM_ne ntp]; exact t8
        generalize setM M8 p (.lst (ss ++ [.tup [.str s, .str w, en]])) = M9 at h9 e9 p9 r9 t9
        refine ⟨isC r9, r_U (ix_cel t9 (at_end _ _) ?_)⟩
        refine wif_k (c := decide (w ∈ [Str.ofString "least", Str.ofString "most"])) (a := .str kd) (b := .str (Str.ofString "number")) (fun kb hb => by simp only [wNext, wSeq, wBreak, wContinue, wExpr, wRet, wRetN, wIfS, wSet, wAsg, wPar, wPar3, wFor, wSub, wTst, wOp, wChain, wNotT, wAndT, wOrT, wAndV, wOrV, wNotV, wIf, wNil, wCons, wTup, wLst, wLstM, wCall, wCall0, wVar, wC, wLc, wLcM, wYes, wiL, wiT, wiS, wiR, wiEnT, wiEnL, wiZip, wSl, woNone, woSome, wMt, wJoin, wGet, wUn, wTru, wDNew, fin, List.getElem?_cons_zero, List.getElem?_cons_succ, List.set_cons_zero, List.set_cons_succ]; exact ⟨(show 2 ≤ sizeLine by decide), r_inS (l := [Str.ofString "least", Str.ofString "most"]) hb⟩) (fun k hk => hk) (fun k hk => hk) ⟨(show 2 ≤ sizeLine by decide), r_app r9 (z2 (by simp; omega)) ?_⟩
        refine v3 _ _ ⟨ss ++ [.tup [.str s, .str w, en]], ms ++ [(s, if decide (w ∈ [Str.ofString "least", Str.ofString "most"]) = true then kd else Str.ofString "number")], h9.set nrh nrl, e9.new r0, by rw [setM_ne (Ne.symm nrp)]; exact p9, ?_, ?_, s4.add hcs sq hn, by simp; omega, by simp; omega, _, _, _, _, rfl⟩
        · rw [setM_same, List.map_append]
          simp only [List.map_cons, List.map_nil, colD, id]
          split <;> rfl
        · rw [setM_ne ntr, t9]; simp only [List.map_append, List.append_assoc, List.map_cons, List.map_nil]
  · intro n hn
    simp only [wNext, wSeq, wBreak, wContinue, wExpr, wRet, wRetN, wIfS, wSet, wAsg, wPar, wPar3, wFor, wSub, wTst, wOp, wChain, wNotT, wAndT, wOrT, wAndV, wOrV, wNotV, wIf, wNil, wCons, wTup, wLst, wLstM, wCall, wCall0, wVar, wC, wLc, wLcM, wYes, wiL, wiT, wiS, wiR, wiEnT, wiEnL, wiZip, wSl, woNone, woSome, wMt, wJoin, wGet, wUn, wTru, wDNew, fin, List.getElem?_cons_zero, List.getElem?_cons_succ, List.set_cons_zero, List.set_cons_succ]
    refine ⟨h, l, 4, rfl, hh, by decide, by decide, fun j M1 j0 j1 h1 e1 => r_ordI (bb (fun _ => ?_) (fun _ => ?_))⟩
    · refine ⟨h, l, x, cs, rfl, h1, hx.ext e1, hcs.ne, hcs.nd, by omega, fun y es M2 pt hy h2 e2 => ?_⟩
      refine hy.cut ?_
      rw [show (some 2 : Option Int) = some ((2 : Nat) : Int) from rfl, cut_take, ← List.map_take]
      refine hn _ _ ⟨es.take 2, fun c hc => pt.sub c (List.mem_of_mem_take hc), by rw [List.length_take]; omega, ?_, h2, e1.trans e2, rfl⟩
      rw [List.map_take]
      exact (List.take_sublist 2 _).nodup pt.nd
    · exact ⟨by decide, hn _ _ ⟨[], (fun c hc => by cases hc), by decide, by simp, h1, e1, rfl⟩⟩
end
end K04

set_option autoImplicit false
set_option maxRecDepth 100000
set_option maxHeartbeats 4000000
namespace K04
open PySem L2 DL
section
variable {P : Program} {w : World} {K : PySem.W.Frag} {mg : Str → Option Value} {base : Heap}
theorem eq_nilC {f : Bool → Bool} {a : Addr} {ds : List D} {M : Mem} {k : KD} (e : M a = some (.lst ds)) (h : cleans ds = true) (hd : deeps ds ≤ 63) (hk : k (.bl (f ds.isEmpty)) M) : rdEq f (.cel a) (.lst []) M k := by
  have g := eq_nil (f := f) (M := M) (k := k) h hd hk
  have e1 : toPC M (.cel a) = toPC M (.lst ds) := by
    show (match M a with | some (.lst ds) => (match toPs M ds with | some ps => some (PyData.list ps) | none => none) | _ => none) = toP M (.lst ds)
    rw [e]
    unfold toP
    rfl
  show rdEqP f (.cel a) (.lst []) M k
  unfold rdEqP
  rw [e1]
  exact g
def pr2 (c : Str × Str) : D := .tup [.str c.1, .str c.2]
theorem cl_pr2 {l : List (Str × Str)} (h : ∀ c ∈ l, isNm c.1 = true ∧ isNm c.2 = true) : cleans (l.map pr2) = true ∧ deeps (l.map pr2) ≤ 63 := by
  refine ⟨cleans_mem fun d hd => ?_, Nat.le_trans (deeps_mem (n := 1) fun d hd => ?_) (by decide)⟩
  · obtain ⟨c, hc, rfl⟩ := List.mem_map.mp hd
    obtain ⟨a, b⟩ := h c hc
    unfold pr2 clean cleans cleans cleans clean
    rw [ok_nm a, ok_nm b]; rfl
  · obtain ⟨c, hc, rfl⟩ := List.mem_map.mp hd
    unfold pr2 deep deeps deeps deeps deep
    decide
def F_two : FD := fun ds M k => ∃ (h l : Addr) (wd : Str) (q x r y : D) (cs es : Cols) (size : Nat), ds = [.cel h, .str wd, .tup [q, x], .tup [r, y]] ∧ Hnd M h l ∧ Lat h l M x (cs.map colD) ∧ Lat h l M y (es.map colD) ∧ ColsOk size cs ∧ ColsOk size es ∧ size ≤ 30 ∧
  (∀ M', Hnd M' h l → Ext h l M M' → k (.tup [q, x]) M') ∧
  ∀ a b kd z M', (a, kd) ∈ cs → (b, kd) ∈ es → (if wd = Str.ofString "join" then z = .lst ((cs ++ es).map colD) else z = x) → Hnd M' h l → Ext h l M M' →
    k (.tup [.tup [.str wd, .str a, .str b, q, r], z]) M'
theorem ok_two (T : Txt K mg) (B : DD K mg) : DFn P w K mg base 3 B.f_law_two B.fd_law_two p_law_two F_two := by
  have G_law_of : DFn P w K mg base 2 B.f_law_of B.fd_law_of p_law_of F_of2 := ok_of2 T B
  have G_law_named : DFn P w K mg base 1 B.f_law_named B.fd_law_named p_law_named F_named := ok_named T B
  refine Fun.okD B.d_law_two.F sc_law_two (fun cdv A outer s H E hr => (dss_cons (ds_set (i := 4) sc_law_two.nd (de_lstM da_nil)) (dss_cons (ds_for rfl (di_list (de_ix (dv 2) de_int)) (dg_tup rfl (dgs_cons (dg_name (i := 5) sc_law_two.nd) (dgs_cons (dg_name (i := 6) sc_law_two.nd) dgs_nil)) (gsCons_len (gsCons_len gsNil_len))) (dss_one (ds_expr (de_extend (dv 4) (de_lc rfl sc_law_two.nd (di_list (de_own B.d_law_named G_law_named hr (by first | decide | omega) (da_cons (de_ix (dv 3) de_int) (da_cons (dv 6) da_nil)))) (blkOk_by (own := [("other", 7)]) (N := N_law_two) (sc := defScope s_law_two) (by decide +kernel)) (fun _ _ _ _ _ => (dg_name (i := 7) sc_law_two.nd)) gd_name (fun _ _ _ _ _ => dts_nil) (fun _ _ _ _ _ => (de_tup (da_cons (dv 5) (da_cons (dv 7) da_nil))))))))) (dss_cons (ds_if (dt_cmpA (c_eq hr) (dv 4) (de_lst da_nil)) (dss_one (ds_ret (dv 2))) dss_nil) (dss_cons (ds_asg (dg_tup rfl (dgs_cons (dg_name (i := 8) sc_law_two.nd) (dgs_cons (dg_name (i := 9) sc_law_two.nd) dgs_nil)) (gsCons_len (gsCons_len gsNil_len))) (de_own B.d_law_of G_law_of hr (by first | decide | omega) (da_cons (dv 0) (da_cons (dv 4) da_nil)))) (dss_one (ds_ret (de_tup (da_cons (de_tup (da_cons (dv 1) (da_cons (dv 8) (da_cons (dv 9) (da_cons (de_ix (dv 2) de_int) (da_cons (de_ix (dv 3) de_int) da_nil)))))) (da_cons (de_if (dt_cmpA (c_eq hr) (dv 1) de_str) (de_add (de_ix (dv 2) de_int) (de_ix (dv 3) de_int)) (de_ix (dv 2) de_int)) da_nil)))))))))) (fun ds M k h => ?_)
  obtain ⟨h, l, wd, q, x, r, y, cs, es, size, rfl, hh, hx, hy, hcs, hes, hsz, hk1, hk2⟩ := h
  (refine ⟨rfl, ?_⟩; rw [show startD N_law_two [.cel h, .str wd, .tup [q, x], .tup [r, y]] = [some (.cel h), some (.str wd), some (.tup [q, x]), some (.tup [r, y]), none, none, none, none, none, none] from rfl])
  have cl := hcs.le
  have el := hes.le
  refine seq_step ?_
  simp only [wNext, wBreak, wContinue, wExpr, wRet, wRetN, wSet, wAsg, wPar, wPar3, wSub, wTst, wOp, wChain, wNotT, wAndV, wOrV, wNotV, wIf, wNil, wCons, wTup, wLst, wLstM, wCall, wCall0, wVar, wC, wLc, wLcM, wYes, wiL, wiT, wiS, wiR, wiEnT, wiEnL, wiZip, wSl, woNone, woSome, wMt, wJoin, wGet, wUn, wTru, wDNew, fin, List.getElem?_cons_zero, List.getElem?_cons_succ, List.set_cons_zero, List.set_cons_succ]
  refine ⟨Nat.zero_le _, fun p hp => ?_⟩
  obtain ⟨nph, npl⟩ := fresh_ne hh hp
  have h1 : Hnd (setM M p (.lst [])) h l := hh.set nph npl
  have e1 : Ext h l M (setM M p (.lst [])) := (Ext.refl h l M).new hp
  have p1 : setM M p (.lst []) p = some (.lst []) := setM_same
  generalize setM M p (.lst []) = M1 at h1 e1 p1
  refine seq_step ?_
  unfold wFor
  simp only [wNext, wBreak, wContinue, wExpr, wRet, wRetN, wSet, wAsg, wPar, wPar3, wSub, wTst, wOp, wChain, wNotT, wAndV, wOrV, wNotV, wIf, wNil, wCons, wTup, wLst, wLstM, wCall, wCall0, wVar, wC, wLc, wLcM, wYes, wiL, wiT, wiS, wiR, wiEnT, wiEnL, wiZip, wSl, woNone, woSome, wMt, wJoin, wGet, wUn, wTru, wDNew, fin, List.getElem?_cons_zero, List.getElem?_cons_succ, List.set_cons_zero, List.set_cons_succ]
  refine ix_tup (at1 _ _ _) ?_
  rw [(hx.ext e1).asR]
  refine loop_inv (fun its Γ M' => ∃ (ps : List (Str × Str)) (rest : Cols), its = rest.map colD ∧ (∀ c ∈ rest, c ∈ cs) ∧ Hnd M' h l ∧ Ext h l M M' ∧ M' p = some (.lst (ps.map pr2)) ∧ (∀ c ∈ ps, ∃ kd, (c.1, kd) ∈ cs ∧ (c.2, kd) ∈ es) ∧ ps.length + 30 * rest.length ≤ 900 ∧ ∃ x5 x6 x7 x8 x9, Γ = [some (.cel h), some (.str wd), some (.tup [q, x]), some (.tup [r, y]), some (.cel p), x5, x6, x7, x8, x9]) (fun its Γ M' z => by obtain ⟨_, _, _, _, _, e, _⟩ := z; exact (hx.ext e).asR) ?_ ?_ _ _ _
    ⟨[], cs, rfl, fun c hc => hc, h1, e1, p1, (fun c hc => by cases hc), by simp; omega, _, _, _, _, _, rfl⟩
  · rintro Γ M4 ⟨ps, rest, er, _, h4, e4, p4, s4, l4, x5, x6, x7, x8, x9, rfl⟩
    have pl : ps.length ≤ 900 := by omega
    refine seq_step ?_
    simp only [wNext, wSeq, wBreak, wContinue, wExpr, wRet, wRetN, wIfS, wSet, wAsg, wPar, wPar3, wFor, wSub, wTst, wOp, wChain, wNotT, wAndT, wOrT, wAndV, wOrV, wNotV, wIf, wNil, wCons, wTup, wLst, wLstM, wCall, wCall0, wVar, wC, wLc, wLcM, wYes, wiL, wiT, wiS, wiR, wiEnT, wiEnL, wiZip, wSl, woNone, woSome, wMt, wJoin, wGet, wUn, wTru, wDNew, fin, List.getElem?_cons_zero, List.getElem?_cons_succ, List.set_cons_zero, List.set_cons_succ]
    have nm : ∀ c ∈ ps, isNm c.1 = true ∧ isNm c.2 = true := fun c hc => by obtain ⟨kd, a, b⟩ := s4 c hc; exact ⟨hcs.nm (c.1, kd) a, hes.nm (c.2, kd) b⟩
    refine ⟨Nat.zero_le _, eq_nilC p4 (cl_pr2 nm).1 (cl_pr2 nm).2 ?_⟩
    refine bb (b := (ps.map pr2).isEmpty) (fun _ => hk1 M4 h4 e4) (fun ne => ?_)
    have pos : 0 < ps.length := by
      cases ps with
      | nil => simp at ne
      | cons c r => simp
    refine .inr ⟨h, l, _, ps.map pr2, rfl, h4, .inr ⟨p, rfl, nph, npl, p4⟩, by rw [List.length_map]; exact pos, by rw [List.length_map]; omega, fun d M5 hd h5 e5 => ?_⟩
    obtain ⟨⟨a, b⟩, hc, rfl⟩ := List.mem_map.mp hd
    obtain ⟨kd, ha, hb⟩ := s4 _ hc
    simp only [pr2, gT, gsCons, gN, gsNil, wNext, wSeq, wBreak, wContinue, wExpr, wRet, wRetN, wIfS, wSet, wAsg, wPar, wPar3, wFor, wSub, wTst, wOp, wChain, wNotT, wAndT, wOrT, wAndV, wOrV, wNotV, wIf, wNil, wCons, wTup, wLst, wLstM, wCall, wCall0, wVar, wC, wLc, wLcM, wYes, wiL, wiT, wiS, wiR, wiEnT, wiEnL, wiZip, wSl, woNone, woSome, wMt, wJoin, wGet, wUn, wTru, wDNew, fin, List.getElem?_cons_zero, List.getElem?_cons_succ, List.set_cons_zero, List.set_cons_succ]
    have e45 := e4.trans e5
    refine ix_tup (at0 _ _) (ix_tup (at0 _ _) ⟨(show 5 ≤ sizeLine by decide), eq_strA (bb (fun c1 => ?_) (fun c1 => ?_))⟩)
    · refine ix_tup (at1 _ _ _) (ix_tup (at1 _ _ _) ((hx.ext e45).add (hy.ext e45) (z1 (by simp; omega)) ⟨(show 2 ≤ sizeLine by decide), ?_⟩))
      rw [← List.map_append]
      exact hk2 a b kd _ M5 ha hb (by rw [if_pos (of_decide_eq_true c1)]) h5 e45
    · exact ix_tup (at1 _ _ _) ⟨(show 2 ≤ sizeLine by decide), hk2 a b kd _ M5 ha hb (by rw [if_neg (of_decide_eq_false c1)]) h5 e45⟩
  · rintro d its Γ M4 ⟨ps, rest, er, sub, h4, e4, p4, s4, l4, x5, x6, x7, x8, x9, rfl⟩
    cases rest with
    | nil => cases er
    | cons c rest =>
      rw [List.map_cons] at er
      injection er with er1 er2
      subst er1 er2
      refine ⟨_, rfl, fun k' v1 v2 v3 v4 => ?_⟩
      simp only [List.length_cons] at l4
      simp only [wNext, wSeq, wBreak, wContinue, wExpr, wRet, wRetN, wIfS, wSet, wAsg, wPar, wPar3, wFor, wSub, wTst, wOp, wChain, wNotT, wAndT, wOrT, wAndV, wOrV, wNotV, wIf, wNil, wCons, wTup, wLst, wLstM, wCall, wCall0, wVar, wC, wLc, wLcM, wYes, wiL, wiT, wiS, wiR, wiEnT, wiEnL, wiZip, wSl, woNone, woSome, wMt, wJoin, wGet, wUn, wTru, wDNew, fin, List.getElem?_cons_zero, List.getElem?_cons_succ, List.set_cons_zero, List.set_cons_succ]
      refine ⟨isC p4, ix_tup (at1 _ _ _) ?_⟩
      refine ⟨y, es, c.2, rfl, (hy.ext e4).asR, by omega, ?_⟩
      have fl := List.length_filter_le (fun e : Str × Str => decide (e.2 = c.2)) es
      have fm : ∀ b ∈ (es.filter fun e => decide (e.2 = c.2)).map (·.1), (b, c.2) ∈ es := fun b hb => by
        obtain ⟨e, he, rfl⟩ := List.mem_map.mp hb
        obtain ⟨y1, y2⟩ := List.mem_filter.mp he
        rw [← of_decide_eq_true y2]; exact y1
      have fl2 : ((es.filter fun e => decide (e.2 = c.2)).map (·.1)).length ≤ 30 := by rw [List.length_map]; omega
      generalize (es.filter fun e => decide (e.2 = c.2)).map (·.1) = bs at fm fl2
      simp only [asR]
      refine lc_map (fun d => .tup [.str c.1, d]) (G := gAt (.lst (bs.map D.str)) (bs.map D.str)) (M := M4) rfl _ _ _ (fun d hd => ⟨_, rfl, fun k2 hk2 => ⟨(show 2 ≤ sizeLine by decide), hk2⟩⟩) (z1 (by simp; omega)) ?_
      rw [List.nil_append]
      have eb : (bs.map D.str).map (fun d => D.tup [.str c.1, d]) = (bs.map fun b => (c.1, b)).map pr2 := by
        rw [List.map_map, List.map_map]; rfl
      rw [eb]
      refine r_ext p4 rfl (z1 (by simp; omega)) ?_
      refine v3 _ _ ⟨ps ++ bs.map fun b => (c.1, b), rest, rfl, fun e he => sub e (List.mem_cons_of_mem _ he), h4.set nph npl, e4.new hp, by rw [setM_same, List.map_append], ?_, by simp; omega, _, _, _, _, _, rfl⟩
      intro e he
      rcases List.mem_append.mp he with z | z
      · exact s4 e z
      · obtain ⟨b, hb, rfl⟩ := List.mem_map.mp z
        exact ⟨c.2, sub c List.mem_cons_self, fm b hb⟩
def F_lfirst : FD := fun ds M k => ∃ (h l : Addr) (q x : D) (cs : Cols) (size : Nat), ds = [.cel h, .tup [q, x]] ∧ Hnd M h l ∧ Lat h l M x (cs.map colD) ∧ ColsOk size cs ∧ size ≤ 30 ∧
  ∀ i os M', 1 ≤ i → i ≤ 1000 → (∀ o ∈ os, Stq cs o) → (os.map hd2).Nodup → os.length ≤ 2 → Hnd M' h l → Ext h l M M' → k (.tup [.tup [.str (Str.ofString "first"), .int i, .tup os, q], x]) M'
theorem ok_lfirst (T : Txt K mg) (B : DD K mg) : DFn P w K mg base 3 B.f_law_first B.fd_law_first p_law_first F_lfirst := by
  have G_law_pick : DFn P w K mg base 1 B.f_law_pick B.fd_law_pick p_law_pick F_pick := ok_pick T B.d_law_pick
  have G_law_of : DFn P w K mg base 2 B.f_law_of B.fd_law_of p_law_of F_of2 := ok_of2 T B
  have G_law_some : DFn P w K mg base 2 B.f_law_some B.fd_law_some p_law_some F_some := ok_some T B
  refine Fun.okD B.d_law_first.F sc_law_first (fun cdv A outer s H E hr => (dss_cons (ds_setLc (i := 2) rfl sc_law_first.nd (di_list (de_own B.d_law_some G_law_some hr (by first | decide | omega) (da_cons (dv 0) (da_cons (de_ix (dv 1) de_int) da_nil)))) (blkOk_by (own := [("name", 3), ("kind", 4)]) (N := N_law_first) (sc := defScope s_law_first) (by decide +kernel)) (fun _ _ _ _ _ => (dg_tup rfl (dgs_cons (dg_name (i := 3) sc_law_first.nd) (dgs_cons (dg_name (i := 4) sc_law_first.nd) dgs_nil)) (gsCons_len (gsCons_len gsNil_len)))) (gd_tup (gds_cons gd_name (gds_cons gd_name gds_nil)) (gsCons_len (gsCons_len gsNil_len))) (fun _ _ _ _ _ => dts_nil) (fun _ _ _ _ _ => (de_tup (da_cons (dv 3) (da_cons (de_own B.d_law_of G_law_of hr (by first | decide | omega) (da_cons (dv 0) (da_cons (de_lst (da_cons de_str (da_cons de_str da_nil))) da_nil))) da_nil)))) (sw_true rfl rfl rfl (by decide +kernel))) (dss_one (ds_ret (de_tup (da_cons (de_tup (da_cons de_str (da_cons (de_own B.d_law_of G_law_of hr (by first | decide | omega) (da_cons (dv 0) (da_cons (de_lst (da_cons de_int (da_cons de_int (da_cons de_int (da_cons de_int da_nil))))) da_nil))) (da_cons (de_tuple T.b_tuple (de_slice (dv 2) do_none (do_some (de_own B.d_law_pick G_law_pick hr (by first | decide | omega) (da_cons (dv 0) (da_cons de_int da_nil)))))) (da_cons (de_ix (dv 1) de_int) da_nil))))) (da_cons (de_ix (dv 1) de_int) da_nil))))))) (fun ds M k h => ?_)
  obtain ⟨h, l, q, x, cs, size, rfl, hh, hx, hcs, hsz, hk⟩ := h
  (refine ⟨rfl, ?_⟩; rw [show startD N_law_first [.cel h, .tup [q, x]] = [some (.cel h), some (.tup [q, x]), none, none, none] from rfl])
  have cl := hcs.le
  simp only [wNext, wSeq, wBreak, wContinue, wExpr, wRet, wRetN, wIfS, wSet, wAsg, wPar, wPar3, wFor, wSub, wTst, wOp, wChain, wNotT, wAndT, wOrT, wAndV, wOrV, wNotV, wIf, wNil, wCons, wTup, wLst, wLstM, wCall, wCall0, wVar, wC, wLc, wLcM, wYes, wiL, wiT, wiS, wiR, wiEnT, wiEnL, wiZip, wSl, woNone, woSome, wMt, wJoin, wGet, wUn, wTru, wDNew, fin, List.getElem?_cons_zero, List.getElem?_cons_succ, List.set_cons_zero, List.set_cons_succ]
  refine ix_tup (at1 _ _ _) ⟨h, l, x, cs, rfl, hh, hx, hcs.ne, hcs.nd, by omega, fun y es M1 pt hy h1 e1 => ?_⟩
  simp only [hy.asR]
  have ptl := pt.le
  refine lc_inv (fun its acc M' => ∃ rest : Cols, its = rest.map colD ∧ (∀ c ∈ rest, c ∈ es) ∧ Hnd M' h l ∧ Ext h l M1 M' ∧ (∀ o ∈ acc, Stq cs o) ∧ (acc.map hd2 ++ (rest.map (·.1)).map D.str).Nodup ∧ acc.length + rest.length ≤ 30) (fun its acc M' z => by obtain ⟨_, _, _, _, e, _⟩ := z; exact (hy.ext e).asR) ?_ ?_ (fun its acc M' z => by obtain ⟨rest, rfl, _, _, _, _, _, z⟩ := z; exact z1 (by simp; omega)) _ _ _
    ⟨es, rfl, fun c hc => hc, h1, Ext.refl _ _ _, (fun o ho => by cases ho), ?_, by simp; omega⟩
  · rintro os M2 ⟨rest, _, _, h2, e2, s2, n2, l2⟩
    refine ⟨(show 4 ≤ sizeLine by decide), .inl ⟨h, l, _, rfl, h2, .inr ⟨_, .inr rfl, by simp, by simp, fun d M3 hd h3 e3 => ?_⟩⟩⟩
    obtain ⟨i, rfl, i1, i2⟩ : ∃ i : Int, d = .int i ∧ 1 ≤ i ∧ i ≤ 1000 := by
      simp only [List.mem_cons, List.not_mem_nil, or_false] at hd
      rcases hd with rfl | rfl | rfl | rfl <;> exact ⟨_, rfl, by decide, by decide⟩
    refine ⟨h, l, 3, rfl, h3, by decide, by decide, fun j M4 j0 j1 h4 e4 => ?_⟩
    obtain ⟨n, rfl⟩ : ∃ n : Nat, j = (n : Int) := ⟨j.toNat, by omega⟩
    refine r_slL (r_tupL (ix_tup (at0 _ _) ⟨(show 4 ≤ sizeLine by decide), ix_tup (at1 _ _ _) ⟨(show 2 ≤ sizeLine by decide), ?_⟩⟩))
    rw [cut_take]
    refine hk i _ M4 i1 i2 (fun o ho => s2 o (List.mem_of_mem_take ho)) ?_ (by rw [List.length_take]; omega) h4 (((e1.trans e2).trans e3).trans e4)
    rw [List.map_take]
    exact (List.take_sublist _ _).nodup (List.nodup_append.mp n2).1
  · rintro d its acc M2 ⟨rest, er, sub, h2, e2, s2, n2, l2⟩
    cases rest with
    | nil => cases er
    | cons c rest =>
      rw [List.map_cons] at er
      injection er with er1 er2
      subst er1 er2
      refine ⟨_, rfl, fun ky kn k1 k2 => ?_⟩
      simp only [wNext, wSeq, wBreak, wContinue, wExpr, wRet, wRetN, wIfS, wSet, wAsg, wPar, wPar3, wFor, wSub, wTst, wOp, wChain, wNotT, wAndT, wOrT, wAndV, wOrV, wNotV, wIf, wNil, wCons, wTup, wLst, wLstM, wCall, wCall0, wVar, wC, wLc, wLcM, wYes, wiL, wiT, wiS, wiR, wiEnT, wiEnL, wiZip, wSl, woNone, woSome, wMt, wJoin, wGet, wUn, wTru, wDNew, fin, List.getElem?_cons_zero, List.getElem?_cons_succ, List.set_cons_zero, List.set_cons_succ, wipeD, List.map, if_true]
      refine ⟨(show 2 ≤ sizeLine by decide), .inl ⟨h, l, _, rfl, h2, .inr ⟨_, .inr rfl, by simp, by simp, fun d M3 hd h3 e3 => ⟨(show 2 ≤ sizeLine by decide), ?_⟩⟩⟩⟩
      obtain ⟨w', rfl, hw⟩ : ∃ w', d = .str w' ∧ (w' = Str.ofString "up" ∨ w' = Str.ofString "down") := by
        simp only [List.mem_cons, List.not_mem_nil, or_false] at hd
        rcases hd with rfl | rfl <;> exact ⟨_, rfl, by simp⟩
      refine k1 _ _ (z2 (by simp at l2; omega)) ⟨rest, rfl, fun e he => sub e (List.mem_cons_of_mem _ he), h3, e2.trans e3, fun o ho => ?_, ?_, by simp at l2 ⊢; omega⟩
      · rcases List.mem_append.mp ho with z | z
        · exact s2 o z
        · rw [List.mem_singleton.mp z]; exact .mk c.1 c.2 w' (pt.sub c (sub c List.mem_cons_self)) hw
      · rw [List.map_append]
        simp only [List.map_cons, List.map_nil, hd2, List.append_assoc, List.cons_append, List.nil_append] at n2 ⊢
        exact n2
  · rw [List.map_nil, List.nil_append]
    have nd := pt.nd
    rw [List.nodup_iff_pairwise_ne] at nd ⊢
    rw [List.pairwise_map]
    exact nd.imp fun h e => h (by cases e; rfl)
end
end K04

set_option autoImplicit false
set_option maxRecDepth 100000
set_option maxHeartbeats 4000000
namespace K04
open PySem L2 DL
section
variable {P : Program} {w : World} {K : PySem.W.Frag} {mg : Str → Option Value} {base : Heap}
theorem cl_strsL (l : List Str) (h : ∀ s ∈ l, PyData.strOk s = true) : cleans (l.map D.str) = true ∧ deeps (l.map D.str) ≤ 63 := by
  refine ⟨cleans_mem fun d hd => ?_, Nat.le_trans (deeps_mem (n := 0) fun d hd => ?_) (by decide)⟩ <;> (obtain ⟨s, hs, rfl⟩ := List.mem_map.mp hd)
  · unfold clean; exact h s hs
  · unfold deep; exact Nat.le_refl _
/-- a question drawn with so many forms left -/
def Dl (ts : List (Str × Cols)) (l : Nat) (d : D) (cs : Cols) : Prop := Drw ts (4 * l) (1000 * l - 500) (2 * l + 3) (80 * l - 40) d cs
def F_question (n : Nat) : FD := fun ds M k => ∃ (h l : Addr) (ts : List (Str × Cols)) (left : Nat), ds = [.cel h, .tup (ts.map tabD), .int ((left : Nat) : Int)] ∧ Hnd M h l ∧ PlanOk 4 ts ∧ 1 ≤ left ∧ left ≤ n ∧ left ≤ 6 ∧
  ∀ d x cs M', Dl ts left d cs → Lat h l M' x (cs.map colD) → Hnd M' h l → Ext h l M M' → k (.tup [d, x]) M'
theorem ok_question (T : Txt K mg) (B : DD K mg) : ∀ n, DFn P w K mg base (11 + n) B.f_law_question B.fd_law_question p_law_question (F_question n)
  | 0 => DFn.weak DFn.none fun ds M k ⟨h, l, ts, left, _, _, _, h1, h2, _⟩ => by omega
  | n + 1 => by
    have G_law_pick : DFn P w K mg base 1 B.f_law_pick B.fd_law_pick p_law_pick F_pick := ok_pick T B.d_law_pick
    have G_law_of : DFn P w K mg base 2 B.f_law_of B.fd_law_of p_law_of F_of2 := ok_of2 T B
    have G_law_some : DFn P w K mg base 2 B.f_law_some B.fd_law_some p_law_some F_some := ok_some T B
    have G_law_called : DFn P w K mg base 3 B.f_law_called B.fd_law_called p_law_called F_called := ok_called T B
    have G_law_sums : DFn P w K mg base 3 B.f_law_sums B.fd_law_sums p_law_sums F_lsums := ok_lsums T B
    have G_law_first : DFn P w K mg base 3 B.f_law_first B.fd_law_first p_law_first F_lfirst := ok_lfirst T B
    have G_law_two : DFn P w K mg base 3 B.f_law_two B.fd_law_two p_law_two F_two := ok_two T B
    have G_law_check : DFn P w K mg base 7 B.f_law_check B.fd_law_check p_law_check (F_check 3) := ok_check T B 3
    have G_law_question : DFn P w K mg base (11 + n) B.f_law_question B.fd_law_question p_law_question (F_question n) := ok_question T B n
    refine Fun.okD (k := 11 + n) B.d_law_question.F sc_law_question (fun cdv A outer s H E hr => (dss_cons (ds_set (i := 3) sc_law_question.nd (de_own B.d_law_pick G_law_pick hr (by first | decide | omega) (da_cons (dv 0) (da_cons de_int da_nil)))) (dss_cons (ds_if (dw_pt (dw_or (dt_cmpA c_lt (dv 2) de_int) (dw_or1 (dt_cmpA (c_eq hr) (dv 3) de_int)))) (dss_cons (ds_asg (dg_tup rfl (dgs_cons (dg_name (i := 4) sc_law_question.nd) (dgs_cons (dg_name (i := 5) sc_law_question.nd) dgs_nil)) (gsCons_len (gsCons_len gsNil_len))) (de_own B.d_law_of G_law_of hr (by first | decide | omega) (da_cons (dv 0) (da_cons (dv 1) da_nil)))) (dss_one (ds_ret (de_tup (da_cons (de_tup (da_cons de_str (da_cons (dv 4) da_nil))) (da_cons (de_list T.b_list (dv 5)) da_nil)))))) dss_nil) (dss_cons (ds_if (dt_cmpA c_in (dv 3) (de_tup (da_cons de_int (da_cons de_int da_nil)))) (dss_cons (ds_par (i := 6) (j := 7) rfl sc_law_question.nd (da_cons (de_own B.d_law_question G_law_question hr (by first | decide | omega) (da_cons (dv 0) (da_cons (dv 1) (da_cons (de_div (dv 2) de_int) da_nil)))) (da_cons (de_own B.d_law_question G_law_question hr (by first | decide | omega) (da_cons (dv 0) (da_cons (dv 1) (da_cons (de_div (dv 2) de_int) da_nil)))) da_nil)) rfl rfl (by decide) rfl rfl (by rfl)) (dss_cons (ds_set (i := 8) sc_law_question.nd (de_lc rfl sc_law_question.nd (di_list (de_ix (dv 6) de_int)) (blkOk_by (own := [("name", 9), ("kind", 10)]) (N := N_law_question) (sc := defScope s_law_question) (by decide +kernel)) (fun _ _ _ _ _ => (dg_tup rfl (dgs_cons (dg_name (i := 9) sc_law_question.nd) (dgs_cons (dg_name (i := 10) sc_law_question.nd) dgs_nil)) (gsCons_len (gsCons_len gsNil_len)))) (gd_tup (gds_cons gd_name (gds_cons gd_name gds_nil)) (gsCons_len (gsCons_len gsNil_len))) (fun _ _ _ _ _ => dts_nil) (fun _ _ _ _ _ => (dv 9)))) (dss_cons (ds_if (dw_pt (dw_or (dt_cmpA (c_ne hr) (de_lc rfl sc_law_question.nd (di_list (de_ix (dv 7) de_int)) (blkOk_by (own := [("name", 9), ("kind", 10)]) (N := N_law_question) (sc := defScope s_law_question) (by decide +kernel)) (fun _ _ _ _ _ => (dg_tup rfl (dgs_cons (dg_name (i := 9) sc_law_question.nd) (dgs_cons (dg_name (i := 10) sc_law_question.nd) dgs_nil)) (gsCons_len (gsCons_len gsNil_len)))) (gd_tup (gds_cons gd_name (gds_cons gd_name gds_nil)) (gsCons_len (gsCons_len gsNil_len))) (fun _ _ _ _ _ => (dts_one (dt_cmpA c_in (dv 9) (dv 8)))) (fun _ _ _ _ _ => (dv 9))) (de_lst da_nil)) (dw_or1 (dt_cmpA (c_eq hr) (dv 3) de_int)))) (dss_one (ds_set (i := 7) sc_law_question.nd (de_own B.d_law_called G_law_called hr (by first | decide | omega) (da_cons (dv 0) (da_cons (dv 7) (da_cons (dv 8) da_nil)))))) dss_nil) (dss_one (ds_ret (de_own B.d_law_two G_law_two hr (by first | decide | omega) (da_cons (dv 0) (da_cons (de_own B.d_law_of G_law_of hr (by first | decide | omega) (da_cons (dv 0) (da_cons (de_lst (da_cons de_str (da_cons de_str (da_cons de_str da_nil)))) da_nil))) (da_cons (dv 6) (da_cons (dv 7) da_nil)))))))))) dss_nil) (dss_cons (ds_set (i := 11) sc_law_question.nd (de_own B.d_law_question G_law_question hr (by first | decide | omega) (da_cons (dv 0) (da_cons (dv 1) (da_cons (de_sub (dv 2) de_int) da_nil))))) (dss_cons (ds_if (dt_cmpA (c_eq hr) (dv 3) de_int) (dss_one (ds_ret (de_tup (da_cons (de_tup (da_cons de_str (da_cons (de_ix (dv 11) de_int) da_nil))) (da_cons (de_ix (dv 11) de_int) da_nil))))) dss_nil) (dss_cons (ds_if (dt_cmpA (c_eq hr) (dv 3) de_int) (dss_cons (ds_set (i := 12) sc_law_question.nd (de_own B.d_law_some G_law_some hr (by first | decide | omega) (da_cons (dv 0) (da_cons (de_ix (dv 11) de_int) da_nil)))) (dss_one (ds_ret (de_tup (da_cons (de_tup (da_cons de_str (da_cons (de_tuple T.b_tuple (de_lc rfl sc_law_question.nd (di_list (dv 12)) (blkOk_by (own := [("name", 9), ("kind", 10)]) (N := N_law_question) (sc := defScope s_law_question) (by decide +kernel)) (fun _ _ _ _ _ => (dg_tup rfl (dgs_cons (dg_name (i := 9) sc_law_question.nd) (dgs_cons (dg_name (i := 10) sc_law_question.nd) dgs_nil)) (gsCons_len (gsCons_len gsNil_len)))) (gd_tup (gds_cons gd_name (gds_cons gd_name gds_nil)) (gsCons_len (gsCons_len gsNil_len))) (fun _ _ _ _ _ => dts_nil) (fun _ _ _ _ _ => (dv 9)))) (da_cons (de_ix (dv 11) de_int) da_nil)))) (da_cons (dv 12) da_nil)))))) dss_nil) (dss_cons (ds_if (dt_cmpA (c_eq hr) (dv 3) de_int) (dss_one (ds_ret (de_own B.d_law_called G_law_called hr (by first | decide | omega) (da_cons (dv 0) (da_cons (dv 11) (da_cons (de_lst da_nil) da_nil)))))) dss_nil) (dss_cons (ds_if (dt_cmpA (c_eq hr) (dv 3) de_int) (dss_one (ds_ret (de_own B.d_law_sums G_law_sums hr (by first | decide | omega) (da_cons (dv 0) (da_cons (dv 11) da_nil))))) dss_nil) (dss_cons (ds_if (dt_cmpA (c_eq hr) (dv 3) de_int) (dss_one (ds_ret (de_own B.d_law_first G_law_first hr (by first | decide | omega) (da_cons (dv 0) (da_cons (dv 11) da_nil))))) dss_nil) (dss_one (ds_ret (de_tup (da_cons (de_tup (da_cons de_str (da_cons (de_own B.d_law_check G_law_check hr (by first | decide | omega) (da_cons (dv 0) (da_cons (de_ix (dv 11) de_int) (da_cons de_int da_nil)))) (da_cons (de_ix (dv 11) de_int) da_nil)))) (da_cons (de_ix (dv 11) de_int) da_nil))))))))))))))) (fun ds M k h => ?_)
    obtain ⟨h, l, ts, left, rfl, hh, okp, l1, ln, l6, hk⟩ := h
    (refine ⟨rfl, ?_⟩; rw [show startD N_law_question [.cel h, .tup (ts.map tabD), .int ((left : Nat) : Int)] = [some (.cel h), some (.tup (ts.map tabD)), some (.int ((left : Nat) : Int)), none, none, none, none, none, none, none, none, none, none] from rfl])
    refine seq_step ?_
    simp only [wNext, wBreak, wContinue, wExpr, wRet, wRetN, wSet, wAsg, wPar, wPar3, wSub, wTst, wOp, wChain, wNotT, wAndV, wOrV, wNotV, wIf, wNil, wCons, wTup, wLst, wLstM, wCall, wCall0, wVar, wC, wLc, wLcM, wYes, wiL, wiT, wiS, wiR, wiEnT, wiEnL, wiZip, wSl, woNone, woSome, wMt, wJoin, wGet, wUn, wTru, wDNew, fin, List.getElem?_cons_zero, List.getElem?_cons_succ, List.set_cons_zero, List.set_cons_succ]
    refine ⟨h, l, 10, rfl, hh, by decide, by decide, fun way M1 w0 w1 h1 e1 => ?_⟩
    refine seq_step ?_
    unfold wIfS
    simp only [wNext]
    refine or_pure (b1 := decide ((left : Int) < 2)) (b2 := decide (way = 9)) (fun k hk => by simp only [wNext, wSeq, wBreak, wContinue, wExpr, wRet, wRetN, wIfS, wSet, wAsg, wPar, wPar3, wFor, wSub, wTst, wOp, wChain, wNotT, wAndT, wOrT, wAndV, wOrV, wNotV, wIf, wNil, wCons, wTup, wLst, wLstM, wCall, wCall0, wVar, wC, wLc, wLcM, wYes, wiL, wiT, wiS, wiR, wiEnT, wiEnL, wiZip, wSl, woNone, woSome, wMt, wJoin, wGet, wUn, wTru, wDNew, fin, List.getElem?_cons_zero, List.getElem?_cons_succ, List.set_cons_zero, List.set_cons_succ]; exact r_ordI hk) (fun _ k hk => by simp only [wNext, wSeq, wBreak, wContinue, wExpr, wRet, wRetN, wIfS, wSet, wAsg, wPar, wPar3, wFor, wSub, wTst, wOp, wChain, wNotT, wAndT, wOrT, wAndV, wOrV, wNotV, wIf, wNil, wCons, wTup, wLst, wLstM, wCall, wCall0, wVar, wC, wLc, wLcM, wYes, wiL, wiT, wiS, wiR, wiEnT, wiEnL, wiZip, wSl, woNone, woSome, wMt, wJoin, wGet, wUn, wTru, wDNew, fin, List.getElem?_cons_zero, List.getElem?_cons_succ, List.set_cons_zero, List.set_cons_succ]; exact eq_int hk) (bb (fun c1 => ?_) (fun c1 => ?_))
    · simp only [wNext, wSeq, wBreak, wContinue, wExpr, wRet, wRetN, wIfS, wSet, wAsg, wPar, wPar3, wFor, wSub, wTst, wOp, wChain, wNotT, wAndT, wOrT, wAndV, wOrV, wNotV, wIf, wNil, wCons, wTup, wLst, wLstM, wCall, wCall0, wVar, wC, wLc, wLcM, wYes, wiL, wiT, wiS, wiR, wiEnT, wiEnL, wiZip, wSl, woNone, woSome, wMt, wJoin, wGet, wUn, wTru, wDNew, fin, List.getElem?_cons_zero, List.getElem?_cons_succ, List.set_cons_zero, List.set_cons_succ]
      refine .inl ⟨h, l, _, rfl, h1, .inr ⟨ts.map tabD, .inl rfl, ?_, by rw [List.length_map]; have := okp.le; omega, fun d M2 hd h2 e2 => ?_⟩⟩
      · rw [List.length_map]; exact List.length_pos_iff.mpr okp.ne
      obtain ⟨t, ht, rfl⟩ := List.mem_map.mp hd
      simp only [gT, gsCons, gN, gsNil, tabD, colsD, wNext, wSeq, wBreak, wContinue, wExpr, wRet, wRetN, wIfS, wSet, wAsg, wPar, wPar3, wFor, wSub, wTst, wOp, wChain, wNotT, wAndT, wOrT, wAndV, wOrV, wNotV, wIf, wNil, wCons, wTup, wLst, wLstM, wCall, wCall0, wVar, wC, wLc, wLcM, wYes, wiL, wiT, wiS, wiR, wiEnT, wiEnL, wiZip, wSl, woNone, woSome, wMt, wJoin, wGet, wUn, wTru, wDNew, fin, List.getElem?_cons_zero, List.getElem?_cons_succ, List.set_cons_zero, List.set_cons_succ]
      refine ⟨(show 2 ≤ sizeLine by decide), ⟨(show 2 ≤ sizeLine by decide), ?_⟩⟩
      exact hk _ _ t.2 M2 ((Drw.leaf okp ht).up (by omega) (by omega) (by omega) (by omega)) (.inl rfl) h2 (e1.trans e2)
    simp only [Bool.or_eq_false_iff, decide_eq_false_iff_not] at c1
    obtain ⟨m, rfl⟩ : ∃ m : Nat, left = m + 1 := ⟨left - 1, by omega⟩
    have m1 : 1 ≤ m := by omega
    refine seq_step ?_
    refine (show (wTst (wOp (rdIn id) (wVar 3) (wTup (wCons (wC (D.int 0)) (wCons (wC (D.int 1)) wNil))))) _ _ _ from ?_)
    simp only [wNext, wBreak, wContinue, wExpr, wRet, wRetN, wSet, wAsg, wPar, wPar3, wSub, wTst, wOp, wChain, wNotT, wAndV, wOrV, wNotV, wIf, wNil, wCons, wTup, wLst, wLstM, wCall, wCall0, wVar, wC, wLc, wLcM, wYes, wiL, wiT, wiS, wiR, wiEnT, wiEnL, wiZip, wSl, woNone, woSome, wMt, wJoin, wGet, wUn, wTru, wDNew, fin, List.getElem?_cons_zero, List.getElem?_cons_succ, List.set_cons_zero, List.set_cons_succ]
    refine ⟨(show 2 ≤ sizeLine by decide), r_inI (l := [0, 1]) (bb (fun c2 => ?_) (fun c2 => ?_))⟩
    · have half : (((m + 1) / 2 : Nat) : Int) = ((m + 1 : Nat) : Int) / 2 := by omega
      have hf1 : 1 ≤ (m + 1) / 2 := by omega
      have hf2 : (m + 1) / 2 ≤ n := by omega
      have hf3 : 2 * ((m + 1) / 2) ≤ m + 1 := by omega
      generalize hfe : (m + 1) / 2 = f at half hf1 hf2 hf3
      refine seq_step ?_
      simp only [wNext, wBreak, wContinue, wExpr, wRet, wRetN, wSet, wAsg, wPar, wPar3, wSub, wTst, wOp, wChain, wNotT, wAndV, wOrV, wNotV, wIf, wNil, wCons, wTup, wLst, wLstM, wCall, wCall0, wVar, wC, wLc, wLcM, wYes, wiL, wiT, wiS, wiR, wiEnT, wiEnL, wiZip, wSl, woNone, woSome, wMt, wJoin, wGet, wUn, wTru, wDNew, fin, List.getElem?_cons_zero, List.getElem?_cons_succ, List.set_cons_zero, List.set_cons_succ]
      refine r_div (by decide) (by decide) ⟨h, l, ts, f, by rw [half], h1, okp, hf1, hf2, by omega, fun q x cs M2 dq hx h2 e2 => ?_⟩
      refine r_div (by decide) (by decide) ⟨h, l, ts, f, by rw [half], h2, okp, hf1, hf2, by omega, fun r y es M3 dr hy h3 e3 => ?_⟩
      have hx3 := hx.ext e3
      have e13 := (e1.trans e2).trans e3
      refine seq_step ?_
      simp only [wNext, wBreak, wContinue, wExpr, wRet, wRetN, wSet, wAsg, wPar, wPar3, wSub, wTst, wOp, wChain, wNotT, wAndV, wOrV, wNotV, wIf, wNil, wCons, wTup, wLst, wLstM, wCall, wCall0, wVar, wC, wLc, wLcM, wYes, wiL, wiT, wiS, wiR, wiEnT, wiEnL, wiZip, wSl, woNone, woSome, wMt, wJoin, wGet, wUn, wTru, wDNew, fin, List.getElem?_cons_zero, List.getElem?_cons_succ, List.set_cons_zero, List.set_cons_succ]
      refine ix_tup (at1 _ _ _) ?_
      simp only [hx3.asR]
      have cl := dq.ok.le
      have el := dr.ok.le
      refine lc_map (fun d => match d with | D.tup [n, _] => n | d => d) (G := gAt x (cs.map colD)) (M := M3) hx3.asR _ _ _ (fun d hd => ?_) (z1 (by simp; omega)) ?_
      · obtain ⟨c, hc, rfl⟩ := List.mem_map.mp hd
        exact ⟨_, rfl, fun k' hk' => hk'⟩
      rw [List.nil_append, show (cs.map colD).map (fun d => match d with | D.tup [n, _] => n | d => d) = (cs.map (·.1)).map D.str from fst_cols cs]
      refine seq_join (fun Γ' M' => ∃ r' y' es', Drw ts (4 * f) (1000 * f - 500 + 36 * f + 20) (2 * f + 4) (80 * f - 40 + 4 * f + 3) r' es' ∧ Lat h l M' y' (es'.map colD) ∧ ((cs ++ es').map (·.1)).Nodup ∧ Hnd M' h l ∧ Ext h l M3 M' ∧ ∃ x9 x10, Γ' = [some (.cel h), some (.tup (ts.map tabD)), some (.int ((m + 1 : Nat) : Int)), some (.int way), none, none, some (.tup [q, x]), some (.tup [r', y']), some (.lst ((cs.map (·.1)).map D.str)), x9, x10, none, none]) ?_ ?_
      · rintro Γ' M4 ⟨r', y', es', dr', hy', nd', h4, e4, x9, x10, rfl⟩
        simp only [wNext, wSeq, wBreak, wContinue, wExpr, wRet, wRetN, wIfS, wSet, wAsg, wPar, wPar3, wFor, wSub, wTst, wOp, wChain, wNotT, wAndT, wOrT, wAndV, wOrV, wNotV, wIf, wNil, wCons, wTup, wLst, wLstM, wCall, wCall0, wVar, wC, wLc, wLcM, wYes, wiL, wiT, wiS, wiR, wiEnT, wiEnL, wiZip, wSl, woNone, woSome, wMt, wJoin, wGet, wUn, wTru, wDNew, fin, List.getElem?_cons_zero, List.getElem?_cons_succ, List.set_cons_zero, List.set_cons_succ]
        refine ⟨(show 3 ≤ sizeLine by decide), .inl ⟨h, l, _, rfl, h4, .inr ⟨_, .inr rfl, by simp, by simp, fun d M5 hd h5 e5 => ?_⟩⟩⟩
        obtain ⟨wd, rfl, hwd⟩ : ∃ wd, d = .str wd ∧ (wd = Str.ofString "join" ∨ wd = Str.ofString "lacking") := by
          simp only [List.mem_cons, List.not_mem_nil, or_false] at hd
          rcases hd with rfl | rfl | rfl <;> exact ⟨_, rfl, by simp⟩
        have e35 := e4.trans e5
        refine ⟨h, l, wd, q, x, r', y', cs, es', 24, rfl, h5, hx3.ext e35, hy'.ext e5, dq.ok.up (by omega), dr'.ok.up (by omega), by decide, fun M6 h6 e6 => ?_, fun a b kd z M6 ha hb hz h6 e6 => ?_⟩
        · exact hk q x cs M6 (dq.up (by omega) (by omega) (by omega) (by omega)) ((hx3.ext e35).ext e6) h6 ((e13.trans e35).trans e6)
        · rcases hwd with rfl | rfl
          · rw [if_pos rfl] at hz
            subst hz
            exact hk _ _ (cs ++ es') M6 ((Drw.join dq dr' ha hb nd').up (by omega) (by omega) (by omega) (by omega)) (.inl rfl) h6 ((e13.trans e35).trans e6)
          · rw [if_neg (by decide)] at hz
            subst hz
            exact hk _ _ cs M6 ((Drw.lack dq dr' ha hb).up (by omega) (by omega) (by omega) (by omega)) ((hx3.ext e35).ext e6) h6 ((e13.trans e35).trans e6)
      · intro nx hnx
        refine or_pure (b1 := !(es.filter fun c => decide (c.1 ∈ cs.map (·.1))).isEmpty) (b2 := decide (way = 1)) (fun k hk => ?_) (fun _ k hk => by simp only [wNext, wSeq, wBreak, wContinue, wExpr, wRet, wRetN, wIfS, wSet, wAsg, wPar, wPar3, wFor, wSub, wTst, wOp, wChain, wNotT, wAndT, wOrT, wAndV, wOrV, wNotV, wIf, wNil, wCons, wTup, wLst, wLstM, wCall, wCall0, wVar, wC, wLc, wLcM, wYes, wiL, wiT, wiS, wiR, wiEnT, wiEnL, wiZip, wSl, woNone, woSome, wMt, wJoin, wGet, wUn, wTru, wDNew, fin, List.getElem?_cons_zero, List.getElem?_cons_succ, List.set_cons_zero, List.set_cons_succ]; exact eq_int hk) (bb (fun c3 => ?_) (fun c3 => ?_))
        · simp only [wNext, wSeq, wBreak, wContinue, wExpr, wRet, wRetN, wIfS, wSet, wAsg, wPar, wPar3, wFor, wSub, wTst, wOp, wChain, wNotT, wAndT, wOrT, wAndV, wOrV, wNotV, wIf, wNil, wCons, wTup, wLst, wLstM, wCall, wCall0, wVar, wC, wLc, wLcM, wYes, wiL, wiT, wiS, wiR, wiEnT, wiEnL, wiZip, wSl, woNone, woSome, wMt, wJoin, wGet, wUn, wTru, wDNew, fin, List.getElem?_cons_zero, List.getElem?_cons_succ, List.set_cons_zero, List.set_cons_succ]
          refine ix_tup (at1 _ _ _) ?_
          simp only [hy.asR]
          refine lc_filter (fun d => match d with | .tup [.str s, _] => decide (s ∈ cs.map (·.1)) | _ => false) (fun d => match d with | D.tup [n, _] => n | d => d) (G := gAt y (es.map colD)) (M := M3) hy.asR _ _ _ (fun d hd => ?_) (z1 (by simp; omega)) ?_
          · obtain ⟨c, hc, rfl⟩ := List.mem_map.mp hd
            refine ⟨_, rfl, fun k' hk' => ?_, fun _ k' hk' => ?_⟩
            · simp only [wNext, wSeq, wBreak, wContinue, wExpr, wRet, wRetN, wIfS, wSet, wAsg, wPar, wPar3, wFor, wSub, wTst, wOp, wChain, wNotT, wAndT, wOrT, wAndV, wOrV, wNotV, wIf, wNil, wCons, wTup, wLst, wLstM, wCall, wCall0, wVar, wC, wLc, wLcM, wYes, wiL, wiT, wiS, wiR, wiEnT, wiEnL, wiZip, wSl, woNone, woSome, wMt, wJoin, wGet, wUn, wTru, wDNew, fin, List.getElem?_cons_zero, List.getElem?_cons_succ, List.set_cons_zero, List.set_cons_succ, wipeD, List.map]
              exact Lat.inS (h := h) (l := l) (.inl rfl) hk'
            · simp only [wNext, wSeq, wBreak, wContinue, wExpr, wRet, wRetN, wIfS, wSet, wAsg, wPar, wPar3, wFor, wSub, wTst, wOp, wChain, wNotT, wAndT, wOrT, wAndV, wOrV, wNotV, wIf, wNil, wCons, wTup, wLst, wLstM, wCall, wCall0, wVar, wC, wLc, wLcM, wYes, wiL, wiT, wiS, wiR, wiEnT, wiEnL, wiZip, wSl, woNone, woSome, wMt, wJoin, wGet, wUn, wTru, wDNew, fin, List.getElem?_cons_zero, List.getElem?_cons_succ, List.set_cons_zero, List.set_cons_succ, wipeD, List.map]
              exact hk'
          · have e : (List.filter (fun d => match d with | D.tup [.str s, _] => decide (s ∈ cs.map (·.1)) | _ => false) (es.map colD)).map (fun d => match d with | D.tup [n, _] => n | d => d) = ((es.filter fun c => decide (c.1 ∈ cs.map (·.1))).map (·.1)).map D.str := by
              rw [List.filter_map, List.map_map, List.map_map]
              rfl
            rw [List.nil_append, e]
            refine ⟨Nat.zero_le _, ?_⟩
            have cl := cl_strsL ((es.filter fun c => decide (c.1 ∈ cs.map (·.1))).map (·.1)) (fun s hs => by
              obtain ⟨c, hc, rfl⟩ := List.mem_map.mp hs
              exact ok_nm (dr.ok.nm c (List.mem_filter.mp hc).1))
            refine eq_nil cl.1 cl.2 ?_
            have : (((es.filter fun c => decide (c.1 ∈ cs.map (·.1))).map (·.1)).map D.str).isEmpty = (es.filter fun c => decide (c.1 ∈ cs.map (·.1))).isEmpty := by
              cases (es.filter fun c => decide (c.1 ∈ cs.map (·.1))) <;> rfl
            rw [this]
            exact hk
        · simp only [wNext, wSeq, wBreak, wContinue, wExpr, wRet, wRetN, wIfS, wSet, wAsg, wPar, wPar3, wFor, wSub, wTst, wOp, wChain, wNotT, wAndT, wOrT, wAndV, wOrV, wNotV, wIf, wNil, wCons, wTup, wLst, wLstM, wCall, wCall0, wVar, wC, wLc, wLcM, wYes, wiL, wiT, wiS, wiR, wiEnT, wiEnL, wiZip, wSl, woNone, woSome, wMt, wJoin, wGet, wUn, wTru, wDNew, fin, List.getElem?_cons_zero, List.getElem?_cons_succ, List.set_cons_zero, List.set_cons_succ]
          refine ⟨h, l, r, y, _, es, cs.map (·.1), rfl, h3, hy, .inl rfl, by rw [List.length_map]; omega, fun ns M4 nl nn nm h4 e4 => ?_⟩
          refine hnx _ _ ⟨_, _, reN ns es, ((Drw.called dr nl nn (fun s hs => (nm s hs).1) (by omega) (by omega)).up (by omega) (by omega) (by omega) (by omega)), .inl rfl, ?_, h4, e4, _, _, rfl⟩
          rw [List.map_append, reN_fst nl, List.nodup_append]
          exact ⟨dq.ok.nd, nn, fun a ha b hb e => (nm b hb).2 (e ▸ ha)⟩
        · simp only [Bool.or_eq_false_iff, Bool.not_eq_false', List.isEmpty_iff] at c3
          refine hnx _ _ ⟨r, y, es, dr.up (by omega) (by omega) (by omega) (by omega), hy, ?_, h3, Ext.refl _ _ _, _, _, rfl⟩
          rw [List.map_append, List.nodup_append]
          refine ⟨dq.ok.nd, dr.ok.nd, fun a ha b hb e => ?_⟩
          obtain ⟨c, hc, rfl⟩ := List.mem_map.mp hb
          have := List.filter_eq_nil_iff.mp c3.1 c hc
          exact this (by rw [e] at ha; exact decide_eq_true ha)
    have mm : ((m : Nat) : Int) = ((m + 1 : Nat) : Int) - 1 := by omega
    refine seq_step ?_
    simp only [wNext, wBreak, wContinue, wExpr, wRet, wRetN, wSet, wAsg, wPar, wPar3, wSub, wTst, wOp, wChain, wNotT, wAndV, wOrV, wNotV, wIf, wNil, wCons, wTup, wLst, wLstM, wCall, wCall0, wVar, wC, wLc, wLcM, wYes, wiL, wiT, wiS, wiR, wiEnT, wiEnL, wiZip, wSl, woNone, woSome, wMt, wJoin, wGet, wUn, wTru, wDNew, fin, List.getElem?_cons_zero, List.getElem?_cons_succ, List.set_cons_zero, List.set_cons_succ]
    refine r_I0 ⟨h, l, ts, m, by rw [mm], h1, okp, m1, by omega, by omega, fun q x cs M2 dq hx h2 e2 => ?_⟩
    have e12 := e1.trans e2
    have cl := dq.ok.le
    clear hh h1
    refine seq_step ?_
    simp only [wNext, wBreak, wContinue, wExpr, wRet, wRetN, wSet, wAsg, wPar, wPar3, wSub, wTst, wOp, wChain, wNotT, wAndV, wOrV, wNotV, wIf, wNil, wCons, wTup, wLst, wLstM, wCall, wCall0, wVar, wC, wLc, wLcM, wYes, wiL, wiT, wiS, wiR, wiEnT, wiEnL, wiZip, wSl, woNone, woSome, wMt, wJoin, wGet, wUn, wTru, wDNew, fin, List.getElem?_cons_zero, List.getElem?_cons_succ, List.set_cons_zero, List.set_cons_succ, wIfS]
    refine eq_int (bb (fun _ => ?_) (fun _ => ?_))
    · refine ix_tup (at0 _ _) ⟨(show 2 ≤ sizeLine by decide), ix_tup (at1 _ _ _) ⟨(show 2 ≤ sizeLine by decide), ?_⟩⟩
      exact hk _ x cs M2 (dq.once.up (by omega) (by omega) (by omega) (by omega)) hx h2 e12
    refine seq_step ?_
    simp only [wNext, wBreak, wContinue, wExpr, wRet, wRetN, wSet, wAsg, wPar, wPar3, wSub, wTst, wOp, wChain, wNotT, wAndV, wOrV, wNotV, wIf, wNil, wCons, wTup, wLst, wLstM, wCall, wCall0, wVar, wC, wLc, wLcM, wYes, wiL, wiT, wiS, wiR, wiEnT, wiEnL, wiZip, wSl, woNone, woSome, wMt, wJoin, wGet, wUn, wTru, wDNew, fin, List.getElem?_cons_zero, List.getElem?_cons_succ, List.set_cons_zero, List.set_cons_succ, wIfS]
    refine eq_int (bb (fun _ => ?_) (fun _ => ?_))
    · refine seq_step ?_
      simp only [wNext, wBreak, wContinue, wExpr, wRet, wRetN, wSet, wAsg, wPar, wPar3, wSub, wTst, wOp, wChain, wNotT, wAndV, wOrV, wNotV, wIf, wNil, wCons, wTup, wLst, wLstM, wCall, wCall0, wVar, wC, wLc, wLcM, wYes, wiL, wiT, wiS, wiR, wiEnT, wiEnL, wiZip, wSl, woNone, woSome, wMt, wJoin, wGet, wUn, wTru, wDNew, fin, List.getElem?_cons_zero, List.getElem?_cons_succ, List.set_cons_zero, List.set_cons_succ]
      refine ix_tup (at1 _ _ _) ⟨h, l, x, cs, rfl, h2, hx, dq.ok.ne, dq.ok.nd, by omega, fun y es M3 pt hy h3 e3 => ?_⟩
      simp only [wNext, wSeq, wBreak, wContinue, wExpr, wRet, wRetN, wIfS, wSet, wAsg, wPar, wPar3, wFor, wSub, wTst, wOp, wChain, wNotT, wAndT, wOrT, wAndV, wOrV, wNotV, wIf, wNil, wCons, wTup, wLst, wLstM, wCall, wCall0, wVar, wC, wLc, wLcM, wYes, wiL, wiT, wiS, wiR, wiEnT, wiEnL, wiZip, wSl, woNone, woSome, wMt, wJoin, wGet, wUn, wTru, wDNew, fin, List.getElem?_cons_zero, List.getElem?_cons_succ, List.set_cons_zero, List.set_cons_succ]
      have ptl := pt.le
      simp only [hy.asR]
      refine lc_map (fun d => match d with | D.tup [n, _] => n | d => d) (G := gAt y (es.map colD)) (M := M3) hy.asR _ _ _ (fun d hd => ?_) (z1 (by simp; omega)) ?_
      · obtain ⟨c, hc, rfl⟩ := List.mem_map.mp hd
        exact ⟨_, rfl, fun k' hk' => hk'⟩
      rw [List.nil_append, show (es.map colD).map (fun d => match d with | D.tup [n, _] => n | d => d) = (es.map (·.1)).map D.str from fst_cols es]
      refine r_tupL (ix_tup (at0 _ _) ⟨(show 3 ≤ sizeLine by decide), ⟨(show 2 ≤ sizeLine by decide), ?_⟩⟩)
      exact hk _ y es M3 ((dq.pick pt (by omega) (by omega)).up (by omega) (by omega) (by omega) (by omega)) hy h3 (e12.trans e3)
    refine seq_step ?_
    simp only [wNext, wBreak, wContinue, wExpr, wRet, wRetN, wSet, wAsg, wPar, wPar3, wSub, wTst, wOp, wChain, wNotT, wAndV, wOrV, wNotV, wIf, wNil, wCons, wTup, wLst, wLstM, wCall, wCall0, wVar, wC, wLc, wLcM, wYes, wiL, wiT, wiS, wiR, wiEnT, wiEnL, wiZip, wSl, woNone, woSome, wMt, wJoin, wGet, wUn, wTru, wDNew, fin, List.getElem?_cons_zero, List.getElem?_cons_succ, List.set_cons_zero, List.set_cons_succ, wIfS]
    refine eq_int (bb (fun _ => ?_) (fun _ => ?_))
    · refine ⟨Nat.zero_le _, h, l, q, x, _, cs, [], rfl, h2, hx, .inl rfl, by simp; omega, fun ns M3 nl nn nm h3 e3 => ?_⟩
      exact hk _ _ (reN ns cs) M3 ((dq.called nl nn (fun s hs => (nm s hs).1) (by omega) (by omega)).up (by omega) (by omega) (by omega) (by omega)) (.inl rfl) h3 (e12.trans e3)
    refine seq_step ?_
    simp only [wNext, wBreak, wContinue, wExpr, wRet, wRetN, wSet, wAsg, wPar, wPar3, wSub, wTst, wOp, wChain, wNotT, wAndV, wOrV, wNotV, wIf, wNil, wCons, wTup, wLst, wLstM, wCall, wCall0, wVar, wC, wLc, wLcM, wYes, wiL, wiT, wiS, wiR, wiEnT, wiEnL, wiZip, wSl, woNone, woSome, wMt, wJoin, wGet, wUn, wTru, wDNew, fin, List.getElem?_cons_zero, List.getElem?_cons_succ, List.set_cons_zero, List.set_cons_succ, wIfS]
    refine eq_int (bb (fun _ => ?_) (fun _ => ?_))
    · refine ⟨h, l, q, x, cs, 4 * m, rfl, h2, hx, dq.ok, by omega, fun g ss ms M3 g1 g2 sm s0 s2 h3 e3 => ?_⟩
      exact hk _ _ (g ++ ms) M3 ((dq.sums g1 sm g2 s0 s2 (by omega)).up (by omega) (by omega) (by omega) (by omega)) (.inl rfl) h3 (e12.trans e3)
    refine seq_step ?_
    simp only [wNext, wBreak, wContinue, wExpr, wRet, wRetN, wSet, wAsg, wPar, wPar3, wSub, wTst, wOp, wChain, wNotT, wAndV, wOrV, wNotV, wIf, wNil, wCons, wTup, wLst, wLstM, wCall, wCall0, wVar, wC, wLc, wLcM, wYes, wiL, wiT, wiS, wiR, wiEnT, wiEnL, wiZip, wSl, woNone, woSome, wMt, wJoin, wGet, wUn, wTru, wDNew, fin, List.getElem?_cons_zero, List.getElem?_cons_succ, List.set_cons_zero, List.set_cons_succ, wIfS]
    refine eq_int (bb (fun _ => ?_) (fun _ => ?_))
    · refine ⟨h, l, q, x, cs, 4 * m, rfl, h2, hx, dq.ok, by omega, fun i os M3 i1 i2 os1 os2 os3 h3 e3 => ?_⟩
      exact hk _ x cs M3 ((dq.first i1 i2 os1 os2 os3 (by omega)).up (by omega) (by omega) (by omega) (by omega)) (hx.ext e3) h3 (e12.trans e3)
    refine ix_tup (at1 _ _ _) ⟨h, l, x, cs, 4 * m, 3, rfl, h2, hx, dq.ok, by omega, by decide, by decide, fun c M3 hc h3 e3 => ?_⟩
    refine ix_tup (at0 _ _) ⟨(show 3 ≤ sizeLine by decide), ix_tup (at1 _ _ _) ⟨(show 2 ≤ sizeLine by decide), ?_⟩⟩
    exact hk _ x cs M3 ((dq.wher hc (by omega)).up (by omega) (by omega) (by omega) (by omega)) (hx.ext e3) h3 (e12.trans e3)
end
end K04

set_option autoImplicit false
set_option maxRecDepth 100000
set_option maxHeartbeats 4000000
namespace K04
open PySem L2 DL
/-! isinstance of a value that anything may be -/
def isBl : D → Bool
  | .bl _ => true
  | _ => false
theorem isi_of {M : Mem} {d : D} {k : KD} {T : String} (b : Bool) (h : okR M d) (hT : ["bool", "int", "str", "tuple"].contains T = true) (e : ∀ t, tyD M d = some t → isiB t T = b) (hk : k (.bl b) M) : rdIsiA [d, .ty T] M k := by
  obtain ⟨t, q, _⟩ := okR_ty h
  refine r_isi q hT (fun l z => ?_) ?_
  · subst z; unfold okR at h; exact h
  · rw [e t q]; exact hk
theorem cel_ty {M : Mem} {a : Addr} {t : String} (q : tyD M (.cel a) = some t) : t = "list" ∨ t = "dict" := by
  unfold tyD at q
  simp only at q
  split at q <;> cases q <;> simp
theorem isi_int {M : Mem} {d : D} {k : KD} (h : okR M d) (hk : k (.bl (isInt d || isBl d)) M) : rdIsiA [d, .ty "int"] M k := by
  refine isi_of _ h (by decide) (fun t q => ?_) hk
  cases d with
  | cel a => rcases cel_ty q with e | e <;> (subst e; rfl)
  | scr _ => unfold okR at h; exact h.elim
  | ty _ => unfold okR at h; exact h.elim
  | _ => cases q; rfl
theorem isi_bool {M : Mem} {d : D} {k : KD} (h : okR M d) (hk : k (.bl (isBl d)) M) : rdIsiA [d, .ty "bool"] M k := by
  refine isi_of _ h (by decide) (fun t q => ?_) hk
  cases d with
  | cel a => rcases cel_ty q with e | e <;> (subst e; rfl)
  | scr _ => unfold okR at h; exact h.elim
  | ty _ => unfold okR at h; exact h.elim
  | _ => cases q; rfl
theorem isi_str {M : Mem} {d : D} {k : KD} (h : okR M d) (hk : k (.bl (isStr d)) M) : rdIsiA [d, .ty "str"] M k := by
  refine isi_of _ h (by decide) (fun t q => ?_) hk
  cases d with
  | cel a => rcases cel_ty q with e | e <;> (subst e; rfl)
  | scr _ => unfold okR at h; exact h.elim
  | ty _ => unfold okR at h; exact h.elim
  | _ => cases q; rfl
theorem isi_tup {M : Mem} {d : D} {k : KD} (h : okR M d) (hk : k (.bl (isTup d)) M) : rdIsiA [d, .ty "tuple"] M k := by
  refine isi_of _ h (by decide) (fun t q => ?_) hk
  cases d with
  | cel a => rcases cel_ty q with e | e <;> (subst e; rfl)
  | scr _ => unfold okR at h; exact h.elim
  | ty _ => unfold okR at h; exact h.elim
  | _ => cases q; rfl
section
variable {P : Program} {w : World} {K : PySem.W.Frag} {mg : Str → Option Value} {base : Heap}
theorem r_allB {M : Mem} {k : KD} {l : List D} {bs : List Bool} (e : boolsD l = some bs) (hk : k (.bl (bs.all id)) M) : rdAll [.lst l] M k := by
  unfold rdAll asR
  simp only [e]
  exact hk
def F_lis_name : FD := fun ds M k => ∃ d, ds = [d] ∧ okR M d ∧ k (.bl (isNameB d)) M
theorem ok_lis_name {f : Addr} {fd : FuncData} (T : Txt K mg) (d_law_is_name : Def K mg "_law_is_name" s_law_is_name p_law_is_name f fd) : DFn P w K mg base 1 f fd p_law_is_name F_lis_name := by
  refine Fun.okD d_law_is_name.F sc_law_is_name (fun cdv A outer s H E hr => (dss_one (ds_ret (de_and (de_isi T.b_isinstance (dv 0) (de_ty (n := "str") T.b_str (by decide +kernel))) (de_and (de_chainA c_lt c_lt de_int (de_len T.b_len (dv 0)) de_int) (de_one (de_all rfl T.b_all (de_lc rfl sc_law_is_name.nd (di_str (dv 0)) (blkOk_by (own := [("sign", 1)]) (N := N_law_is_name) (sc := defScope s_law_is_name) (by decide +kernel)) (fun _ _ _ _ _ => (dg_name (i := 1) sc_law_is_name.nd)) gd_name (fun _ _ _ _ _ => dts_nil) (fun _ _ _ _ _ => (de_chainA c_le c_le de_str (dv 1) de_str)))))))))) (fun ds M k h => ?_)
  obtain ⟨d, rfl, hd, hk⟩ := h
  refine ⟨rfl, ?_⟩
  rw [show startD N_law_is_name [d] = [some d, none] from rfl]
  simp only [wNext, wSeq, wBreak, wContinue, wExpr, wRet, wRetN, wIfS, wSet, wAsg, wPar, wPar3, wFor, wSub, wTst, wOp, wChain, wNotT, wAndT, wOrT, wAndV, wOrV, wNotV, wIf, wNil, wCons, wTup, wLst, wLstM, wCall, wCall0, wVar, wC, wLc, wLcM, wYes, wiL, wiT, wiS, wiR, wiEnT, wiEnL, wiZip, wSl, woNone, woSome, wMt, wJoin, wGet, wUn, wTru, wDNew, fin, List.getElem?_cons_zero, List.getElem?_cons_succ, List.set_cons_zero, List.set_cons_succ]
  refine isi_str hd ?_
  cases d with
  | str s =>
    unfold okR at hd
    have e0 : isNameB (.str s) = (decide (1 ≤ s.length) && decide (s.length ≤ 8) && s.cps.toList.all letter) := rfl
    rw [e0] at hk
    refine r_lenS (z1 hd) (r_ordI ?_)
    by_cases b1 : 1 ≤ s.length
    · have c1 : (0 : Int) < (s.length : Int) := by omega
      simp only [c1, decide_true]
      refine r_ordI ?_
      by_cases b2 : s.length ≤ 8
      · have c2 : (s.length : Int) < 9 := by omega
        simp only [c2, decide_true]
        rw [decide_eq_true b1, decide_eq_true b2, Bool.true_and, Bool.true_and] at hk
        refine lc_map sgn (G := gAny) (M := M) trivial _ _ _ (fun d hm => ⟨_, rfl, fun k' hk' => ?_⟩) (z1 (by unfold signs; simp; show s.length ≤ _; omega)) ?_
        · unfold signs at hm
          obtain ⟨c, _, rfl⟩ := List.mem_map.mp hm
          have ea : (Str.ofString "a").cps.toList = [97] := by decide
          have ez : (Str.ofString "z").cps.toList = [122] := by decide
          have hk' : k' (.bl ((!decide ([c] < [97])) && (!decide ([122] < [c])))) M := hk'
          simp only [wNext, wSeq, wBreak, wContinue, wExpr, wRet, wRetN, wIfS, wSet, wAsg, wPar, wPar3, wFor, wSub, wTst, wOp, wChain, wNotT, wAndT, wOrT, wAndV, wOrV, wNotV, wIf, wNil, wCons, wTup, wLst, wLstM, wCall, wCall0, wVar, wC, wLc, wLcM, wYes, wiL, wiT, wiS, wiR, wiEnT, wiEnL, wiZip, wSl, woNone, woSome, wMt, wJoin, wGet, wUn, wTru, wDNew, fin, List.getElem?_cons_zero, List.getElem?_cons_succ, List.set_cons_zero, List.set_cons_succ, wipeD, List.map]
          refine r_ordS ?_
          rw [ea]
          cases q : decide ([c] < [97])
          · rw [q] at hk'
            refine r_ordS ?_
            rw [ez]; exact hk'
          · rw [q] at hk'; exact hk'
        · rw [List.nil_append]
          refine r_allB (bools_signs s) ?_
          have : (s.cps.toList.map letter).all id = s.cps.toList.all letter := by rw [List.all_map]; rfl
          rw [this]; exact hk
      · have c2 : ¬ (s.length : Int) < 9 := by omega
        simp only [c2, decide_false]
        rw [decide_eq_false b2, Bool.and_false, Bool.false_and] at hk
        exact hk
    · have c1 : ¬ (0 : Int) < (s.length : Int) := by omega
      simp only [c1, decide_false]
      rw [decide_eq_false b1, Bool.false_and, Bool.false_and] at hk
      exact hk
  | _ => exact hk
end
end K04

set_option autoImplicit false
set_option maxRecDepth 100000
set_option maxHeartbeats 4000000
namespace K04
open PySem L2 DL
section
variable {P : Program} {w : World} {K : PySem.W.Frag} {mg : Str → Option Value} {base : Heap}
def F_lis_number : FD := fun ds M k => ∃ d, ds = [d] ∧ okR M d ∧ k (.bl (isNumB d)) M
theorem ok_lis_number {f : Addr} {fd : FuncData} (T : Txt K mg) (d_law_is_number : Def K mg "_law_is_number" s_law_is_number p_law_is_number f fd) : DFn P w K mg base 1 f fd p_law_is_number F_lis_number := by
  refine Fun.okD d_law_is_number.F sc_law_is_number (fun cdv A outer s H E hr => (dss_one (ds_ret (de_and (de_isi T.b_isinstance (dv 0) (de_ty (n := "int") T.b_int (by decide +kernel))) (de_and (de_not (de_isi T.b_isinstance (dv 0) (de_ty (n := "bool") T.b_bool (by decide +kernel)))) (de_one (de_chainA c_le c_le (de_sub de_int (de_pow de_int de_int)) (dv 0) (de_pow de_int de_int)))))))) (fun ds M k h => ?_)
  obtain ⟨d, rfl, hd, hk⟩ := h
  refine ⟨rfl, ?_⟩
  rw [show startD N_law_is_number [d] = [some d] from rfl]
  simp only [wNext, wSeq, wBreak, wContinue, wExpr, wRet, wRetN, wIfS, wSet, wAsg, wPar, wPar3, wFor, wSub, wTst, wOp, wChain, wNotT, wAndT, wOrT, wAndV, wOrV, wNotV, wIf, wNil, wCons, wTup, wLst, wLstM, wCall, wCall0, wVar, wC, wLc, wLcM, wYes, wiL, wiT, wiS, wiR, wiEnT, wiEnL, wiZip, wSl, woNone, woSome, wMt, wJoin, wGet, wUn, wTru, wDNew, fin, List.getElem?_cons_zero, List.getElem?_cons_succ, List.set_cons_zero, List.set_cons_succ]
  refine isi_int hd ?_
  cases d with
  | int i =>
    refine isi_bool hd ?_
    refine r_pow (by decide) (by decide) (by decide) (r_I0 (r_ordI ?_))
    have e1 : (0 : Int) - 10 ^ (9 : Int).toNat = -1000000000 := by decide
    have e2 : (10 : Int) ^ (9 : Int).toNat = 1000000000 := by decide
    rw [e1]
    by_cases h1 : -(1000000000 : Int) ≤ i
    · simp only [h1, decide_true]
      refine r_pow (by decide) (by decide) (by decide) (r_ordI ?_)
      rw [e2]
      simpa [isNumB, h1] using hk
    · simp only [h1, decide_false]
      simpa [isNumB, h1] using hk
  | bl b => exact isi_bool hd hk
  | _ => exact hk
end
end K04

set_option autoImplicit false
set_option maxRecDepth 100000
set_option maxHeartbeats 4000000
namespace K04
open PySem L2 DL
section
variable {P : Program} {w : World} {K : PySem.W.Frag} {mg : Str → Option Value} {base : Heap}
def F_lfits : FD := fun ds M k => ∃ kd d, ds = [.str kd, d] ∧ Kd kd ∧ okR M d ∧ k (.bl (fitsB kd d)) M
theorem ok_lfits {f f1 f2 : Addr} {fd fd1 fd2 : FuncData} (T : Txt K mg) (d_law_is_number : Def K mg "_law_is_number" s_law_is_number p_law_is_number f1 fd1) (d_law_is_name : Def K mg "_law_is_name" s_law_is_name p_law_is_name f2 fd2)
    (d_law_fits : Def K mg "_law_fits" s_law_fits p_law_fits f fd) : DFn P w K mg base 2 f fd p_law_fits F_lfits := by
  have G_law_is_number : DFn P w K mg base 1 f1 fd1 p_law_is_number F_lis_number := ok_lis_number T d_law_is_number
  have G_law_is_name : DFn P w K mg base 1 f2 fd2 p_law_is_name F_lis_name := ok_lis_name T d_law_is_name
  refine Fun.okD d_law_fits.F sc_law_fits (fun cdv A outer s H E hr => (dss_one (ds_ret (de_or (de_cmpA c_is (dv 1) de_non) (de_or (de_and (de_own d_law_is_number G_law_is_number hr (by first | decide | omega) (da_cons (dv 1) da_nil)) (de_one (de_cmpA (c_eq hr) (dv 0) de_str))) (de_one (de_and (de_own d_law_is_name G_law_is_name hr (by first | decide | omega) (da_cons (dv 1) da_nil)) (de_one (de_cmpA (c_eq hr) (dv 0) de_str))))))))) (fun ds M k h => ?_)
  obtain ⟨kd, d, rfl, hkd, hd, hk⟩ := h
  refine ⟨rfl, ?_⟩
  rw [show startD N_law_fits [.str kd, d] = [some (.str kd), some d] from rfl]
  simp only [wNext, wSeq, wBreak, wContinue, wExpr, wRet, wRetN, wIfS, wSet, wAsg, wPar, wPar3, wFor, wSub, wTst, wOp, wChain, wNotT, wAndT, wOrT, wAndV, wOrV, wNotV, wIf, wNil, wCons, wTup, wLst, wLstM, wCall, wCall0, wVar, wC, wLc, wLcM, wYes, wiL, wiT, wiS, wiR, wiEnT, wiEnL, wiZip, wSl, woNone, woSome, wMt, wJoin, wGet, wUn, wTru, wDNew, fin, List.getElem?_cons_zero, List.getElem?_cons_succ, List.set_cons_zero, List.set_cons_succ]
  refine isn_ok hd ?_
  unfold fitsB at hk
  cases q : isNon d with
  | true => rw [q] at hk; exact hk
  | false =>
    rw [q, Bool.false_or] at hk
    refine ⟨d, rfl, hd, ?_⟩
    have second : ∀ M1, M1 = M → (isNumB d = false ∨ kd ≠ Str.ofString "number") → F_lis_name [d] M1 fun x M2 => match x with
        | .bl true => rdEq id (.str kd) (.str (Str.ofString "name")) M2 k
        | .bl false => k (.bl false) M2
        | _ => False := fun M1 e h => by
      subst e
      refine ⟨d, rfl, hd, ?_⟩
      rcases hkd with e | e
      · subst e
        rw [if_pos rfl] at hk
        have nm : isNumB d = false := h.resolve_right (fun z => z rfl)
        rw [nm] at hk
        cases isNameB d with
        | true => exact eq_strF (by decide +kernel) (by decide +kernel) (by decide) hk
        | false => exact hk
      · subst e
        rw [if_neg (by decide)] at hk
        cases q2 : isNameB d with
        | true => rw [q2] at hk; exact eq_strT (by decide +kernel) hk
        | false => rw [q2] at hk; exact hk
    cases q3 : isNumB d with
    | false => exact second M rfl (.inl q3)
    | true =>
      rcases hkd with e | e
      · subst e
        rw [if_pos rfl, q3] at hk
        exact eq_strT (by decide +kernel) hk
      · subst e
        exact eq_strF (by decide +kernel) (by decide +kernel) (by decide) (second M rfl (.inr (by decide)))
end
end K04

set_option autoImplicit false
set_option maxRecDepth 100000
set_option maxHeartbeats 4000000
namespace K04
open PySem L2 DL
section
variable {P : Program} {w : World} {K : PySem.W.Frag} {mg : Str → Option Value} {base : Heap}
def emptyS : Str := Str.ofString ""
def kindE (cs : Cols) (x : D) : Str := (kindOf cs x).getD (Str.ofString "")
def F_lkind : FD := fun ds M k => ∃ cs d, ds = [.lst (cs.map colD), d] ∧ CsOk cs ∧ okR M d ∧ k (.str (kindE cs d)) M
def hasN (x : D) : D → Bool := fun d => match x, d with
  | .str s, .tup [.str n, _] => decide (n = s)
  | _, _ => false
def snd2 : D → D := fun d => match d with
  | .tup [_, k] => k
  | d => d
theorem kind_hits (cs : Cols) (h : ∀ c ∈ cs, isNm c.1 = true) (x : D) : ((cs.map colD).filter (hasN x)).map snd2 = ((cs.filter fun c => match x with | .str s => decide (c.1 = s) | _ => false).map (·.2)).map D.str ∧
    (match (cs.filter fun c => match x with | .str s => decide (c.1 = s) | _ => false) with | c :: _ => kindE cs x = c.2 | [] => kindE cs x = Str.ofString "") := by
  constructor
  · rw [List.filter_map, List.map_map, List.map_map]
    have : (hasN x ∘ colD) = fun c => match x with | .str s => decide (c.1 = s) | _ => false := by
      funext c
      cases x <;> rfl
    rw [this]; rfl
  · cases x with
    | str s =>
      simp only
      unfold kindE kindOf
      simp only
      have e : cs.find? (fun c => decide (c.1 = s)) = (cs.filter fun c => decide (c.1 = s)).head? := by rw [List.head?_filter]
      by_cases q : isNm s = true
      · rw [if_pos q, e]
        cases cs.filter (fun c => decide (c.1 = s)) <;> rfl
      · rw [if_neg q]
        have : cs.filter (fun c => decide (c.1 = s)) = [] := List.filter_eq_nil_iff.mpr fun c hc z => q (by rw [← of_decide_eq_true z]; exact h c hc)
        rw [this]; rfl
    | _ =>
      have : cs.filter (fun _ => false) = [] := List.filter_eq_nil_iff.mpr fun c hc z => by cases z
      simp only [this]; rfl
theorem kind_list (cs : Cols) (h : ∀ c ∈ cs, isNm c.1 = true) (x : D) : ∃ l : List (Str × Str), ((cs.map colD).filter (hasN x)).map snd2 = (l.map (·.2)).map D.str ∧ (match l with | c :: _ => kindE cs x = c.2 | [] => kindE cs x = Str.ofString "") ∧ (∀ c ∈ l, c ∈ cs) ∧ l.length ≤ cs.length :=
  ⟨_, (kind_hits cs h x).1, (kind_hits cs h x).2, fun _ hc => (List.mem_filter.mp hc).1, List.length_filter_le _ _⟩
theorem cl_strs (l : List Str) (h : ∀ s ∈ l, PyData.strOk s = true) : cleans (l.map D.str) = true ∧ deeps (l.map D.str) ≤ 63 :=
  ⟨cleans_mem fun d hd => (let ⟨s, hs, e⟩ := List.mem_map.mp hd; by rw [← e]; unfold clean; exact h s hs), Nat.le_trans (deeps_mem (n := 0) fun d hd => (let ⟨s, hs, e⟩ := List.mem_map.mp hd; by rw [← e]; unfold deep; exact Nat.le_refl _)) (by decide)⟩
theorem ne_strs {f : Bool → Bool} {l : List Str} {M : Mem} {k : KD} (h : ∀ s ∈ l, PyData.strOk s = true) (hk : k (.bl (f l.isEmpty)) M) : rdEq f (.lst (l.map D.str)) (.lst []) M k := by
  obtain ⟨a, b⟩ := cl_strs l h
  refine eq_nil a b ?_
  have : (l.map D.str).isEmpty = l.isEmpty := by cases l <;> rfl
  rw [this]; exact hk
theorem ok_lkind (T : Txt K mg) (B : DD K mg) : DFn P w K mg base 1 B.f_law_kind B.fd_law_kind p_law_kind F_lkind := by
  refine Fun.okD B.d_law_kind.F sc_law_kind (fun cdv A outer s H E hr => (dss_cons (ds_setLc (i := 2) rfl sc_law_kind.nd (di_list (dv 0)) (blkOk_by (own := [("name", 3), ("kind", 4)]) (N := N_law_kind) (sc := defScope s_law_kind) (by decide +kernel)) (fun _ _ _ _ _ => (dg_tup rfl (dgs_cons (dg_name (i := 3) sc_law_kind.nd) (dgs_cons (dg_name (i := 4) sc_law_kind.nd) dgs_nil)) (gsCons_len (gsCons_len gsNil_len)))) (gd_tup (gds_cons gd_name (gds_cons gd_name gds_nil)) (gsCons_len (gsCons_len gsNil_len))) (fun _ _ _ _ _ => (dts_one (dw_pt (dw_and (dt_val (de_isi T.b_isinstance (dv 1) (de_ty (n := "str") T.b_str (by decide +kernel)))) (dw_and1 (dt_cmpA (c_eq hr) (dv 3) (dv 1))))))) (fun _ _ _ _ _ => (dv 4)) (sw_true rfl rfl rfl (by decide +kernel))) (dss_one (ds_ret (de_if (dt_cmpA (c_ne hr) (dv 2) (de_lst da_nil)) (de_ix (dv 2) de_int) de_str))))) (fun ds M k h => ?_)
  obtain ⟨cs, d, rfl, hcs, hd, hk⟩ := h
  (refine ⟨rfl, ?_⟩; rw [show startD N_law_kind [.lst (cs.map colD), d] = [some (.lst (cs.map colD)), some (d), none, none, none] from rfl])
  simp only [wNext, wSeq, wBreak, wContinue, wExpr, wRet, wRetN, wIfS, wSet, wAsg, wPar, wPar3, wFor, wSub, wTst, wOp, wChain, wNotT, wAndT, wOrT, wAndV, wOrV, wNotV, wIf, wNil, wCons, wTup, wLst, wLstM, wCall, wCall0, wVar, wC, wLc, wLcM, wYes, wiL, wiT, wiS, wiR, wiEnT, wiEnL, wiZip, wSl, woNone, woSome, wMt, wJoin, wGet, wUn, wTru, wDNew, fin, List.getElem?_cons_zero, List.getElem?_cons_succ, List.set_cons_zero, List.set_cons_succ, asR]
  have hl := hcs.le
  refine lc_filter (hasN d) snd2 (G := gAt (.lst (cs.map colD)) (cs.map colD)) (M := M) rfl _ _ _ ?_ (by simpa using z1 (by omega)) ?_
  · intro x hx
    obtain ⟨c, hc', rfl⟩ := List.mem_map.mp hx
    refine ⟨_, rfl, fun k' hk' => ?_, fun _ k' hk' => ?_⟩
    · simp only [wNext, wSeq, wBreak, wContinue, wExpr, wRet, wRetN, wIfS, wSet, wAsg, wPar, wPar3, wFor, wSub, wTst, wOp, wChain, wNotT, wAndT, wOrT, wAndV, wOrV, wNotV, wIf, wNil, wCons, wTup, wLst, wLstM, wCall, wCall0, wVar, wC, wLc, wLcM, wYes, wiL, wiT, wiS, wiR, wiEnT, wiEnL, wiZip, wSl, woNone, woSome, wMt, wJoin, wGet, wUn, wTru, wDNew, fin, List.getElem?_cons_zero, List.getElem?_cons_succ, List.set_cons_zero, List.set_cons_succ, wipeD, List.map]
      refine isi_str hd ?_
      cases d with
      | str s => exact tt (eq_strA hk')
      | _ => exact ff hk'
    · simp only [wNext, wSeq, wBreak, wContinue, wExpr, wRet, wRetN, wIfS, wSet, wAsg, wPar, wPar3, wFor, wSub, wTst, wOp, wChain, wNotT, wAndT, wOrT, wAndV, wOrV, wNotV, wIf, wNil, wCons, wTup, wLst, wLstM, wCall, wCall0, wVar, wC, wLc, wLcM, wYes, wiL, wiT, wiS, wiR, wiEnT, wiEnL, wiZip, wSl, woNone, woSome, wMt, wJoin, wGet, wUn, wTru, wDNew, fin, List.getElem?_cons_zero, List.getElem?_cons_succ, List.set_cons_zero, List.set_cons_succ, wipeD, List.map]
      exact hk'
  · obtain ⟨l, e1, e2, e3, e4⟩ := kind_list cs hcs.nm d
    rw [List.nil_append, e1]
    refine ⟨Nat.zero_le _, ne_strs (fun s hs => ?_) ?_⟩
    · obtain ⟨c, hc, rfl⟩ := List.mem_map.mp hs
      exact ok_kd (hcs.kd c (e3 c hc))
    · cases l with
      | nil => simp only at e2; rw [e2] at hk; exact ff hk
      | cons c r => simp only at e2; rw [e2] at hk; exact tt (ix_lst (at0 _ _) hk)
/-! the law's own look at a check -/
theorem ne_mtE {M : Mem} {k : KD} {f : Bool → Bool} {ds : List D} (h : k (.bl (f ds.isEmpty)) M) : rdEqMt f (.tup ds) (.tup []) M k := h

def F_lis_check (n : Nat) : FD := fun ds M k => ∃ cs d, ds = [.lst (cs.map colD), d] ∧ CsOk cs ∧ okR M d ∧ far d ≤ n ∧ k (.bl (chkB cs n d)) M
theorem kindE_some {cs : Cols} {x : D} {kd : Str} (h : kindOf cs x = some kd) : kindE cs x = kd := by unfold kindE; rw [h]; rfl
theorem kindE_none {cs : Cols} {x : D} (h : kindOf cs x = none) : kindE cs x = Str.ofString "" := by unfold kindE; rw [h]; rfl
theorem kd_ne {kd : Str} (h : Kd kd) : kd ≠ Str.ofString "" := by rcases h with rfl | rfl <;> decide
theorem chk_two {cs : Cols} {n : Nat} {s : Str} {r : List D} (h : s ≠ Str.ofString "not") (hl : r.length ≠ 2) : chkB cs n (.tup (.str s :: r)) = false := by
  cases n with
  | zero => rfl
  | succ n =>
    match r, hl with
    | [], _ => rfl
    | [a], _ => show (decide (s = Str.ofString "not") && _) = false; rw [decide_eq_false h]; rfl
    | [a, b], hl => exact absurd rfl hl
    | _ :: _ :: _ :: _, _ => rfl
theorem chk_not {cs : Cols} {n : Nat} {r : List D} (hl : r.length ≠ 1) : chkB cs n (.tup (.str (Str.ofString "not") :: r)) = false := by
  cases n with
  | zero => rfl
  | succ n =>
    match r, hl with
    | [], _ => rfl
    | [a], hl => exact absurd rfl hl
    | [a, b], _ => exact chk_form (n := n + 1) (by rw [form3, len_not]; rfl)
    | _ :: _ :: _ :: _, _ => rfl
theorem lchk_step (T : Txt K mg) (B : DD K mg) (TW : TxtW K w mg B) {n L : Nat} (hL : 2 ≤ L) (G_law_is_check : DFn P w K mg base L B.f_law_is_check B.fd_law_is_check p_law_is_check (fun ds M k => ∃ m, n = m + 1 ∧ F_lis_check m ds M k)) : DFn P w K mg base (L + 1) B.f_law_is_check B.fd_law_is_check p_law_is_check (F_lis_check n) := by
  have G_law_kind : DFn P w K mg base 1 B.f_law_kind B.fd_law_kind p_law_kind F_lkind := ok_lkind T B
  have G_law_fits : DFn P w K mg base 2 B.f_law_fits B.fd_law_fits p_law_fits F_lfits := ok_lfits T B.d_law_is_number B.d_law_is_name B.d_law_fits
  have G_law_is_number : DFn P w K mg base 1 B.f_law_is_number B.fd_law_is_number p_law_is_number F_lis_number := ok_lis_number T B.d_law_is_number
  refine Fun.okD (k := L) B.d_law_is_check.F sc_law_is_check (fun cdv A outer s H E hr => (dss_cons (ds_if (dw_pt (dw_or (dt_not (dt_val (de_isi T.b_isinstance (dv 1) (de_ty (n := "tuple") T.b_tuple (by decide +kernel))))) (dw_or (dt_cmpA (c_eqMt hr) (dv 1) (de_tup da_nil)) (dw_or1 (dt_not (dt_val (de_isi T.b_isinstance (de_ix (dv 1) de_int) (de_ty (n := "str") T.b_str (by decide +kernel))))))))) (dss_one (ds_ret de_bl)) dss_nil) (dss_cons (ds_par (i := 2) (j := 3) rfl sc_law_is_check.nd (da_cons (de_ix (dv 1) de_int) (da_cons (de_slice (dv 1) (do_some de_int) do_none) da_nil)) rfl rfl (by decide) rfl rfl (by rfl)) (dss_cons (ds_if (dt_cmpA (c_eq hr) (dv 2) de_str) (dss_one (ds_ret (de_and (de_cmpA (c_eq hr) (de_len T.b_len (dv 3)) de_int) (de_one (de_own B.d_law_is_check G_law_is_check hr (by first | decide | omega) (da_cons (dv 0) (da_cons (de_ix (dv 3) de_int) da_nil))))))) dss_nil) (dss_cons (ds_if (dw_pt (dw_or (dt_cmpA c_nin (dv 2) (de_tup (da_cons de_str (da_cons de_str (da_cons de_str (da_cons de_str (da_cons de_str da_nil))))))) (dw_or1 (dt_cmpA (c_ne hr) (de_len T.b_len (dv 3)) de_int)))) (dss_one (ds_ret de_bl)) dss_nil) (dss_cons (ds_if (dt_cmpA c_in (dv 2) (de_tup (da_cons de_str (da_cons de_str da_nil)))) (dss_one (ds_ret (de_and (de_own B.d_law_is_check G_law_is_check hr (by first | decide | omega) (da_cons (dv 0) (da_cons (de_ix (dv 3) de_int) da_nil))) (de_one (de_own B.d_law_is_check G_law_is_check hr (by first | decide | omega) (da_cons (dv 0) (da_cons (de_ix (dv 3) de_int) da_nil))))))) dss_nil) (dss_cons (ds_set (i := 4) sc_law_is_check.nd (de_own B.d_law_kind G_law_kind hr (by first | decide | omega) (da_cons (dv 0) (da_cons (de_ix (dv 3) de_int) da_nil)))) (dss_cons (ds_if (dt_cmpA (c_eq hr) (dv 2) de_str) (dss_one (ds_ret (de_and (de_cmpA (c_ne hr) (dv 4) de_str) (de_one (de_own B.d_law_fits G_law_fits hr (by first | decide | omega) (da_cons (dv 4) (da_cons (de_ix (dv 3) de_int) da_nil))))))) dss_nil) (dss_cons (ds_if (dt_cmpA (c_eq hr) (dv 2) de_str) (dss_one (ds_ret (de_and (de_cmpA (c_eq hr) (dv 4) de_str) (de_one (de_own B.d_law_is_number G_law_is_number hr (by first | decide | omega) (da_cons (de_ix (dv 3) de_int) da_nil)))))) dss_nil) (dss_one (ds_ret (de_and (de_cmpA (c_ne hr) (dv 4) de_str) (de_one (de_cmpA (c_eq hr) (dv 4) (de_own B.d_law_kind G_law_kind hr (by first | decide | omega) (da_cons (dv 0) (da_cons (de_ix (dv 3) de_int) da_nil))))))))))))))))) (fun ds M k h => ?_)
  obtain ⟨cs, d, rfl, hcs, hd, hf, hk⟩ := h
  (refine ⟨rfl, ?_⟩; rw [show startD N_law_is_check [.lst (cs.map colD), d] = [some (.lst (cs.map colD)), some (d), none, none, none] from rfl])
  simp only [wNext, wSeq, wBreak, wContinue, wExpr, wRet, wRetN, wIfS, wSet, wAsg, wPar, wPar3, wFor, wSub, wTst, wOp, wChain, wNotT, wAndT, wOrT, wAndV, wOrV, wNotV, wIf, wNil, wCons, wTup, wLst, wLstM, wCall, wCall0, wVar, wC, wLc, wLcM, wYes, wiL, wiT, wiS, wiR, wiEnT, wiEnL, wiZip, wSl, woNone, woSome, wMt, wJoin, wGet, wUn, wTru, wDNew, fin, List.getElem?_cons_zero, List.getElem?_cons_succ, List.set_cons_zero, List.set_cons_succ]
  refine isi_tup hd ?_
  have no : ∀ d : D, (∀ s r, d ≠ .tup (.str s :: r)) → chkB cs n d = false := fun d hn => by
    cases n with
    | zero => rfl
    | succ n =>
      unfold chkB
      split
      · rfl
      · exact absurd rfl (hn _ _)
      · exact absurd rfl (hn _ _)
      · rfl
  cases d with
  | tup ds =>
    unfold okR at hd
    refine ff ⟨Nat.zero_le _, ne_mtE ?_⟩
    cases ds with
    | nil => rw [no _ (by intro s r e; cases e)] at hk; exact tt hk
    | cons x r =>
      refine ff (ix_tup (at0 _ _) (isi_str (okRs_mem hd.2 List.mem_cons_self) ?_))
      cases x with
      | str s =>
        refine ff (ix_tup (at0 _ _) (r_slT ?_))
        rw [show cutD (D.str s :: r) (some 1) none = r from cut_drop (D.str s :: r) 1]
        have hr : ∀ x ∈ r, okR M x := fun x hx => okRs_mem hd.2 (List.mem_cons_of_mem _ hx)
        refine eq_strA (bb (fun c1 => ?_) (fun c1 => ?_))
        · have e : s = Str.ofString "not" := of_decide_eq_true c1
          subst e
          by_cases hl : r.length = 1
          · obtain ⟨a, rfl⟩ := List.length_eq_one_iff.mp hl
            obtain ⟨m, rfl⟩ : ∃ m, n = m + 1 := ⟨n - 1, by rw [far_tup] at hf; omega⟩
            have hfa := far_tupL hf
            refine r_lenT (eq_int (ix_tup (at0 _ _) ⟨m, rfl, cs, a, rfl, hcs, hr a (by simp), hfa _ (by simp), ?_⟩))
            unfold chkB at hk
            simpa using hk
          · rw [chk_not hl] at hk
            refine r_lenT (eq_int ?_)
            have : decide ((r.length : Int) = 1) = false := decide_eq_false (by omega)
            rw [this]
            exact hk
        · have e1 : s ≠ Str.ofString "not" := of_decide_eq_false c1
          refine ⟨(show 5 ≤ sizeLine by decide), r_inS (l := [Str.ofString "and", Str.ofString "or", Str.ofString "is", Str.ofString "below", Str.ofString "like"]) ?_⟩
          by_cases c2 : s ∈ [Str.ofString "and", Str.ofString "or", Str.ofString "is", Str.ofString "below", Str.ofString "like"]
          · refine ff' (by rw [decide_eq_true c2]; rfl) (r_lenT (eq_int ?_))
            by_cases c3 : r.length = 2
            · obtain ⟨a, b, rfl⟩ : ∃ a b, r = [a, b] := by
                match r, c3 with
                | [a, b], _ => exact ⟨a, b, rfl⟩
              have ha := hr a (by simp)
              have hb := hr b (by simp)
              obtain ⟨m, rfl⟩ : ∃ m, n = m + 1 := ⟨n - 1, by rw [far_tup] at hf; omega⟩
              have hfa := far_tupL hf
              refine ff ⟨(show 2 ≤ sizeLine by decide), r_inS (l := [Str.ofString "and", Str.ofString "or"]) ?_⟩
              unfold chkB at hk
              by_cases c4 : s = Str.ofString "and" ∨ s = Str.ofString "or"
              · rw [if_pos c4] at hk
                refine tt' (by simpa using c4) (ix_tup (at0 _ _) ⟨m, rfl, cs, a, rfl, hcs, ha, hfa _ (by simp), ?_⟩)
                cases q : chkB cs m a with
                | false => rw [q] at hk; exact hk
                | true =>
                  rw [q] at hk
                  exact ix_tup (at1 _ _ _) ⟨m, rfl, cs, b, rfl, hcs, hb, hfa _ (by simp), hk⟩
              · rw [if_neg c4] at hk
                refine ff' (by simpa using c4) (ix_tup (at0 _ _) ⟨cs, a, rfl, hcs, ha, eq_strA ?_⟩)
                cases q : kindOf cs a with
                | none =>
                  rw [q] at hk
                  rw [kindE_none q]
                  refine bb (fun _ => eq_strA hk) (fun _ => eq_strA (bb (fun _ => eq_strA hk) (fun _ => eq_strA hk)))
                | some kd =>
                  rw [q] at hk
                  rw [kindE_some q]
                  have hkd := kindOf_kd hcs.kd q
                  have nek : decide (kd = Str.ofString "") = false := decide_eq_false (kd_ne hkd)
                  simp only at hk
                  by_cases w1 : s = Str.ofString "is"
                  · rw [if_pos w1] at hk
                    refine tt' (decide_eq_true w1) (eq_strA ?_)
                    rw [nek]
                    exact ix_tup (at1 _ _ _) ⟨kd, b, rfl, hkd, hb, hk⟩
                  · rw [if_neg w1] at hk
                    refine ff' (decide_eq_false w1) (eq_strA ?_)
                    by_cases w2 : s = Str.ofString "below"
                    · rw [if_pos w2] at hk
                      refine tt' (decide_eq_true w2) (eq_strA ?_)
                      by_cases w4 : kd = Str.ofString "number"
                      · simp only [w4, decide_true, Bool.true_and, id] at hk ⊢
                        exact ix_tup (at1 _ _ _) ⟨b, rfl, hb, hk⟩
                      · simp only [w4, decide_false, Bool.false_and, id] at hk ⊢
                        exact hk
                    · rw [if_neg w2] at hk
                      have w3 : s = Str.ofString "like" := by
                        simp only [List.mem_cons, List.not_mem_nil, or_false] at c2
                        rcases c2 with h | h | h | h | h
                        · exact absurd (.inl h) c4
                        · exact absurd (.inr h) c4
                        · exact absurd h w1
                        · exact absurd h w2
                        · exact h
                      rw [if_pos w3] at hk
                      refine ff' (decide_eq_false w2) (eq_strA ?_)
                      rw [nek]
                      refine ix_tup (at1 _ _ _) ⟨cs, b, rfl, hcs, hb, eq_strA ?_⟩
                      cases q3 : kindOf cs b with
                      | none =>
                        rw [q3] at hk
                        rw [kindE_none q3]
                        have : decide (kd = Str.ofString "") = false := nek
                        rw [this]
                        exact hk
                      | some kd2 =>
                        rw [q3] at hk
                        rw [kindE_some q3]
                        have : decide (kd = kd2) = decide (some kd2 = some kd) := by
                          rw [decide_eq_decide]
                          exact ⟨fun h => by rw [h], fun h => (Option.some.inj h).symm⟩
                        rw [this]; exact hk
            · rw [chk_two e1 c3] at hk
              have : decide ((r.length : Int) = 2) = false := decide_eq_false (by omega)
              rw [this]
              exact tt hk
          · refine tt' (by rw [decide_eq_false c2]; rfl) ?_
            have : chkB cs n (.tup (.str s :: r)) = false := chk_form (by
              cases q : formB (.tup (.str s :: r)) with
              | false => rfl
              | true =>
                rcases form_cases q with ⟨a, e⟩ | ⟨s', a, b, e, hs⟩
                · cases e; exact absurd rfl e1
                · cases e
                  refine absurd ?_ c2
                  simp only [List.mem_cons, List.not_mem_nil, or_false] at hs ⊢
                  rcases hs with h | h | h | h | h <;> simp [h])
            rw [this] at hk
            simp only [if_true]
            exact hk
      | _ => rw [no _ (by intro s r e; cases e)] at hk; exact tt hk
  | _ => rw [no _ (by intro s r e; cases e)] at hk; exact tt hk
theorem ok_lis_check (T : Txt K mg) (B : DD K mg) (TW : TxtW K w mg B) : ∀ n, DFn P w K mg base (3 + n) B.f_law_is_check B.fd_law_is_check p_law_is_check (F_lis_check n)
  | 0 => lchk_step T B TW (L := 2) (Nat.le_refl 2) (DFn.weak DFn.none fun ds M k ⟨m, e, _⟩ => by cases e)
  | n + 1 => lchk_step T B TW (n := n + 1) (L := 3 + n) (by omega) (DFn.weak (ok_lis_check T B TW n) fun ds M k ⟨m, e, h⟩ => by
      cases e
      exact h)
end
end K04

set_option autoImplicit false
set_option maxRecDepth 100000
set_option maxHeartbeats 4000000
namespace K04
open PySem L2 DL
section
variable {P : Program} {w : World} {K : PySem.W.Frag} {mg : Str → Option Value} {base : Heap}
def optL : Option Cols → D
  | some cs => .lst (cs.map colD)
  | none => .non
def unlikeNB : D → Bool
  | .tup xs => (match strsN xs with | some l => decide l.Nodup | none => false)
  | _ => false
def F_lunlike : FD := fun ds M k => ∃ d, ds = [d] ∧ okR M d ∧ k (.bl (unlikeNB d)) M
theorem r_lenSetTL {M : Mem} {k : KD} {l : List Str} (h : l.length ≤ 4000) (hk : k (.int (TS.uni l).length) M) : rdLenSetT [.tup (l.map D.str)] M k := by
  unfold rdLenSetT
  simp only [strsD_map]
  exact ⟨(by show l.length + 1 < 4096; omega), hk⟩
theorem ok_lunlike (T : Txt K mg) (B : DD K mg) : DFn P w K mg base 2 B.f_law_are_unlike B.fd_law_are_unlike p_law_are_unlike F_lunlike := by
  have G_law_is_name : DFn P w K mg base 1 B.f_law_is_name B.fd_law_is_name p_law_is_name F_lis_name := ok_lis_name T B.d_law_is_name
  refine Fun.okD B.d_law_are_unlike.F sc_law_are_unlike (fun cdv A outer s H E hr => (dss_one (ds_ret (de_and (de_isi T.b_isinstance (dv 0) (de_ty (n := "tuple") T.b_tuple (by decide +kernel))) (de_and (de_all rfl T.b_all (de_lc rfl sc_law_are_unlike.nd (di_tup (dv 0)) (blkOk_by (own := [("name", 1)]) (N := N_law_are_unlike) (sc := defScope s_law_are_unlike) (by decide +kernel)) (fun _ _ _ _ _ => (dg_name (i := 1) sc_law_are_unlike.nd)) gd_name (fun _ _ _ _ _ => dts_nil) (fun _ _ _ _ _ => (de_own B.d_law_is_name G_law_is_name hr (by first | decide | omega) (da_cons (dv 1) da_nil))))) (de_one (de_cmpA (c_eq hr) (de_lenSetT rfl T.b_len T.b_set (dv 0)) (de_len T.b_len (dv 0))))))))) (fun ds M k h => ?_)
  obtain ⟨d, rfl, hd, hk⟩ := h
  (refine ⟨rfl, ?_⟩; rw [show startD N_law_are_unlike [d] = [some (d), none] from rfl])
  simp only [wNext, wSeq, wBreak, wContinue, wExpr, wRet, wRetN, wIfS, wSet, wAsg, wPar, wPar3, wFor, wSub, wTst, wOp, wChain, wNotT, wAndT, wOrT, wAndV, wOrV, wNotV, wIf, wNil, wCons, wTup, wLst, wLstM, wCall, wCall0, wVar, wC, wLc, wLcM, wYes, wiL, wiT, wiS, wiR, wiEnT, wiEnL, wiZip, wSl, woNone, woSome, wMt, wJoin, wGet, wUn, wTru, wDNew, fin, List.getElem?_cons_zero, List.getElem?_cons_succ, List.set_cons_zero, List.set_cons_succ]
  refine isi_tup hd ?_
  cases d with
  | tup xs =>
    unfold okR at hd
    refine lc_map (fun d => .bl (isNameB d)) (G := gAny) (M := M) trivial _ _ _ (fun d hm => ⟨_, rfl, fun k' hk' => ⟨d, rfl, okRs_mem hd.2 hm, hk'⟩⟩) (z1 (by simp; omega)) (r_allL ?_)
    simp only [unlikeNB] at hk
    rcases strsN_all xs with ⟨a, l, b, rfl⟩ | ⟨a, b⟩
    · rw [b] at hk
      rw [a]
      have hl : l.length ≤ 1000 := by simpa using hd.1
      refine r_lenSetTL (by omega) (r_lenT (eq_int ?_))
      rw [List.length_map, uni_eq]
      exact hk
    · rw [b] at hk
      rw [a]; exact hk
  | _ => exact hk
theorem colsAt_names {cs : Cols} : ∀ {xs : List D} {m : Cols}, colsAt cs xs = some m → strsN xs = some (m.map (·.1))
  | [], m, h => by cases h; rfl
  | x :: r, m, h => by
    unfold colsAt at h
    split at h
    · rename_i c l h1 h2
      cases h
      obtain ⟨_, e⟩ := colAt_mem h1
      subst e
      have nm : isNm c.1 = true := by
        unfold colAt at h1
        simp only at h1
        split at h1
        · assumption
        · cases h1
      unfold strsN
      rw [nm, colsAt_names h2]; rfl
    · cases h
theorem named_unlike {cs : Cols} {d : D} {l : Cols} (h : namedC cs d = some l) : unlikeNB d = true := by
  unfold namedC at h
  split at h
  · split at h
    · rename_i m hm
      obtain ⟨rfl, nd⟩ := unlike_some h
      unfold unlikeNB
      simp only
      rw [colsAt_names hm]
      exact decide_eq_true nd
    · cases h
  · cases h
/-- every one of these is a column, or one isn't -/
theorem kinds_all {cs : Cols} (hk : ∀ c ∈ cs, Kd c.2) : ∀ xs : List D, (xs.all (fun d => !decide (kindE cs d = Str.ofString "")) = true ∧ ∃ m, colsAt cs xs = some m ∧ xs.map (fun d => D.tup [d, .str (kindE cs d)]) = m.map colD) ∨ (xs.all (fun d => !decide (kindE cs d = Str.ofString "")) = false ∧ colsAt cs xs = none)
  | [] => .inl ⟨rfl, [], rfl, rfl⟩
  | x :: r => by
    rw [List.all_cons]
    have ek := colAt_kind cs x
    unfold colsAt
    cases q : colAt cs x with
    | none =>
      rw [q] at ek
      rw [kindE_none ek]
      exact .inr ⟨rfl, rfl⟩
    | some c =>
      rw [q] at ek
      obtain ⟨hm, hx⟩ := colAt_mem q
      rw [kindE_some ek, decide_eq_false (kd_ne (hk c hm))]
      rcases kinds_all hk r with ⟨a, m, b, e⟩ | ⟨a, b⟩
      · rw [b]
        refine .inl ⟨by rw [a]; rfl, c :: m, rfl, ?_⟩
        rw [List.map_cons, List.map_cons, e, kindE_some ek, hx]; rfl
      · rw [b]; exact .inr ⟨by rw [a]; rfl, rfl⟩
def F_ltaken : FD := fun ds M k => ∃ (cs : Cols) (d : D), ds = [.lst (cs.map colD), d] ∧ CsOk cs ∧ okR M d ∧ k (optL (namedC cs d)) M
theorem ok_ltaken (T : Txt K mg) (B : DD K mg) : DFn P w K mg base 3 B.f_law_taken B.fd_law_taken p_law_taken F_ltaken := by
  have G_law_are_unlike : DFn P w K mg base 2 B.f_law_are_unlike B.fd_law_are_unlike p_law_are_unlike F_lunlike := ok_lunlike T B
  have G_law_kind : DFn P w K mg base 1 B.f_law_kind B.fd_law_kind p_law_kind F_lkind := ok_lkind T B
  refine Fun.okD B.d_law_taken.F sc_law_taken (fun cdv A outer s H E hr => (dss_cons (ds_if (dw_pt (dw_or (dt_not (dt_val (de_own B.d_law_are_unlike G_law_are_unlike hr (by first | decide | omega) (da_cons (dv 1) da_nil)))) (dw_or1 (dt_not (dt_val (de_all rfl T.b_all (de_lc rfl sc_law_taken.nd (di_tup (dv 1)) (blkOk_by (own := [("name", 2)]) (N := N_law_taken) (sc := defScope s_law_taken) (by decide +kernel)) (fun _ _ _ _ _ => (dg_name (i := 2) sc_law_taken.nd)) gd_name (fun _ _ _ _ _ => dts_nil) (fun _ _ _ _ _ => (de_cmpA (c_ne hr) (de_own B.d_law_kind G_law_kind hr (by first | decide | omega) (da_cons (dv 0) (da_cons (dv 2) da_nil))) de_str))))))))) (dss_one (ds_ret de_non)) dss_nil) (dss_one (ds_ret (de_lc rfl sc_law_taken.nd (di_tup (dv 1)) (blkOk_by (own := [("name", 2)]) (N := N_law_taken) (sc := defScope s_law_taken) (by decide +kernel)) (fun _ _ _ _ _ => (dg_name (i := 2) sc_law_taken.nd)) gd_name (fun _ _ _ _ _ => dts_nil) (fun _ _ _ _ _ => (de_tup (da_cons (dv 2) (da_cons (de_own B.d_law_kind G_law_kind hr (by first | decide | omega) (da_cons (dv 0) (da_cons (dv 2) da_nil))) da_nil))))))))) (fun ds M k h => ?_)
  obtain ⟨cs, d, rfl, hcs, hd, hk⟩ := h
  (refine ⟨rfl, ?_⟩; rw [show startD N_law_taken [.lst (cs.map colD), d] = [some (.lst (cs.map colD)), some (d), none] from rfl])
  simp only [wNext, wSeq, wBreak, wContinue, wExpr, wRet, wRetN, wIfS, wSet, wAsg, wPar, wPar3, wFor, wSub, wTst, wOp, wChain, wNotT, wAndT, wOrT, wAndV, wOrV, wNotV, wIf, wNil, wCons, wTup, wLst, wLstM, wCall, wCall0, wVar, wC, wLc, wLcM, wYes, wiL, wiT, wiS, wiR, wiEnT, wiEnL, wiZip, wSl, woNone, woSome, wMt, wJoin, wGet, wUn, wTru, wDNew, fin, List.getElem?_cons_zero, List.getElem?_cons_succ, List.set_cons_zero, List.set_cons_succ]
  refine ⟨d, rfl, hd, ?_⟩
  cases q : unlikeNB d with
  | false =>
    have : namedC cs d = none := by
      cases e : namedC cs d with
      | none => rfl
      | some l => rw [named_unlike e] at q; cases q
    rw [this] at hk
    exact tt hk
  | true =>
    refine ff ?_
    cases d with
    | tup xs =>
      unfold okR at hd
      refine lc_map (fun d => .bl (!decide (kindE cs d = Str.ofString ""))) (G := gAny) (M := M) trivial _ _ _ (fun d hm => ⟨_, rfl, fun k' hk' => ?_⟩) (z1 (by simp; omega)) (r_allL ?_)
      · simp only [wNext, wSeq, wBreak, wContinue, wExpr, wRet, wRetN, wIfS, wSet, wAsg, wPar, wPar3, wFor, wSub, wTst, wOp, wChain, wNotT, wAndT, wOrT, wAndV, wOrV, wNotV, wIf, wNil, wCons, wTup, wLst, wLstM, wCall, wCall0, wVar, wC, wLc, wLcM, wYes, wiL, wiT, wiS, wiR, wiEnT, wiEnL, wiZip, wSl, woNone, woSome, wMt, wJoin, wGet, wUn, wTru, wDNew, fin, List.getElem?_cons_zero, List.getElem?_cons_succ, List.set_cons_zero, List.set_cons_succ, wipeD, List.map]
        exact ⟨cs, d, rfl, hcs, okRs_mem hd.2 hm, eq_strA hk'⟩
      rcases kinds_all hcs.kd xs with ⟨a, m, b, e⟩ | ⟨a, b⟩
      · rw [a]
        refine ff ?_
        refine lc_map (fun d => D.tup [d, .str (kindE cs d)]) (G := gAny) (M := M) trivial _ _ _ (fun d hm => ⟨_, rfl, fun k' hk' => ?_⟩) (z1 (by simp; omega)) ?_
        · simp only [wNext, wSeq, wBreak, wContinue, wExpr, wRet, wRetN, wIfS, wSet, wAsg, wPar, wPar3, wFor, wSub, wTst, wOp, wChain, wNotT, wAndT, wOrT, wAndV, wOrV, wNotV, wIf, wNil, wCons, wTup, wLst, wLstM, wCall, wCall0, wVar, wC, wLc, wLcM, wYes, wiL, wiT, wiS, wiR, wiEnT, wiEnL, wiZip, wSl, woNone, woSome, wMt, wJoin, wGet, wUn, wTru, wDNew, fin, List.getElem?_cons_zero, List.getElem?_cons_succ, List.set_cons_zero, List.set_cons_succ, wipeD, List.map]
          exact ⟨cs, d, rfl, hcs, okRs_mem hd.2 hm, ⟨(show 2 ≤ sizeLine by decide), hk'⟩⟩
        rw [List.nil_append, e]
        have : namedC cs (.tup xs) = some m := by
          unfold namedC
          simp only [b]
          unfold unlikeNB at q
          simp only [colsAt_names b] at q
          unfold unlikeC
          rw [if_pos (of_decide_eq_true q)]
        rw [this] at hk
        exact hk
      · rw [a]
        have : namedC cs (.tup xs) = none := by unfold namedC; simp only [b]
        rw [this] at hk
        exact tt hk
    | _ => cases q
theorem tT {A B : Prop} (h : A) : (if True then A else B) := by rw [if_pos trivial]; exact h
theorem fF {A B : Prop} (h : B) : (if False then A else B) := by rw [if_neg id]; exact h
def F_lsum : FD := fun ds M k => ∃ (cs : Cols) (d : D), ds = [.lst (cs.map colD), d] ∧ CsOk cs ∧ okR M d ∧ k (optP (sumCol cs d)) M
theorem ok_lsum (T : Txt K mg) (B : DD K mg) : DFn P w K mg base 2 B.f_law_sum B.fd_law_sum p_law_sum F_lsum := by
  have G_law_is_name : DFn P w K mg base 1 B.f_law_is_name B.fd_law_is_name p_law_is_name F_lis_name := ok_lis_name T B.d_law_is_name
  have G_law_kind : DFn P w K mg base 1 B.f_law_kind B.fd_law_kind p_law_kind F_lkind := ok_lkind T B
  refine Fun.okD B.d_law_sum.F sc_law_sum (fun cdv A outer s H E hr => (dss_cons (ds_if (dw_pt (dw_or (dt_not (dt_val (de_isi T.b_isinstance (dv 1) (de_ty (n := "tuple") T.b_tuple (by decide +kernel))))) (dw_or (dt_cmpA (c_ne hr) (de_len T.b_len (dv 1)) de_int) (dw_or (dt_not (dt_val (de_own B.d_law_is_name G_law_is_name hr (by first | decide | omega) (da_cons (de_ix (dv 1) de_int) da_nil)))) (dw_or1 (dt_not (dt_val (de_isi T.b_isinstance (de_ix (dv 1) de_int) (de_ty (n := "str") T.b_str (by decide +kernel)))))))))) (dss_one (ds_ret de_non)) dss_nil) (dss_cons (ds_set (i := 2) sc_law_sum.nd (de_own B.d_law_kind G_law_kind hr (by first | decide | omega) (da_cons (dv 0) (da_cons (de_ix (dv 1) de_int) da_nil)))) (dss_cons (ds_if (dw_pt (dw_or (dw_pt (dw_and (dt_cmpA (c_eq hr) (de_ix (dv 1) de_int) de_str) (dw_and1 (dt_cmpA c_is (de_ix (dv 1) de_int) de_non)))) (dw_or1 (dw_pt (dw_and (dt_cmpA (c_eq hr) (de_ix (dv 1) de_int) de_str) (dw_and1 (dt_cmpA (c_eq hr) (dv 2) de_str))))))) (dss_one (ds_ret (de_tup (da_cons (de_ix (dv 1) de_int) (da_cons de_str da_nil))))) dss_nil) (dss_one (ds_ret (de_if (dw_pt (dw_and (dt_cmpA c_in (de_ix (dv 1) de_int) (de_tup (da_cons de_str (da_cons de_str da_nil)))) (dw_and1 (dt_cmpA (c_ne hr) (dv 2) de_str)))) (de_tup (da_cons (de_ix (dv 1) de_int) (da_cons (dv 2) da_nil))) de_non))))))) (fun ds M k h => ?_)
  obtain ⟨cs, d, rfl, hcs, hd, hk⟩ := h
  (refine ⟨rfl, ?_⟩; rw [show startD N_law_sum [.lst (cs.map colD), d] = [some (.lst (cs.map colD)), some (d), none] from rfl])
  simp only [wNext, wSeq, wBreak, wContinue, wExpr, wRet, wRetN, wIfS, wSet, wAsg, wPar, wPar3, wFor, wSub, wTst, wOp, wChain, wNotT, wAndT, wOrT, wAndV, wOrV, wNotV, wIf, wNil, wCons, wTup, wLst, wLstM, wCall, wCall0, wVar, wC, wLc, wLcM, wYes, wiL, wiT, wiS, wiR, wiEnT, wiEnL, wiZip, wSl, woNone, woSome, wMt, wJoin, wGet, wUn, wTru, wDNew, fin, List.getElem?_cons_zero, List.getElem?_cons_succ, List.set_cons_zero, List.set_cons_succ]
  refine isi_tup hd ?_
  cases d with
  | tup ds =>
    unfold okR at hd
    refine ff (r_lenT (eq_int ?_))
    by_cases hl : ds.length = 3
    · obtain ⟨n, w', c, rfl⟩ : ∃ n w c, ds = [n, w, c] := by
        match ds, hl with
        | [a, b, c], _ => exact ⟨a, b, c, rfl⟩
      have hn := okRs_mem hd.2 (d := n) (by simp)
      have hw := okRs_mem hd.2 (d := w') (by simp)
      have hc := okRs_mem hd.2 (d := c) (by simp)
      rw [sumCol_three] at hk
      refine ff (ix_tup (at0 _ _) ⟨n, rfl, hn, ?_⟩)
      cases qn : isNameB n with
      | false =>
        have : sumFin n (sumKind cs w' c) = none := by
          cases n with
          | str s =>
            have : isNm s = false := qn
            unfold sumFin
            simp only [this]
            split <;> rfl
          | _ => rfl
        rw [this] at hk
        exact tt hk
      | true =>
        refine ff (ix_tup (at1 _ _ _) (isi_str hw ?_))
        cases n with
        | str s =>
          have hs : isNm s = true := qn
          have fin' : ∀ o, sumFin (.str s) o = o.map (fun k => (s, k)) := fun o => by
            cases o with
            | none => rfl
            | some k => unfold sumFin; simp only [hs, if_true]; rfl
          rw [fin'] at hk
          cases w' with
          | str u =>
            refine ff (ix_tup (at2 _ _ _ _) ⟨cs, c, rfl, hcs, hc, ?_⟩)
            rw [sumKind_str] at hk
            have lm : ∀ v : Str, decide (v ∈ [Str.ofString "least", Str.ofString "most"]) = decide (v = Str.ofString "least" ∨ v = Str.ofString "most") := fun v => by
              rw [decide_eq_decide]; simp
            by_cases u1 : u = Str.ofString "count"
            · subst u1
              refine ix_tup (at1 _ _ _) (eq_strA (tt' (decide_eq_true rfl) (ix_tup (at2 _ _ _ _) (isn_ok hc ?_))))
              cases qc : isNon c with
              | true =>
                rw [if_pos ⟨rfl, qc⟩] at hk
                exact tt (tT (ix_tup (at0 _ _) ⟨(show 2 ≤ sizeLine by decide), hk⟩))
              | false =>
                rw [if_neg (fun z => by rw [qc] at z; cases z.2)] at hk
                have hk : k .non M := by
                  cases q : kindOf cs c with
                  | none => rw [q] at hk; exact hk
                  | some kd => rw [q] at hk; simp only at hk; rw [if_neg (fun z => by rcases z with z | z | z; exact absurd z (by decide); exact absurd z (by decide); exact absurd z.1 (by decide))] at hk; exact hk
                exact ff (ix_tup (at1 _ _ _) (eq_strA (ff' (by decide) (ff (ix_tup (at1 _ _ _) ⟨(show 2 ≤ sizeLine by decide), r_inS (l := [Str.ofString "least", Str.ofString "most"]) (ff' (by decide) (ff hk))⟩)))))
            · rw [if_neg (fun z => u1 z.1)] at hk
              refine ix_tup (at1 _ _ _) (eq_strA (ff' (decide_eq_false u1) (ff (ix_tup (at1 _ _ _) (eq_strA ?_)))))
              by_cases u2 : u = Str.ofString "sum"
              · subst u2
                refine tt' (decide_eq_true rfl) (eq_strA ?_)
                cases q : kindOf cs c with
                | none =>
                  rw [q] at hk
                  rw [kindE_none q]
                  refine ff' (by decide) (ix_tup (at1 _ _ _) ⟨(show 2 ≤ sizeLine by decide), r_inS (l := [Str.ofString "least", Str.ofString "most"]) (ff' (by decide) (ff ?_))⟩)
                  exact hk
                | some kd =>
                  rw [q] at hk
                  simp only at hk
                  rw [kindE_some q]
                  by_cases e : kd = Str.ofString "number"
                  · rw [if_pos (.inr (.inr ⟨trivial, e⟩))] at hk
                    subst e
                    exact tt' (decide_eq_true rfl) (ix_tup (at0 _ _) ⟨(show 2 ≤ sizeLine by decide), hk⟩)
                  · rw [if_neg (fun z => by rcases z with z | z | z; exact absurd z (by decide); exact absurd z (by decide); exact e z.2)] at hk
                    refine ff' (decide_eq_false e) (ix_tup (at1 _ _ _) ⟨(show 2 ≤ sizeLine by decide), r_inS (l := [Str.ofString "least", Str.ofString "most"]) (ff' (by decide) (ff ?_))⟩)
                    exact hk
              · refine ff' (decide_eq_false u2) (ff (ix_tup (at1 _ _ _) ⟨(show 2 ≤ sizeLine by decide), r_inS (l := [Str.ofString "least", Str.ofString "most"]) ?_⟩))
                rw [lm]
                by_cases u3 : u = Str.ofString "least" ∨ u = Str.ofString "most"
                · refine tt' (decide_eq_true u3) (eq_strA ?_)
                  cases q : kindOf cs c with
                  | none =>
                    rw [q] at hk
                    rw [kindE_none q]
                    exact ff' (by decide) hk
                  | some kd =>
                    rw [q] at hk
                    simp only at hk
                    rw [if_pos (by rcases u3 with z | z; exact .inl z; exact .inr (.inl z))] at hk
                    rw [kindE_some q]
                    refine tt' (by rw [decide_eq_false (kd_ne (kindOf_kd hcs.kd q))]; rfl) (ix_tup (at0 _ _) ⟨(show 2 ≤ sizeLine by decide), hk⟩)
                · refine ff' (decide_eq_false u3) (ff ?_)
                  have hk : k .non M := by
                    cases q : kindOf cs c with
                    | none => rw [q] at hk; exact hk
                    | some kd => rw [q] at hk; simp only at hk; rw [if_neg (fun z => by rcases z with z | z | z; exact u3 (.inl z); exact u3 (.inr z); exact u2 z.1)] at hk; exact hk
                  exact hk
          | _ => exact tt hk
        | _ => cases qn
    · have : decide ((ds.length : Int) = 3) = false := decide_eq_false (by omega)
      rw [this]
      have e : sumCol cs (.tup ds) = none := by
        unfold sumCol
        split <;> simp_all
      rw [e] at hk
      exact tt hk
  | _ => exact tt hk
end
end K04

set_option autoImplicit false
set_option maxRecDepth 100000
set_option maxHeartbeats 4000000
namespace K04
open PySem L2 DL
section
variable {P : Program} {w : World} {K : PySem.W.Frag} {mg : Str → Option Value} {base : Heap}
def F_lsumsf : FD := fun ds M k => ∃ (cs : Cols) (x y z : D) (n : Nat), ds = [.lst (cs.map colD), .tup [x, y, z]] ∧ Snd n cs ∧ n ≤ 2000 ∧ okR M x ∧ okR M y ∧ k (optL (sumsC cs x y)) M
theorem ok_lsumsf (T : Txt K mg) (B : DD K mg) : DFn P w K mg base 4 B.f_law_sums_found B.fd_law_sums_found p_law_sums_found F_lsumsf := by
  have G_law_taken : DFn P w K mg base 3 B.f_law_taken B.fd_law_taken p_law_taken F_ltaken := ok_ltaken T B
  have G_law_sum : DFn P w K mg base 2 B.f_law_sum B.fd_law_sum p_law_sum F_lsum := ok_lsum T B
  refine Fun.okD B.d_law_sums_found.F sc_law_sums_found (fun cdv A outer s H E hr => (dss_cons (ds_if (dw_pt (dw_or (dt_cmpA c_is (dv 0) de_non) (dw_or (dt_not (dt_val (de_isi T.b_isinstance (de_ix (dv 1) de_int) (de_ty (n := "tuple") T.b_tuple (by decide +kernel))))) (dw_or1 (dt_cmpA (c_eqMt hr) (de_ix (dv 1) de_int) (de_tup da_nil)))))) (dss_one (ds_ret de_non)) dss_nil) (dss_cons (ds_par (i := 2) (j := 3) rfl sc_law_sums_found.nd (da_cons (de_own B.d_law_taken G_law_taken hr (by first | decide | omega) (da_cons (dv 0) (da_cons (de_ix (dv 1) de_int) da_nil))) (da_cons (de_lc rfl sc_law_sums_found.nd (di_tup (de_ix (dv 1) de_int)) (blkOk_by (own := [("thing", 4)]) (N := N_law_sums_found) (sc := defScope s_law_sums_found) (by decide +kernel)) (fun _ _ _ _ _ => (dg_name (i := 4) sc_law_sums_found.nd)) gd_name (fun _ _ _ _ _ => dts_nil) (fun _ _ _ _ _ => (de_own B.d_law_sum G_law_sum hr (by first | decide | omega) (da_cons (dv 0) (da_cons (dv 4) da_nil))))) da_nil)) rfl rfl (by decide) rfl rfl (by rfl)) (dss_cons (ds_if (dw_pt (dw_or (dt_cmpA c_is (dv 2) de_non) (dw_or1 (dt_cmpA (c_inD hr) de_non (dv 3))))) (dss_one (ds_ret de_non)) dss_nil) (dss_cons (ds_set (i := 5) sc_law_sums_found.nd (de_add (dv 2) (dv 3))) (dss_one (ds_ret (de_if (dt_cmpA (c_eq hr) (de_lenSet rfl T.b_len T.b_set (de_lc rfl sc_law_sums_found.nd (di_list (dv 5)) (blkOk_by (own := [("name", 6), ("kind", 7)]) (N := N_law_sums_found) (sc := defScope s_law_sums_found) (by decide +kernel)) (fun _ _ _ _ _ => (dg_tup rfl (dgs_cons (dg_name (i := 6) sc_law_sums_found.nd) (dgs_cons (dg_name (i := 7) sc_law_sums_found.nd) dgs_nil)) (gsCons_len (gsCons_len gsNil_len)))) (gd_tup (gds_cons gd_name (gds_cons gd_name gds_nil)) (gsCons_len (gsCons_len gsNil_len))) (fun _ _ _ _ _ => dts_nil) (fun _ _ _ _ _ => (dv 6)))) (de_len T.b_len (dv 5))) (dv 5) de_non)))))))) (fun ds M k h => ?_)
  obtain ⟨cs, x, y, z, n, rfl, hs, hn, hx, hy, hk⟩ := h
  (refine ⟨rfl, ?_⟩; rw [show startD N_law_sums_found [.lst (cs.map colD), .tup [x, y, z]] = [some (.lst (cs.map colD)), some (.tup [x, y, z]), none, none, none, none, none, none] from rfl])
  have hcs := hs.cs (Nat.le_trans hn (by decide))
  simp only [wNext, wSeq, wBreak, wContinue, wExpr, wRet, wRetN, wIfS, wSet, wAsg, wPar, wPar3, wFor, wSub, wTst, wOp, wChain, wNotT, wAndT, wOrT, wAndV, wOrV, wNotV, wIf, wNil, wCons, wTup, wLst, wLstM, wCall, wCall0, wVar, wC, wLc, wLcM, wYes, wiL, wiT, wiS, wiR, wiEnT, wiEnL, wiZip, wSl, woNone, woSome, wMt, wJoin, wGet, wUn, wTru, wDNew, fin, List.getElem?_cons_zero, List.getElem?_cons_succ, List.set_cons_zero, List.set_cons_succ]
  refine r_isL (ff (ix_tup (at1 _ _ _) (isi_tup hy ?_)))
  have noy : ∀ d : D, (∀ a r, d ≠ .tup (a :: r)) → sumsC cs x d = none := fun d hd => by
    unfold sumsC
    split
    · exact absurd rfl (hd _ _)
    · rfl
  cases y with
  | tup ys =>
    unfold okR at hy
    refine ff (ix_tup (at1 _ _ _) ⟨Nat.zero_le _, ne_mtE ?_⟩)
    cases ys with
    | nil =>
      rw [noy _ (by intro a r e; cases e)] at hk
      exact tt hk
    | cons y1 yr =>
      refine ff (ix_tup (at0 _ _) ⟨cs, x, rfl, hcs, hx, ix_tup (at1 _ _ _) ?_⟩)
      refine lc_map (fun d => optP (sumCol cs d)) (G := gAny) (M := M) trivial _ _ _ (fun d hd => ⟨_, rfl, fun k' hk' => ?_⟩) (z1 (by have := hy.1; simp at this ⊢; omega)) ?_
      · simp only [wNext, wSeq, wBreak, wContinue, wExpr, wRet, wRetN, wIfS, wSet, wAsg, wPar, wPar3, wFor, wSub, wTst, wOp, wChain, wNotT, wAndT, wOrT, wAndV, wOrV, wNotV, wIf, wNil, wCons, wTup, wLst, wLstM, wCall, wCall0, wVar, wC, wLc, wLcM, wYes, wiL, wiT, wiS, wiR, wiEnT, wiEnL, wiZip, wSl, woNone, woSome, wMt, wJoin, wGet, wUn, wTru, wDNew, fin, List.getElem?_cons_zero, List.getElem?_cons_succ, List.set_cons_zero, List.set_cons_succ, wipeD, List.map]
        exact ⟨cs, d, rfl, hcs, okRs_mem hy.2 hd, hk'⟩
      rw [List.nil_append]
      cases e : namedC cs x with
      | none =>
        simp only [sumsC, e] at hk
        exact r_isN (tt hk)
      | some g =>
        simp only [sumsC, e] at hk
        refine (show rdIs id (.lst (g.map colD)) .non M _ from r_isL (ff ?_))
        refine r_inDpNon (fun d hd => ?_) ?_
        · obtain ⟨z, hz, rfl⟩ := List.mem_map.mp hd
          cases q2 : sumCol cs z with
          | none => exact .inl rfl
          | some c =>
            obtain ⟨a, b⟩ := sumCol_snd hs.kd q2
            exact .inr ⟨c, rfl, ok_nm a, ok_kd b⟩
        rcases sumCols_all cs (y1 :: yr) with ⟨a, b⟩ | ⟨a, m, b, c, d⟩
        · simp only [b] at hk
          rw [a]; exact tt hk
        · simp only [b] at hk
          rw [a, c]
          have gl := (named_snd hs e).le
          have ml : m.length ≤ 1000 := by have := hy.1; omega
          refine ff (show rdAdd (.lst (g.map colD)) (.lst (m.map colD)) M _ from r_addL (by simpa using z1 (by omega)) ?_)
          rw [← List.map_append]
          simp only [asR]
          refine lc_map (fun d => match d with | D.tup [n, _] => n | d => d) (G := gAt (.lst ((g ++ m).map colD)) ((g ++ m).map colD)) (M := M) rfl _ _ _ (fun d hd => ?_) (z1 (by simp; omega)) ?_
          · obtain ⟨c', hc', rfl⟩ := List.mem_map.mp hd
            exact ⟨_, rfl, fun k' hk' => hk'⟩
          rw [List.nil_append, show ((g ++ m).map colD).map (fun d => match d with | D.tup [n, _] => n | d => d) = ((g ++ m).map (·.1)).map D.str from fst_cols (g ++ m)]
          refine r_lenSetL (by simp; omega) (r_lenL (eq_int ?_))
          have eu := uni_eq ((g ++ m).map (·.1))
          rw [List.length_map] at eu
          rw [List.length_map, eu]
          unfold unlikeC at hk
          by_cases q : ((g ++ m).map (·.1)).Nodup
          · rw [if_pos q] at hk
            exact tt' (decide_eq_true q) hk
          · rw [if_neg q] at hk
            exact ff' (decide_eq_false q) hk
  | _ =>
    rw [noy _ (by intro a r e; cases e)] at hk
    exact tt hk
def F_lorder : FD := fun ds M k => ∃ (cs : Cols) (d : D), ds = [.lst (cs.map colD), d] ∧ CsOk cs ∧ okR M d ∧ k (.bl (orderB cs d)) M
def two2 : D → Bool
  | .tup [_, _] => true
  | _ => false
def way2 : D → Bool
  | .tup [_, .str w] => decide (w = Str.ofString "up" ∨ w = Str.ofString "down")
  | _ => false
theorem step_two (d : D) : stepB d = (two2 d && way2 d) := by
  cases d with
  | tup ds =>
    match ds with
    | [] => rfl
    | [_] => rfl
    | [_, .str w] =>
      show (decide (w = Str.ofString "up") || decide (w = Str.ofString "down")) = (true && decide (w = Str.ofString "up" ∨ w = Str.ofString "down"))
      rw [Bool.eq_iff_iff]; simp
    | [_, .non] => rfl
    | [_, .bl _] => rfl
    | [_, .int _] => rfl
    | [_, .tup _] => rfl
    | [_, .lst _] => rfl
    | [_, .scr _] => rfl
    | [_, .cel _] => rfl
    | [_, .ty _] => rfl
    | _ :: b :: _ :: _ => cases b <;> rfl
  | _ => rfl
theorem all_both {α : Type} (p q : α → Bool) : ∀ xs : List α, xs.all (fun d => p d && q d) = (xs.all p && xs.all q)
  | [] => rfl
  | x :: r => by
    rw [List.all_cons, List.all_cons, List.all_cons, all_both p q r]
    cases p x <;> cases q x <;> cases r.all p <;> rfl
theorem ok_lorder (T : Txt K mg) (B : DD K mg) : DFn P w K mg base 4 B.f_law_is_order B.fd_law_is_order p_law_is_order F_lorder := by
  have G_law_taken : DFn P w K mg base 3 B.f_law_taken B.fd_law_taken p_law_taken F_ltaken := ok_ltaken T B
  refine Fun.okD B.d_law_is_order.F sc_law_is_order (fun cdv A outer s H E hr => (dss_cons (ds_if (dw_pt (dw_or (dt_not (dt_val (de_isi T.b_isinstance (dv 1) (de_ty (n := "tuple") T.b_tuple (by decide +kernel))))) (dw_or1 (dt_not (dt_val (de_all rfl T.b_all (de_lc rfl sc_law_is_order.nd (di_tup (dv 1)) (blkOk_by (own := [("pair", 2)]) (N := N_law_is_order) (sc := defScope s_law_is_order) (by decide +kernel)) (fun _ _ _ _ _ => (dg_name (i := 2) sc_law_is_order.nd)) gd_name (fun _ _ _ _ _ => dts_nil) (fun _ _ _ _ _ => (de_and (de_isi T.b_isinstance (dv 2) (de_ty (n := "tuple") T.b_tuple (by decide +kernel))) (de_one (de_cmpA (c_eq hr) (de_len T.b_len (dv 2)) de_int))))))))))) (dss_one (ds_ret de_bl)) dss_nil) (dss_cons (ds_if (dt_not (dt_val (de_all rfl T.b_all (de_lc rfl sc_law_is_order.nd (di_tup (dv 1)) (blkOk_by (own := [("pair", 2)]) (N := N_law_is_order) (sc := defScope s_law_is_order) (by decide +kernel)) (fun _ _ _ _ _ => (dg_name (i := 2) sc_law_is_order.nd)) gd_name (fun _ _ _ _ _ => dts_nil) (fun _ _ _ _ _ => (de_and (de_isi T.b_isinstance (de_ix (dv 2) de_int) (de_ty (n := "str") T.b_str (by decide +kernel))) (de_one (de_cmpA c_in (de_ix (dv 2) de_int) (de_tup (da_cons de_str (da_cons de_str da_nil))))))))))) (dss_one (ds_ret de_bl)) dss_nil) (dss_one (ds_ret (de_cmpA c_isn (de_own B.d_law_taken G_law_taken hr (by first | decide | omega) (da_cons (dv 0) (da_cons (de_tuple T.b_tuple (de_lc rfl sc_law_is_order.nd (di_tup (dv 1)) (blkOk_by (own := [("pair", 2)]) (N := N_law_is_order) (sc := defScope s_law_is_order) (by decide +kernel)) (fun _ _ _ _ _ => (dg_name (i := 2) sc_law_is_order.nd)) gd_name (fun _ _ _ _ _ => dts_nil) (fun _ _ _ _ _ => (de_ix (dv 2) de_int)))) da_nil))) de_non)))))) (fun ds M k h => ?_)
  obtain ⟨cs, d, rfl, hcs, hd, hk⟩ := h
  (refine ⟨rfl, ?_⟩; rw [show startD N_law_is_order [.lst (cs.map colD), d] = [some (.lst (cs.map colD)), some (d), none] from rfl])
  simp only [wNext, wSeq, wBreak, wContinue, wExpr, wRet, wRetN, wIfS, wSet, wAsg, wPar, wPar3, wFor, wSub, wTst, wOp, wChain, wNotT, wAndT, wOrT, wAndV, wOrV, wNotV, wIf, wNil, wCons, wTup, wLst, wLstM, wCall, wCall0, wVar, wC, wLc, wLcM, wYes, wiL, wiT, wiS, wiR, wiEnT, wiEnL, wiZip, wSl, woNone, woSome, wMt, wJoin, wGet, wUn, wTru, wDNew, fin, List.getElem?_cons_zero, List.getElem?_cons_succ, List.set_cons_zero, List.set_cons_succ]
  refine isi_tup hd ?_
  cases d with
  | tup xs =>
    unfold okR at hd
    simp only [orderB] at hk
    have se : xs.all stepB = (xs.all two2 && xs.all way2) := by
      rw [show stepB = fun d => (two2 d && way2 d) from funext step_two]
      exact all_both two2 way2 xs
    refine ff ?_
    refine lc_map (fun d => .bl (two2 d)) (G := gAny) (M := M) trivial _ _ _ (fun d hm => ⟨_, rfl, fun k' hk' => ?_⟩) (z1 (by simp; omega)) (r_allL ?_)
    · simp only [wNext, wSeq, wBreak, wContinue, wExpr, wRet, wRetN, wIfS, wSet, wAsg, wPar, wPar3, wFor, wSub, wTst, wOp, wChain, wNotT, wAndT, wOrT, wAndV, wOrV, wNotV, wIf, wNil, wCons, wTup, wLst, wLstM, wCall, wCall0, wVar, wC, wLc, wLcM, wYes, wiL, wiT, wiS, wiR, wiEnT, wiEnL, wiZip, wSl, woNone, woSome, wMt, wJoin, wGet, wUn, wTru, wDNew, fin, List.getElem?_cons_zero, List.getElem?_cons_succ, List.set_cons_zero, List.set_cons_succ, wipeD, List.map]
      have od := okRs_mem hd.2 hm
      refine isi_tup od ?_
      cases d with
      | tup ds =>
        refine r_lenT (eq_int ?_)
        have : decide ((ds.length : Int) = 2) = two2 (.tup ds) := by
          match ds with
          | [] => rfl
          | [_] => rfl
          | [_, _] => rfl
          | _ :: _ :: _ :: r => simp [two2]; omega
        rw [this]; exact hk'
      | _ => exact hk'
    cases q : xs.all two2 with
    | false =>
      rw [se, q] at hk
      exact tt hk
    | true =>
      rw [se, q] at hk
      simp only [Bool.true_and] at hk
      have sh : ∀ d ∈ xs, ∃ c w, d = .tup [c, w] := fun d hm => by
        have := List.all_eq_true.mp q d hm
        unfold two2 at this
        split at this
        · exact ⟨_, _, rfl⟩
        · cases this
      refine ff ?_
      refine lc_map (fun d => .bl (way2 d)) (G := gAny) (M := M) trivial _ _ _ (fun d hm => ⟨_, rfl, fun k' hk' => ?_⟩) (z1 (by simp; omega)) (r_allL ?_)
      · simp only [wNext, wSeq, wBreak, wContinue, wExpr, wRet, wRetN, wIfS, wSet, wAsg, wPar, wPar3, wFor, wSub, wTst, wOp, wChain, wNotT, wAndT, wOrT, wAndV, wOrV, wNotV, wIf, wNil, wCons, wTup, wLst, wLstM, wCall, wCall0, wVar, wC, wLc, wLcM, wYes, wiL, wiT, wiS, wiR, wiEnT, wiEnL, wiZip, wSl, woNone, woSome, wMt, wJoin, wGet, wUn, wTru, wDNew, fin, List.getElem?_cons_zero, List.getElem?_cons_succ, List.set_cons_zero, List.set_cons_succ, wipeD, List.map]
        have od := okRs_mem hd.2 hm
        obtain ⟨c, w', rfl⟩ := sh d hm
        unfold okR at od
        refine ix_tup (at1 _ _ _) (isi_str (okRs_mem od.2 (by simp)) ?_)
        cases w' with
        | str u =>
          refine ix_tup (at1 _ _ _) ⟨(show 2 ≤ sizeLine by decide), r_inS (l := [Str.ofString "up", Str.ofString "down"]) ?_⟩
          have : decide (u ∈ [Str.ofString "up", Str.ofString "down"]) = way2 (.tup [c, .str u]) := by
            show _ = decide (u = Str.ofString "up" ∨ u = Str.ofString "down")
            rw [decide_eq_decide]; simp
          rw [this]; exact hk'
        | _ => exact hk'
      cases q3 : xs.all way2 with
      | false => rw [q3] at hk; exact tt hk
      | true =>
        rw [q3] at hk
        simp only [Bool.true_and] at hk
        refine ff ?_
        refine lc_map hd2 (G := gAny) (M := M) trivial _ _ _ (fun d hm => ?_) (z1 (by simp; omega)) ?_
        · obtain ⟨c, w', rfl⟩ := sh d hm
          exact ⟨_, rfl, fun k' hk' => hk'⟩
        rw [List.nil_append]
        refine r_tupL ⟨cs, .tup (xs.map hd2), rfl, hcs, ?_, ?_⟩
        · unfold okR
          refine ⟨by simpa using hd.1, okRs_of fun e he => ?_⟩
          obtain ⟨z, hz, rfl⟩ := List.mem_map.mp he
          obtain ⟨c, w', rfl⟩ := sh z hz
          have := okRs_mem hd.2 hz
          unfold okR at this
          exact (show okR M c from okRs_mem this.2 (by simp))
        · cases e : namedC cs (.tup (xs.map hd2)) with
          | none => rw [e] at hk; exact r_isN hk
          | some m => rw [e] at hk; exact (show rdIs not (.lst (m.map colD)) .non M k from r_isL hk)
  | _ => exact tt hk
end
end K04

set_option autoImplicit false
set_option maxRecDepth 100000
set_option maxHeartbeats 4000000
namespace K04
open PySem L2 DL
section
variable {P : Program} {w : World} {K : PySem.W.Frag} {mg : Str → Option Value} {base : Heap}
/-- what the law's own look finds -/
def lF (ts : List (Str × Cols)) (n : Nat) (d : D) : Option Cols := qCols wAll (leafAll ts) n d
def F_lfound (n : Nat) : FD := fun ds M k => ∃ (ts : List (Str × Cols)) (d : D) (c : Nat), ds = [.tup (ts.map tabD), d] ∧ 1 ≤ c ∧ PlB c ts ∧ (∀ t ∈ ts, isNm t.1 = true) ∧ okR M d ∧ far d ≤ n ∧ c * cnt d ≤ 2000 ∧ wide d ≤ 90 ∧ ts.length ≤ 1000 ∧ ∀ M', Grow M M' → k (optL (lF ts n d)) M'
def F_sides (n : Nat) : FD := fun ds M k => ∃ (ts : List (Str × Cols)) (u : Str) (x y q r : D) (c : Nat), ds = [.tup (ts.map tabD), .str u, .tup [x, y, q, r]] ∧ (u = Str.ofString "join" ∨ u = Str.ofString "lacking") ∧ 1 ≤ c ∧ PlB c ts ∧ (∀ t ∈ ts, isNm t.1 = true) ∧
  okR M x ∧ okR M y ∧ okR M q ∧ okR M r ∧ far q ≤ n ∧ far r ≤ n ∧ c * (cnt q + cnt r) ≤ 2000 ∧ wide q ≤ 90 ∧ wide r ≤ 90 ∧ ts.length ≤ 1000 ∧ ∀ M', Grow M M' → k (optL (qStep (lF ts n) n (.tup [.str u, x, y, q, r]))) M'
theorem sides_ok (T : Txt K mg) (B : DD K mg) {n L : Nat} (hL : 1 ≤ L) (G_law_found : DFn P w K mg base L B.f_law_found B.fd_law_found p_law_found (F_lfound n)) : DFn P w K mg base (L + 1) B.f_law_sides_found B.fd_law_sides_found p_law_sides_found (F_sides n) := by
  have G_law_kind : DFn P w K mg base 1 B.f_law_kind B.fd_law_kind p_law_kind F_lkind := ok_lkind T B
  refine Fun.okD (k := L) B.d_law_sides_found.F sc_law_sides_found (fun cdv A outer s H E hr => (dss_cons (ds_par (i := 3) (j := 4) rfl sc_law_sides_found.nd (da_cons (de_own B.d_law_found G_law_found hr (by first | decide | omega) (da_cons (dv 0) (da_cons (de_ix (dv 2) de_int) da_nil))) (da_cons (de_own B.d_law_found G_law_found hr (by first | decide | omega) (da_cons (dv 0) (da_cons (de_ix (dv 2) de_int) da_nil))) da_nil)) rfl rfl (by decide) rfl rfl (by rfl)) (dss_cons (ds_if (dw_pt (dw_or (dt_cmpA c_is (dv 3) de_non) (dw_or (dt_cmpA c_is (dv 4) de_non) (dw_or1 (dt_cmpA (c_eq hr) (de_own B.d_law_kind G_law_kind hr (by first | decide | omega) (da_cons (dv 3) (da_cons (de_ix (dv 2) de_int) da_nil))) de_str))))) (dss_one (ds_ret de_non)) dss_nil) (dss_cons (ds_if (dt_cmpA (c_ne hr) (de_own B.d_law_kind G_law_kind hr (by first | decide | omega) (da_cons (dv 3) (da_cons (de_ix (dv 2) de_int) da_nil))) (de_own B.d_law_kind G_law_kind hr (by first | decide | omega) (da_cons (dv 4) (da_cons (de_ix (dv 2) de_int) da_nil)))) (dss_one (ds_ret de_non)) dss_nil) (dss_cons (ds_setLc (i := 5) rfl sc_law_sides_found.nd (di_list (de_add (dv 3) (dv 4))) (blkOk_by (own := [("name", 6), ("kind", 7)]) (N := N_law_sides_found) (sc := defScope s_law_sides_found) (by decide +kernel)) (fun _ _ _ _ _ => (dg_tup rfl (dgs_cons (dg_name (i := 6) sc_law_sides_found.nd) (dgs_cons (dg_name (i := 7) sc_law_sides_found.nd) dgs_nil)) (gsCons_len (gsCons_len gsNil_len)))) (gd_tup (gds_cons gd_name (gds_cons gd_name gds_nil)) (gsCons_len (gsCons_len gsNil_len))) (fun _ _ _ _ _ => dts_nil) (fun _ _ _ _ _ => (dv 6)) (sw_true rfl rfl rfl (by decide +kernel))) (dss_cons (ds_if (dt_cmpA (c_eq hr) (dv 1) de_str) (dss_one (ds_ret (dv 3))) dss_nil) (dss_one (ds_ret (de_if (dt_cmpA (c_eq hr) (de_lenSet rfl T.b_len T.b_set (dv 5)) (de_len T.b_len (dv 5))) (de_add (dv 3) (dv 4)) de_non))))))))) (fun ds M k h => ?_)
  obtain ⟨ts, u, x, y, q, r, c, rfl, hu, c1, hp, hnm, hx, hy, hq, hr', fq, fr, hc, wq, wr, hts, hk⟩ := h
  (refine ⟨rfl, ?_⟩; rw [show startD N_law_sides_found [.tup (ts.map tabD), .str u, .tup [x, y, q, r]] = [some (.tup (ts.map tabD)), some (.str u), some (.tup [x, y, q, r]), none, none, none, none, none] from rfl])
  simp only [wNext, wSeq, wBreak, wContinue, wExpr, wRet, wRetN, wIfS, wSet, wAsg, wPar, wPar3, wFor, wSub, wTst, wOp, wChain, wNotT, wAndT, wOrT, wAndV, wOrV, wNotV, wIf, wNil, wCons, wTup, wLst, wLstM, wCall, wCall0, wVar, wC, wLc, wLcM, wYes, wiL, wiT, wiS, wiR, wiEnT, wiEnL, wiZip, wSl, woNone, woSome, wMt, wJoin, wGet, wUn, wTru, wDNew, fin, List.getElem?_cons_zero, List.getElem?_cons_succ, List.set_cons_zero, List.set_cons_succ]
  have cq : c * cnt q ≤ 2000 := Nat.le_trans (Nat.mul_le_mul_left c (by omega)) hc
  have cr : c * cnt r ≤ 2000 := Nat.le_trans (Nat.mul_le_mul_left c (by omega)) hc
  refine ix_tup (at2 _ _ _ _) ⟨ts, q, c, rfl, c1, hp, hnm, hq, fq, cq, wq, hts, fun M1 g1 => ix_tup (show atI [x, y, q, r] 3 = some r from rfl) ⟨ts, r, c, rfl, c1, hp, hnm, g1.okR hr', fr, cr, wr, hts, fun M2 g2 => ?_⟩⟩
  have hk := hk M2 (g1.trans g2)
  have ox : okR M2 x := (g1.trans g2).okR hx
  have oy : okR M2 y := (g1.trans g2).okR hy
  have est : qStep (lF ts n) n (.tup [.str u, x, y, q, r]) = oneC (lF ts n) q (fun cs => oneC (lF ts n) r (fun ds => if pairB2 cs ds x y = true then (if u = Str.ofString "join" then unlikeC (cs ++ ds) else some cs) else none)) := by
    rcases hu with rfl | rfl
    · simp only [qStep, if_true]
    · simp only [qStep, show ¬ Str.ofString "lacking" = Str.ofString "join" by decide, if_false, if_true]
  rw [est] at hk
  clear est
  have sn := fun d cs e => q_snd (w := wAll) c1 (leaf_snd hp) n d cs e
  cases e1 : lF ts n q with
  | none =>
    simp only [oneC, e1] at hk
    exact r_isN (tt hk)
  | some cs =>
    refine (show rdIs id (.lst (cs.map colD)) .non M2 _ from r_isL (ff ?_))
    cases e2 : lF ts n r with
    | none =>
      simp only [oneC, e1, e2] at hk
      exact r_isN (tt hk)
    | some es =>
      refine (show rdIs id (.lst (es.map colD)) .non M2 _ from r_isL (ff ?_))
      have s1 := sn q cs e1
      have s2 := sn r es e2
      have k1 : CsOk cs := (s1.up cq).cs (by decide)
      have k2 : CsOk es := (s2.up cr).cs (by decide)
      have l1 : cs.length + es.length ≤ 2000 := by
        have := s1.le; have := s2.le
        have : c * cnt q + c * cnt r ≤ 2000 := by rw [← Nat.mul_add]; exact hc
        omega
      simp only [oneC, e1, e2] at hk
      refine ix_tup (at0 _ _) ⟨cs, x, rfl, k1, ox, eq_strA ?_⟩
      have pe : pairB2 cs es x y = (match kindOf cs x with | some k => decide (kindOf es y = some k) | none => false) := rfl
      rw [pe] at hk
      cases q1 : kindOf cs x with
      | none =>
        rw [q1] at hk
        rw [kindE_none q1]
        exact tt' (by decide) hk
      | some kd =>
        rw [q1] at hk
        rw [kindE_some q1]
        have hkd := kindOf_kd k1.kd q1
        refine ff' (decide_eq_false (kd_ne hkd)) (ix_tup (at0 _ _) ⟨cs, x, rfl, k1, ox, ix_tup (at1 _ _ _) ⟨es, y, rfl, k2, oy, eq_strA ?_⟩⟩)
        rw [kindE_some q1]
        have de : decide (kd = kindE es y) = decide (kindOf es y = some kd) := by
          cases q2 : kindOf es y with
          | none =>
            rw [kindE_none q2, decide_eq_false (kd_ne hkd)]; rfl
          | some kd2 =>
            rw [kindE_some q2, decide_eq_decide]
            exact ⟨fun z => by rw [z], fun z => (Option.some.inj z).symm⟩
        rw [de]
        by_cases q3 : kindOf es y = some kd
        · simp only [q3, decide_true, if_true] at hk ⊢
          refine ff (show rdAdd (.lst (cs.map colD)) (.lst (es.map colD)) M2 _ from r_addL (by simpa using z1 (by omega)) ?_)
          rw [← List.map_append]
          simp only [asR]
          refine lc_map (fun d => match d with | D.tup [n, _] => n | d => d) (G := gAt (.lst ((cs ++ es).map colD)) ((cs ++ es).map colD)) (M := M2) rfl _ _ _ (fun d hd => ?_) (z1 (by simp; omega)) ?_
          · obtain ⟨c', hc', rfl⟩ := List.mem_map.mp hd
            exact ⟨_, rfl, fun k' hk' => hk'⟩
          rw [List.nil_append, show ((cs ++ es).map colD).map (fun d => match d with | D.tup [n, _] => n | d => d) = ((cs ++ es).map (·.1)).map D.str from fst_cols (cs ++ es)]
          rcases hu with rfl | rfl
          · rw [if_pos rfl] at hk
            refine eq_strA (ff' (by decide) (r_lenSetL (by simp; omega) (r_lenL (eq_int ?_))))
            have eu := uni_eq ((cs ++ es).map (·.1))
            rw [List.length_map] at eu
            rw [List.length_map, List.length_map, eu]
            unfold unlikeC at hk
            by_cases nd : ((cs ++ es).map (·.1)).Nodup
            · rw [if_pos nd] at hk
              refine tt' (decide_eq_true nd) (show rdAdd (.lst (cs.map colD)) (.lst (es.map colD)) M2 k from r_addL (by simpa using z1 (by omega)) ?_)
              rw [← List.map_append]
              exact hk
            · rw [if_neg nd] at hk
              exact ff' (decide_eq_false nd) hk
          · rw [if_neg (by decide)] at hk
            exact eq_strA (tt' (by decide) hk)
        · simp only [q3, decide_false, Bool.false_eq_true, if_false] at hk ⊢
          exact tt hk
theorem r_neMtA {M : Mem} {x : D} {k : KD} (h : okR M x) (h1 : ∀ ds, x = .tup ds → k (.bl (!ds.isEmpty)) M) (h2 : (∀ ds, x ≠ .tup ds) → k (.bl true) M) : rdNeMtA x (.tup []) M k := by
  unfold rdNeMtA
  cases x with
  | tup ds => exact h1 ds rfl
  | scr _ => unfold okR at h; exact h.elim
  | ty _ => unfold okR at h; exact h.elim
  | cel a =>
    refine ⟨?_, h2 fun ds e => by cases e⟩
    unfold okR at h
    rw [tyD_cel] at h
    exact h
  | _ => exact h2 fun ds e => by cases e
def F_one (n : Nat) : FD := fun ds M k => ∃ (ts : List (Str × Cols)) (u : Str) (r : List D) (q : D) (c : Nat), ds = [.tup (ts.map tabD), .str u, .tup (r ++ [q])] ∧ ((u = Str.ofString "once" ∧ r = []) ∨ (u ∈ [Str.ofString "where", Str.ofString "pick", Str.ofString "called"] ∧ ∃ x, r = [x]) ∨ (u ∈ [Str.ofString "sums", Str.ofString "first"] ∧ ∃ x y, r = [x, y])) ∧ 1 ≤ c ∧ PlB c ts ∧ (∀ t ∈ ts, isNm t.1 = true) ∧
  (∀ x ∈ r, okR M x ∧ far x ≤ n) ∧ okR M q ∧ far q ≤ n ∧ c * cnt q ≤ 2000 ∧ wide q ≤ 90 ∧ ts.length ≤ 1000 ∧ ∀ M', Grow M M' → k (optL (qStep (lF ts n) n (.tup (.str u :: (r ++ [q]))))) M'
theorem one_ok (T : Txt K mg) (B : DD K mg) (TW : TxtW K w mg B) {n L : Nat} (hL : 3 + n ≤ L) (h4 : 4 ≤ L) (G_law_found : DFn P w K mg base L B.f_law_found B.fd_law_found p_law_found (F_lfound n)) : DFn P w K mg base (L + 1) B.f_law_one_found B.fd_law_one_found p_law_one_found (F_one n) := by
  have G_law_is_check : DFn P w K mg base (3 + n) B.f_law_is_check B.fd_law_is_check p_law_is_check (F_lis_check n) := ok_lis_check T B TW n
  have G_law_taken : DFn P w K mg base 3 B.f_law_taken B.fd_law_taken p_law_taken F_ltaken := ok_ltaken T B
  have G_law_are_unlike : DFn P w K mg base 2 B.f_law_are_unlike B.fd_law_are_unlike p_law_are_unlike F_lunlike := ok_lunlike T B
  have G_law_sums_found : DFn P w K mg base 4 B.f_law_sums_found B.fd_law_sums_found p_law_sums_found F_lsumsf := ok_lsumsf T B
  have G_law_is_number : DFn P w K mg base 1 B.f_law_is_number B.fd_law_is_number p_law_is_number F_lis_number := ok_lis_number T B.d_law_is_number
  have G_law_is_order : DFn P w K mg base 4 B.f_law_is_order B.fd_law_is_order p_law_is_order F_lorder := ok_lorder T B
  refine Fun.okD (k := L) B.d_law_one_found.F sc_law_one_found (fun cdv A outer s H E hr => (dss_cons (ds_set (i := 3) sc_law_one_found.nd (de_own B.d_law_found G_law_found hr (by first | decide | omega) (da_cons (dv 0) (da_cons (de_ix (dv 2) (de_neg de_int)) da_nil)))) (dss_cons (ds_if (dw_pt (dw_or (dt_cmpA c_is (dv 3) de_non) (dw_or1 (dt_cmpA (c_eq hr) (dv 1) de_str)))) (dss_one (ds_ret (dv 3))) dss_nil) (dss_cons (ds_if (dt_cmpA (c_eq hr) (dv 1) de_str) (dss_one (ds_ret (de_if (dt_val (de_own B.d_law_is_check G_law_is_check hr (by first | decide | omega) (da_cons (dv 3) (da_cons (de_ix (dv 2) de_int) da_nil)))) (dv 3) de_non))) dss_nil) (dss_cons (ds_if (dt_cmpA (c_eq hr) (dv 1) de_str) (dss_one (ds_ret (de_if (dt_cmpA (c_neMtA hr) (de_ix (dv 2) de_int) (de_tup da_nil)) (de_own B.d_law_taken G_law_taken hr (by first | decide | omega) (da_cons (dv 3) (da_cons (de_ix (dv 2) de_int) da_nil))) de_non))) dss_nil) (dss_cons (ds_if (dt_cmpA (c_eq hr) (dv 1) de_str) (dss_cons (ds_if (dw_pt (dw_or (dt_not (dt_val (de_own B.d_law_are_unlike G_law_are_unlike hr (by first | decide | omega) (da_cons (de_ix (dv 2) de_int) da_nil)))) (dw_or1 (dt_cmpA (c_ne hr) (de_len T.b_len (de_ix (dv 2) de_int)) (de_len T.b_len (dv 3)))))) (dss_one (ds_ret de_non)) dss_nil) (dss_one (ds_ret (de_lc rfl sc_law_one_found.nd (di_zTL T.b_zip (da_cons (de_ix (dv 2) de_int) (da_cons (dv 3) da_nil))) (blkOk_by (own := [("name", 4), ("old", 5), ("kind", 6)]) (N := N_law_one_found) (sc := defScope s_law_one_found) (by decide +kernel)) (fun _ _ _ _ _ => (dg_tup rfl (dgs_cons (dg_name (i := 4) sc_law_one_found.nd) (dgs_cons (dg_tup rfl (dgs_cons (dg_name (i := 5) sc_law_one_found.nd) (dgs_cons (dg_name (i := 6) sc_law_one_found.nd) dgs_nil)) (gsCons_len (gsCons_len gsNil_len))) dgs_nil)) (gsCons_len (gsCons_len gsNil_len)))) (gd_tup (gds_cons gd_name (gds_cons (gd_tup (gds_cons gd_name (gds_cons gd_name gds_nil)) (gsCons_len (gsCons_len gsNil_len))) gds_nil)) (gsCons_len (gsCons_len gsNil_len))) (fun _ _ _ _ _ => dts_nil) (fun _ _ _ _ _ => (de_tup (da_cons (dv 4) (da_cons (dv 6) da_nil)))))))) dss_nil) (dss_cons (ds_if (dt_cmpA (c_eq hr) (dv 1) de_str) (dss_one (ds_ret (de_own B.d_law_sums_found G_law_sums_found hr (by first | decide | omega) (da_cons (dv 3) (da_cons (dv 2) da_nil))))) dss_nil) (dss_cons (ds_set (i := 7) sc_law_one_found.nd (de_ix (dv 2) de_int)) (dss_one (ds_ret (de_if (dw_pt (dw_and (dt_val (de_own B.d_law_is_number G_law_is_number hr (by first | decide | omega) (da_cons (dv 7) da_nil))) (dw_and (dt_cmpA c_gt (dv 7) de_int) (dw_and1 (dt_val (de_own B.d_law_is_order G_law_is_order hr (by first | decide | omega) (da_cons (dv 3) (da_cons (de_ix (dv 2) de_int) da_nil)))))))) (dv 3) de_non))))))))))) (fun ds M k h => ?_)
  obtain ⟨ts, u, r, q, c, rfl, hu, c1, hp, hnm, hr', oq, fq, cq, wq, hts, hk⟩ := h
  (refine ⟨rfl, ?_⟩; rw [show startD N_law_one_found [.tup (ts.map tabD), .str u, .tup (r ++ [q])] = [some (.tup (ts.map tabD)), some (.str u), some (.tup (r ++ [q])), none, none, none, none, none] from rfl])
  have sn := fun d cs e => q_snd (w := wAll) c1 (leaf_snd hp) n d cs e
  refine seq_step ?_
  simp only [wNext, wBreak, wContinue, wExpr, wRet, wRetN, wSet, wAsg, wPar, wPar3, wSub, wTst, wOp, wChain, wNotT, wAndV, wOrV, wNotV, wIf, wNil, wCons, wTup, wLst, wLstM, wCall, wCall0, wVar, wC, wLc, wLcM, wYes, wiL, wiT, wiS, wiR, wiEnT, wiEnL, wiZip, wSl, woNone, woSome, wMt, wJoin, wGet, wUn, wTru, wDNew, fin, List.getElem?_cons_zero, List.getElem?_cons_succ, List.set_cons_zero, List.set_cons_succ]
  refine r_U (ix_tup (at_end _ _) ⟨ts, q, c, rfl, c1, hp, hnm, oq, fq, cq, wq, hts, fun M1 g1 => ?_⟩)
  have hk := hk M1 g1
  have okx : ∀ x ∈ r, okR M1 x := fun x hx => g1.okR (hr' x hx).1
  have no : lF ts n q = none → qStep (lF ts n) n (.tup (.str u :: (r ++ [q]))) = none := fun e => by
    rcases hu with ⟨rfl, rfl⟩ | ⟨hu, x, rfl⟩ | ⟨hu, x, y, rfl⟩
    · simp only [List.nil_append, qStep, if_true, oneC, e]
    · simp only [List.cons_append, List.nil_append, qStep, oneC, e]
      split
      · rfl
      · split
        · rfl
        · split <;> rfl
    · simp only [List.cons_append, List.nil_append, qStep, oneC, e]
      split
      · rfl
      · split <;> rfl
  refine seq_step ?_
  simp only [wNext, wBreak, wContinue, wExpr, wRet, wRetN, wSet, wAsg, wPar, wPar3, wSub, wTst, wOp, wChain, wNotT, wAndV, wOrV, wNotV, wIf, wNil, wCons, wTup, wLst, wLstM, wCall, wCall0, wVar, wC, wLc, wLcM, wYes, wiL, wiT, wiS, wiR, wiEnT, wiEnL, wiZip, wSl, woNone, woSome, wMt, wJoin, wGet, wUn, wTru, wDNew, fin, List.getElem?_cons_zero, List.getElem?_cons_succ, List.set_cons_zero, List.set_cons_succ, wIfS, wOrT]
  cases e : lF ts n q with
  | none =>
    rw [no e] at hk
    exact r_isN (tt (tT hk))
  | some cs =>
    clear no
    refine (show rdIs id (.lst (cs.map colD)) .non M1 _ from r_isL (ff (eq_strA ?_)))
    have s1 := sn q cs e
    have hcs : CsOk cs := (s1.up cq).cs (by decide)
    have hle : cs.length ≤ 2000 := Nat.le_trans s1.le cq
    rcases hu with ⟨rfl, rfl⟩ | ⟨hu, x, rfl⟩ | ⟨hu, x, y, rfl⟩
    · simp only [List.nil_append, qStep, if_true, oneC, e] at hk
      exact tt' (by decide) hk
    · have ox := okx x (by simp)
      have fx := (hr' x (by simp)).2
      simp only [List.cons_append, List.nil_append] at hk ⊢
      simp only [List.mem_cons, List.not_mem_nil, or_false] at hu
      rcases hu with rfl | rfl | rfl
      · simp only [qStep, if_true, oneC, e] at hk
        refine ff' (by decide) (seq_step ?_)
        simp only [wNext, wBreak, wContinue, wExpr, wRet, wRetN, wSet, wAsg, wPar, wPar3, wSub, wTst, wOp, wChain, wNotT, wAndV, wOrV, wNotV, wIf, wNil, wCons, wTup, wLst, wLstM, wCall, wCall0, wVar, wC, wLc, wLcM, wYes, wiL, wiT, wiS, wiR, wiEnT, wiEnL, wiZip, wSl, woNone, woSome, wMt, wJoin, wGet, wUn, wTru, wDNew, fin, List.getElem?_cons_zero, List.getElem?_cons_succ, List.set_cons_zero, List.set_cons_succ, wIfS, wOrT]
        refine eq_strA (tt' (by decide) (ix_tup (at0 _ _) ⟨cs, x, rfl, hcs, ox, fx, ?_⟩))
        cases q3 : chkB cs n x with
        | true => rw [q3] at hk; exact hk
        | false => rw [q3] at hk; exact hk
      · simp only [qStep, show ¬ Str.ofString "pick" = Str.ofString "where" by decide, if_false, if_true, oneC, e] at hk
        refine ff' (by decide) (seq_step ?_)
        simp only [wNext, wBreak, wContinue, wExpr, wRet, wRetN, wSet, wAsg, wPar, wPar3, wSub, wTst, wOp, wChain, wNotT, wAndV, wOrV, wNotV, wIf, wNil, wCons, wTup, wLst, wLstM, wCall, wCall0, wVar, wC, wLc, wLcM, wYes, wiL, wiT, wiS, wiR, wiEnT, wiEnL, wiZip, wSl, woNone, woSome, wMt, wJoin, wGet, wUn, wTru, wDNew, fin, List.getElem?_cons_zero, List.getElem?_cons_succ, List.set_cons_zero, List.set_cons_succ, wIfS, wOrT]
        refine eq_strA (ff' (by decide) (seq_step ?_))
        simp only [wNext, wBreak, wContinue, wExpr, wRet, wRetN, wSet, wAsg, wPar, wPar3, wSub, wTst, wOp, wChain, wNotT, wAndV, wOrV, wNotV, wIf, wNil, wCons, wTup, wLst, wLstM, wCall, wCall0, wVar, wC, wLc, wLcM, wYes, wiL, wiT, wiS, wiR, wiEnT, wiEnL, wiZip, wSl, woNone, woSome, wMt, wJoin, wGet, wUn, wTru, wDNew, fin, List.getElem?_cons_zero, List.getElem?_cons_succ, List.set_cons_zero, List.set_cons_succ, wIfS, wOrT]
        refine eq_strA (tt' (by decide) (ix_tup (at0 _ _) ⟨Nat.zero_le _, r_neMtA ox (fun ds e1 => ?_) (fun e1 => ?_)⟩))
        · subst e1
          cases ds with
          | nil => exact ff hk
          | cons a r => exact tt (ix_tup (at0 _ _) ⟨cs, .tup (a :: r), rfl, hcs, ox, hk⟩)
        · refine tt (ix_tup (at0 _ _) ⟨cs, x, rfl, hcs, ox, ?_⟩)
          have : namedC cs x = none := by
            unfold namedC
            split
            · exact absurd rfl (e1 _)
            · rfl
          rw [this]
          cases x with
          | tup ds => exact absurd rfl (e1 ds)
          | _ => exact hk
      · simp only [qStep, show ¬ Str.ofString "called" = Str.ofString "where" by decide, show ¬ Str.ofString "called" = Str.ofString "pick" by decide, if_false, if_true, oneC, e] at hk
        refine ff' (by decide) (seq_step ?_)
        simp only [wNext, wBreak, wContinue, wExpr, wRet, wRetN, wSet, wAsg, wPar, wPar3, wSub, wTst, wOp, wChain, wNotT, wAndV, wOrV, wNotV, wIf, wNil, wCons, wTup, wLst, wLstM, wCall, wCall0, wVar, wC, wLc, wLcM, wYes, wiL, wiT, wiS, wiR, wiEnT, wiEnL, wiZip, wSl, woNone, woSome, wMt, wJoin, wGet, wUn, wTru, wDNew, fin, List.getElem?_cons_zero, List.getElem?_cons_succ, List.set_cons_zero, List.set_cons_succ, wIfS, wOrT]
        refine eq_strA (ff' (by decide) (seq_step ?_))
        simp only [wNext, wBreak, wContinue, wExpr, wRet, wRetN, wSet, wAsg, wPar, wPar3, wSub, wTst, wOp, wChain, wNotT, wAndV, wOrV, wNotV, wIf, wNil, wCons, wTup, wLst, wLstM, wCall, wCall0, wVar, wC, wLc, wLcM, wYes, wiL, wiT, wiS, wiR, wiEnT, wiEnL, wiZip, wSl, woNone, woSome, wMt, wJoin, wGet, wUn, wTru, wDNew, fin, List.getElem?_cons_zero, List.getElem?_cons_succ, List.set_cons_zero, List.set_cons_succ, wIfS, wOrT]
        refine eq_strA (ff' (by decide) (seq_step ?_))
        simp only [wNext, wBreak, wContinue, wExpr, wRet, wRetN, wSet, wAsg, wPar, wPar3, wSub, wTst, wOp, wChain, wNotT, wAndV, wOrV, wNotV, wIf, wNil, wCons, wTup, wLst, wLstM, wCall, wCall0, wVar, wC, wLc, wLcM, wYes, wiL, wiT, wiS, wiR, wiEnT, wiEnL, wiZip, wSl, woNone, woSome, wMt, wJoin, wGet, wUn, wTru, wDNew, fin, List.getElem?_cons_zero, List.getElem?_cons_succ, List.set_cons_zero, List.set_cons_succ, wIfS, wOrT]
        refine eq_strA (tt' (by decide) (seq_step ?_))
        simp only [wNext, wBreak, wContinue, wExpr, wRet, wRetN, wSet, wAsg, wPar, wPar3, wSub, wTst, wOp, wChain, wNotT, wAndV, wOrV, wNotV, wIf, wNil, wCons, wTup, wLst, wLstM, wCall, wCall0, wVar, wC, wLc, wLcM, wYes, wiL, wiT, wiS, wiR, wiEnT, wiEnL, wiZip, wSl, woNone, woSome, wMt, wJoin, wGet, wUn, wTru, wDNew, fin, List.getElem?_cons_zero, List.getElem?_cons_succ, List.set_cons_zero, List.set_cons_succ, wIfS, wOrT, wiZTL]
        refine ix_tup (at0 _ _) ⟨x, rfl, ox, ?_⟩
        cases q3 : unlikeNB x with
        | false =>
          have : calledC cs x = none := by
            unfold calledC
            split
            · split
              · split
                · rename_i l hl'
                  unfold unlikeNB at q3
                  simp only [hl'] at q3
                  unfold unlikeC
                  rw [if_neg]
                  intro nd
                  have e3 : (List.zipWith (fun n (c : Str × Str) => (n, c.2)) l cs).map (·.1) = l := reN_fst (by have := (strsN_nm hl').2; omega)
                  rw [e3] at nd
                  exact of_decide_eq_false q3 nd
                · rfl
              · rfl
            · rfl
          rw [this] at hk
          exact tt (tT hk)
        | true =>
          refine ff ?_
          cases x with
          | tup xs =>
            unfold okR at ox
            obtain ⟨l, hl', nd⟩ : ∃ l, strsN xs = some l ∧ l.Nodup := by
              unfold unlikeNB at q3
              simp only at q3
              cases q4 : strsN xs with
              | none => rw [q4] at q3; cases q3
              | some l => rw [q4] at q3; exact ⟨l, rfl, of_decide_eq_true q3⟩
            have exs : xs = l.map D.str := by
              rcases strsN_all xs with ⟨_, m, b, c⟩ | ⟨_, b⟩
              · rw [b] at hl'; cases hl'; exact c
              · rw [b] at hl'; cases hl'
            refine ix_tup (at0 _ _) (r_lenT (r_lenL (eq_int ?_)))
            simp only [calledC, hl'] at hk
            by_cases q5 : xs.length = cs.length
            · rw [if_pos q5] at hk
              have lc : l.length = cs.length := by rw [← q5, exs, List.length_map]
              have d1 : decide ((xs.length : Int) = ((cs.map colD).length : Int)) = true := decide_eq_true (by rw [List.length_map]; omega)
              rw [d1]
              refine ff (ix_tup (at0 _ _) ?_)
              simp only [asR]
              have e3 : (List.zipWith (fun n (c : Str × Str) => (n, c.2)) l cs).map (·.1) = l := reN_fst lc
              unfold unlikeC at hk
              rw [if_pos (by rw [e3]; exact nd)] at hk
              refine lc_map (fun d => match d with | .tup [n, .tup [_, k]] => .tup [n, k] | d => d) (G := gAt (.lst (cs.map colD)) (cs.map colD)) (M := M1) rfl _ _ _ (fun d hd => ?_) (z1 (by rw [zipD_len]; simp; omega)) ?_
              · obtain ⟨j, hj⟩ := List.mem_iff_getElem?.mp hd
                obtain ⟨x, y, hx', hy', rfl⟩ := zipD_get hj
                have hy2 := List.mem_of_getElem? hy'
                obtain ⟨c, _, rfl⟩ := List.mem_map.mp hy2
                exact ⟨_, rfl, fun k' hk' => ⟨(show 2 ≤ sizeLine by decide), hk'⟩⟩
              · rw [List.nil_append, exs]
                have e4 : (zipD (l.map D.str) (cs.map colD)).map (fun d => match d with | .tup [n, .tup [_, k]] => .tup [n, k] | d => d) = (List.zipWith (fun n (c : Str × Str) => (n, c.2)) l cs).map colD := by
                  unfold zipD
                  rw [List.map_zipWith, List.map_zipWith, List.zipWith_map]
                  rfl
                rw [e4]
                exact hk
            · rw [if_neg q5] at hk
              have d1 : decide ((xs.length : Int) = ((cs.map colD).length : Int)) = false := decide_eq_false (by rw [List.length_map]; omega)
              rw [d1]
              exact tt hk
          | _ => cases q3
    · have ox := okx x (by simp)
      have oy := okx y (by simp)
      simp only [List.cons_append, List.nil_append] at hk ⊢
      simp only [List.mem_cons, List.not_mem_nil, or_false] at hu
      rcases hu with rfl | rfl
      · simp only [qStep, if_true, oneC, e] at hk
        refine ff' (by decide) (seq_step ?_)
        simp only [wNext, wBreak, wContinue, wExpr, wRet, wRetN, wSet, wAsg, wPar, wPar3, wSub, wTst, wOp, wChain, wNotT, wAndV, wOrV, wNotV, wIf, wNil, wCons, wTup, wLst, wLstM, wCall, wCall0, wVar, wC, wLc, wLcM, wYes, wiL, wiT, wiS, wiR, wiEnT, wiEnL, wiZip, wSl, woNone, woSome, wMt, wJoin, wGet, wUn, wTru, wDNew, fin, List.getElem?_cons_zero, List.getElem?_cons_succ, List.set_cons_zero, List.set_cons_succ, wIfS, wOrT]
        refine eq_strA (ff' (by decide) (seq_step ?_))
        simp only [wNext, wBreak, wContinue, wExpr, wRet, wRetN, wSet, wAsg, wPar, wPar3, wSub, wTst, wOp, wChain, wNotT, wAndV, wOrV, wNotV, wIf, wNil, wCons, wTup, wLst, wLstM, wCall, wCall0, wVar, wC, wLc, wLcM, wYes, wiL, wiT, wiS, wiR, wiEnT, wiEnL, wiZip, wSl, woNone, woSome, wMt, wJoin, wGet, wUn, wTru, wDNew, fin, List.getElem?_cons_zero, List.getElem?_cons_succ, List.set_cons_zero, List.set_cons_succ, wIfS, wOrT]
        refine eq_strA (ff' (by decide) (seq_step ?_))
        simp only [wNext, wBreak, wContinue, wExpr, wRet, wRetN, wSet, wAsg, wPar, wPar3, wSub, wTst, wOp, wChain, wNotT, wAndV, wOrV, wNotV, wIf, wNil, wCons, wTup, wLst, wLstM, wCall, wCall0, wVar, wC, wLc, wLcM, wYes, wiL, wiT, wiS, wiR, wiEnT, wiEnL, wiZip, wSl, woNone, woSome, wMt, wJoin, wGet, wUn, wTru, wDNew, fin, List.getElem?_cons_zero, List.getElem?_cons_succ, List.set_cons_zero, List.set_cons_succ, wIfS, wOrT]
        refine eq_strA (ff' (by decide) (seq_step ?_))
        simp only [wNext, wBreak, wContinue, wExpr, wRet, wRetN, wSet, wAsg, wPar, wPar3, wSub, wTst, wOp, wChain, wNotT, wAndV, wOrV, wNotV, wIf, wNil, wCons, wTup, wLst, wLstM, wCall, wCall0, wVar, wC, wLc, wLcM, wYes, wiL, wiT, wiS, wiR, wiEnT, wiEnL, wiZip, wSl, woNone, woSome, wMt, wJoin, wGet, wUn, wTru, wDNew, fin, List.getElem?_cons_zero, List.getElem?_cons_succ, List.set_cons_zero, List.set_cons_succ, wIfS, wOrT]
        exact eq_strA (tt' (by decide) ⟨cs, x, y, q, c * cnt q, rfl, s1, cq, ox, oy, hk⟩)
      · simp only [qStep, show ¬ Str.ofString "first" = Str.ofString "sums" by decide, if_false, if_true, oneC, e] at hk
        refine ff' (by decide) (seq_step ?_)
        simp only [wNext, wBreak, wContinue, wExpr, wRet, wRetN, wSet, wAsg, wPar, wPar3, wSub, wTst, wOp, wChain, wNotT, wAndV, wOrV, wNotV, wIf, wNil, wCons, wTup, wLst, wLstM, wCall, wCall0, wVar, wC, wLc, wLcM, wYes, wiL, wiT, wiS, wiR, wiEnT, wiEnL, wiZip, wSl, woNone, woSome, wMt, wJoin, wGet, wUn, wTru, wDNew, fin, List.getElem?_cons_zero, List.getElem?_cons_succ, List.set_cons_zero, List.set_cons_succ, wIfS, wOrT]
        refine eq_strA (ff' (by decide) (seq_step ?_))
        simp only [wNext, wBreak, wContinue, wExpr, wRet, wRetN, wSet, wAsg, wPar, wPar3, wSub, wTst, wOp, wChain, wNotT, wAndV, wOrV, wNotV, wIf, wNil, wCons, wTup, wLst, wLstM, wCall, wCall0, wVar, wC, wLc, wLcM, wYes, wiL, wiT, wiS, wiR, wiEnT, wiEnL, wiZip, wSl, woNone, woSome, wMt, wJoin, wGet, wUn, wTru, wDNew, fin, List.getElem?_cons_zero, List.getElem?_cons_succ, List.set_cons_zero, List.set_cons_succ, wIfS, wOrT]
        refine eq_strA (ff' (by decide) (seq_step ?_))
        simp only [wNext, wBreak, wContinue, wExpr, wRet, wRetN, wSet, wAsg, wPar, wPar3, wSub, wTst, wOp, wChain, wNotT, wAndV, wOrV, wNotV, wIf, wNil, wCons, wTup, wLst, wLstM, wCall, wCall0, wVar, wC, wLc, wLcM, wYes, wiL, wiT, wiS, wiR, wiEnT, wiEnL, wiZip, wSl, woNone, woSome, wMt, wJoin, wGet, wUn, wTru, wDNew, fin, List.getElem?_cons_zero, List.getElem?_cons_succ, List.set_cons_zero, List.set_cons_succ, wIfS, wOrT]
        refine eq_strA (ff' (by decide) (seq_step ?_))
        simp only [wNext, wBreak, wContinue, wExpr, wRet, wRetN, wSet, wAsg, wPar, wPar3, wSub, wTst, wOp, wChain, wNotT, wAndV, wOrV, wNotV, wIf, wNil, wCons, wTup, wLst, wLstM, wCall, wCall0, wVar, wC, wLc, wLcM, wYes, wiL, wiT, wiS, wiR, wiEnT, wiEnL, wiZip, wSl, woNone, woSome, wMt, wJoin, wGet, wUn, wTru, wDNew, fin, List.getElem?_cons_zero, List.getElem?_cons_succ, List.set_cons_zero, List.set_cons_succ, wIfS, wOrT]
        refine eq_strA (ff' (by decide) (seq_step ?_))
        simp only [wNext, wSeq, wBreak, wContinue, wExpr, wRet, wRetN, wIfS, wSet, wAsg, wPar, wPar3, wFor, wSub, wTst, wOp, wChain, wNotT, wAndT, wOrT, wAndV, wOrV, wNotV, wIf, wNil, wCons, wTup, wLst, wLstM, wCall, wCall0, wVar, wC, wLc, wLcM, wYes, wiL, wiT, wiS, wiR, wiEnT, wiEnL, wiZip, wSl, woNone, woSome, wMt, wJoin, wGet, wUn, wTru, wDNew, fin, List.getElem?_cons_zero, List.getElem?_cons_succ, List.set_cons_zero, List.set_cons_succ]
        refine ix_tup (at0 _ _) ⟨x, rfl, ox, ?_⟩
        cases e5 : isNumB x with
        | false =>
          have : manyB x = false := by
            cases x with
            | int j => show (isNumB (.int j) && decide ((1 : Int) ≤ j)) = false; rw [e5]; rfl
            | _ => rfl
          rw [if_neg (fun z => by rw [this] at z; cases z.1)] at hk
          exact ff (ff hk)
        | true =>
          cases x with
          | int j =>
            refine tt (r_ordI ?_)
            by_cases hj : (0 : Int) < j
            · have : manyB (.int j) = true := by
                have h1 : (1 : Int) ≤ j := by omega
                show (isNumB (.int j) && decide ((1 : Int) ≤ j)) = true
                rw [decide_eq_true h1, e5]; rfl
              refine tt' (decide_eq_true hj) (ix_tup (at1 _ _ _) ⟨cs, y, rfl, hcs, oy, ?_⟩)
              cases q2 : orderB cs y with
              | false => rw [if_neg (fun z => by rw [q2] at z; cases z.2)] at hk; exact ff hk
              | true => rw [if_pos ⟨this, q2⟩] at hk; exact tt hk
            · have : manyB (.int j) = false := by
                have h1 : ¬ (1 : Int) ≤ j := by omega
                show (isNumB (.int j) && decide ((1 : Int) ≤ j)) = false
                rw [decide_eq_false h1]; simp
              rw [if_neg (fun z => by rw [this] at z; cases z.1)] at hk
              exact ff' (decide_eq_false hj) (ff hk)
          | _ => cases e5
end
end K04

set_option autoImplicit false
set_option maxRecDepth 100000
set_option maxHeartbeats 4000000
namespace K04
open PySem L2 DL
/-! how many parts each form has -/
def S9 : List (Str × Int) := [(Str.ofString "all", 1), (Str.ofString "where", 2), (Str.ofString "pick", 2), (Str.ofString "called", 2), (Str.ofString "join", 4), (Str.ofString "sums", 3), (Str.ofString "once", 1), (Str.ofString "lacking", 4), (Str.ofString "first", 3)]
def sz9 (u : Str) : Option Int := (S9.find? fun p => decide (p.1 = u)).map (·.2)
theorem S9_merge : mergeD [] (S9.map fun p => ((Sum.inr p.1 : Key), D.int p.2)) = S9.map fun p => ((Sum.inr p.1 : Key), D.int p.2) := by rfl
theorem S9_look (u : Str) : lookD (mergeD [] (S9.map fun p => ((Sum.inr p.1 : Key), D.int p.2))) (.inr u) = (sz9 u).map D.int := by
  rw [S9_merge]
  unfold lookD sz9
  rw [List.find?_map]
  have : ((fun kv : Key × D => decide (kv.1 = Sum.inr u)) ∘ fun p : Str × Int => ((Sum.inr p.1 : Key), D.int p.2)) = fun p => decide (p.1 = u) := by
    funext p
    show decide ((Sum.inr p.1 : Key) = Sum.inr u) = _
    rw [decide_eq_decide]
    exact ⟨fun e => Sum.inr.inj e, fun e => by rw [e]⟩
  rw [this, Option.map_map, Option.map_map]; rfl
theorem sz9_cases (u : Str) : (sz9 u = none) ∨ (sz9 u = some 1 ∧ (u = wAll ∨ u = Str.ofString "once")) ∨ (sz9 u = some 2 ∧ u ∈ [Str.ofString "where", Str.ofString "pick", Str.ofString "called"]) ∨
    (sz9 u = some 3 ∧ u ∈ [Str.ofString "sums", Str.ofString "first"]) ∨ (sz9 u = some 4 ∧ (u = Str.ofString "join" ∨ u = Str.ofString "lacking")) := by
  by_cases h : u ∈ S9.map (·.1)
  · simp only [S9, List.map_cons, List.map_nil, List.mem_cons, List.not_mem_nil, or_false] at h
    rcases h with rfl | rfl | rfl | rfl | rfl | rfl | rfl | rfl | rfl
    · exact .inr (.inl ⟨rfl, .inl rfl⟩)
    · exact .inr (.inr (.inl ⟨rfl, by simp⟩))
    · exact .inr (.inr (.inl ⟨rfl, by simp⟩))
    · exact .inr (.inr (.inl ⟨rfl, by simp⟩))
    · exact .inr (.inr (.inr (.inr ⟨rfl, .inl rfl⟩)))
    · exact .inr (.inr (.inr (.inl ⟨rfl, by simp⟩)))
    · exact .inr (.inl ⟨rfl, .inr rfl⟩)
    · exact .inr (.inr (.inr (.inr ⟨rfl, .inr rfl⟩)))
    · exact .inr (.inr (.inr (.inl ⟨rfl, by simp⟩)))
  · left
    unfold sz9
    rw [List.find?_eq_none.mpr]
    · rfl
    · intro p hp e
      exact h (by rw [← of_decide_eq_true e]; exact List.mem_map_of_mem (f := fun x : Str × Int => x.1) hp)
theorem qStep_none {rec : D → Option Cols} {n : Nat} {u : Str} {r : List D} (h : ∀ i, sz9 u = some i → (r.length : Int) ≠ i) : qStep rec n (.tup (.str u :: r)) = none := by
  have go : ∀ (w : Str) (i : Int), sz9 w = some i → (r.length : Int) = i → u ≠ w := fun w i e1 e2 e3 => h i (by rw [e3]; exact e1) e2
  match r, go with
  | [], _ => rfl
  | [a], go =>
    have h1 := go (Str.ofString "once") 1 rfl rfl
    simp only [qStep, h1, if_false]
  | [a, b], go =>
    have h1 := go (Str.ofString "where") 2 rfl rfl
    have h2 := go (Str.ofString "pick") 2 rfl rfl
    have h3 := go (Str.ofString "called") 2 rfl rfl
    simp only [qStep, h1, h2, h3, if_false]
  | [a, b, c], go =>
    have h1 := go (Str.ofString "sums") 3 rfl rfl
    have h2 := go (Str.ofString "first") 3 rfl rfl
    simp only [qStep, h1, h2, if_false]
  | [a, b, c, d], go =>
    have h1 := go (Str.ofString "join") 4 rfl rfl
    have h2 := go (Str.ofString "lacking") 4 rfl rfl
    simp only [qStep, h1, h2, if_false]
  | _ :: _ :: _ :: _ :: _ :: _, _ => rfl
theorem lF_none {ts : List (Str × Cols)} {n : Nat} {u : Str} {r : List D} (h : ∀ i, sz9 u = some i → (r.length : Int) ≠ i) : lF ts n (.tup (.str u :: r)) = none := by
  cases n with
  | zero => rfl
  | succ n =>
    unfold lF
    by_cases e : u = wAll
    · subst e
      rw [q_leaf]
      match r, h 1 rfl with
      | [], _ => rfl
      | [a], hl => exact absurd rfl hl
      | _ :: _ :: _, _ => rfl
    · rw [q_step e]; exact qStep_none h
theorem lF_odd {ts : List (Str × Cols)} {n : Nat} {d : D} (h : ∀ u r, d ≠ .tup (.str u :: r)) : lF ts n d = none := by
  cases n with
  | zero => rfl
  | succ n =>
    unfold lF qCols
    have : headS d = none := by
      unfold headS
      split
      · exact absurd rfl (h _ _)
      · rfl
    rw [this, if_neg (by intro e; cases e)]
    unfold qStep
    split
    · exact absurd rfl (h _ _)
    · exact absurd rfl (h _ _)
    · exact absurd rfl (h _ _)
    · exact absurd rfl (h _ _)
    · rfl
section
variable {P : Program} {w : World} {K : PySem.W.Frag} {mg : Str → Option Value} {base : Heap}
def tabB (t : D) : D → Bool := fun d => match t, d with
  | .str s, .tup [.str n, _] => decide (n = s)
  | _, _ => false
def tabF : D → D := fun d => match d with
  | .tup [_, .tup cs] => .lst cs
  | d => d
theorem tab_hits (ts : List (Str × Cols)) (h : ∀ t ∈ ts, isNm t.1 = true) (x : D) : ∃ l : List (Str × Cols), ((ts.map tabD).filter (tabB x)).map tabF = l.map (fun t => .lst (t.2.map colD)) ∧ (∀ t ∈ l, t ∈ ts) ∧ (l = [] → tableOf ts x = none) ∧ ∀ a r, l = a :: r → tableOf ts x = some a.2 := by
  refine ⟨ts.filter fun t => match x with | .str s => decide (t.1 = s) | _ => false, ?_, fun t ht => (List.mem_filter.mp ht).1, ?_⟩
  · rw [List.filter_map, List.map_map]
    have : (tabB x ∘ tabD) = fun t => match x with | .str s => decide (t.1 = s) | _ => false := by
      funext t
      cases x <;> rfl
    rw [this]; rfl
  · cases x with
    | str s =>
      simp only
      have e : ts.find? (fun t => decide (t.1 = s)) = (ts.filter fun t => decide (t.1 = s)).head? := by rw [List.head?_filter]
      unfold tableOf
      simp only
      constructor
      · intro z
        rw [e, z]
        split <;> rfl
      · intro a r z
        have ha : a ∈ ts.filter fun t => decide (t.1 = s) := by rw [z]; exact List.mem_cons_self
        obtain ⟨m1, m2⟩ := List.mem_filter.mp ha
        have nm : isNm s = true := by rw [← of_decide_eq_true m2]; exact h a m1
        rw [if_pos nm, e, z]; rfl
    | _ => exact ⟨fun _ => rfl, fun a r z => by
        have : a ∈ ts.filter (fun _ => false) := by rw [show ts.filter (fun _ => false) = a :: r from z]; exact List.mem_cons_self
        cases (List.mem_filter.mp this).2⟩
theorem cl_tabs {n : Str × Cols → Nat} {l : List (Str × Cols)} (h : ∀ t ∈ l, Snd (n t) t.2) : cleans (l.map fun t => .lst (t.2.map colD)) = true ∧ deeps (l.map fun t => D.lst (t.2.map colD)) ≤ 63 := by
  refine ⟨cleans_mem fun d hd => ?_, Nat.le_trans (deeps_mem (n := 2) fun d hd => ?_) (by decide)⟩
  · obtain ⟨t, ht, rfl⟩ := List.mem_map.mp hd
    unfold clean
    refine cleans_mem fun d hd => ?_
    obtain ⟨c, hc, rfl⟩ := List.mem_map.mp hd
    have s := h t ht
    show clean (.tup [.str c.1, .str c.2]) = true
    unfold clean cleans cleans cleans clean
    rw [ok_nm (s.nm c hc), ok_kd (s.kd c hc)]; rfl
  · obtain ⟨t, ht, rfl⟩ := List.mem_map.mp hd
    have : deep (.lst (t.2.map colD)) = deeps (t.2.map colD) + 1 := by rw [deep]
    rw [this]
    have : deeps (t.2.map colD) ≤ 1 := deeps_mem fun d hd => by
      obtain ⟨c, hc, rfl⟩ := List.mem_map.mp hd
      show deep (.tup [.str c.1, .str c.2]) ≤ 1
      unfold deep deeps deeps deeps deep
      decide
    omega
theorem found_ok (T : Txt K mg) (B : DD K mg) (TW : TxtW K w mg B) {n L : Nat} (G_law_sides_found : DFn P w K mg base L B.f_law_sides_found B.fd_law_sides_found p_law_sides_found (fun ds M k => ∃ m, n = m + 1 ∧ F_sides m ds M k)) (G_law_one_found : DFn P w K mg base L B.f_law_one_found B.fd_law_one_found p_law_one_found (fun ds M k => ∃ m, n = m + 1 ∧ F_one m ds M k)) : DFn P w K mg base (L + 1) B.f_law_found B.fd_law_found p_law_found (F_lfound n) := by
  refine Fun.okD (k := L) B.d_law_found.F sc_law_found (fun cdv A outer s H E hr => (dss_cons (ds_if (dw_pt (dw_or (dt_not (dt_val (de_isi T.b_isinstance (dv 1) (de_ty (n := "tuple") T.b_tuple (by decide +kernel))))) (dw_or (dt_cmpA (c_eqMt hr) (dv 1) (de_tup da_nil)) (dw_or1 (dt_not (dt_val (de_isi T.b_isinstance (de_ix (dv 1) de_int) (de_ty (n := "str") T.b_str (by decide +kernel))))))))) (dss_one (ds_ret de_non)) dss_nil) (dss_cons (ds_asg (dg_tup rfl (dgs_cons (dg_name (i := 2) sc_law_found.nd) (dgs_cons (dg_name (i := 3) sc_law_found.nd) dgs_nil)) (gsCons_len (gsCons_len gsNil_len))) (de_tup (da_cons (de_ix (dv 1) de_int) (da_cons (de_slice (dv 1) (do_some de_int) do_none) da_nil)))) (dss_cons (ds_set (i := 4) sc_law_found.nd (de_disp (.cons (.cons (.cons (.cons (.cons (.cons (.cons (.cons (.cons .nil))))))))) (by decide) (by decide))) (dss_cons (ds_if (dt_cmpA (c_ne hr) (de_len T.b_len (dv 3)) (de_get2 (hu_of hr.r) (dv 4) (dv 2) de_int)) (dss_one (ds_ret de_non)) dss_nil) (dss_cons (ds_if (dt_cmpA (c_eq hr) (dv 2) de_str) (dss_cons (ds_setLc (i := 5) rfl sc_law_found.nd (di_tup (dv 0)) (blkOk_by (own := [("name", 6), ("columns", 7)]) (N := N_law_found) (sc := defScope s_law_found) (by decide +kernel)) (fun _ _ _ _ _ => (dg_tup rfl (dgs_cons (dg_name (i := 6) sc_law_found.nd) (dgs_cons (dg_name (i := 7) sc_law_found.nd) dgs_nil)) (gsCons_len (gsCons_len gsNil_len)))) (gd_tup (gds_cons gd_name (gds_cons gd_name gds_nil)) (gsCons_len (gsCons_len gsNil_len))) (fun _ _ _ _ _ => (dts_one (dw_pt (dw_and (dt_val (de_isi T.b_isinstance (de_ix (dv 3) de_int) (de_ty (n := "str") T.b_str (by decide +kernel)))) (dw_and1 (dt_cmpA (c_eq hr) (dv 6) (de_ix (dv 3) de_int))))))) (fun _ _ _ _ _ => (de_list T.b_list (dv 7))) (sw_true rfl rfl rfl (by decide +kernel))) (dss_one (ds_ret (de_if (dt_cmpA (c_ne hr) (dv 5) (de_lst da_nil)) (de_ix (dv 5) de_int) de_non)))) dss_nil) (dss_one (ds_ret (de_if (dt_cmpA (c_eq hr) (de_get (hu_of hr.r) (dv 4) (dv 2)) de_int) (de_own B.d_law_sides_found G_law_sides_found hr (by first | decide | omega) (da_cons (dv 0) (da_cons (dv 2) (da_cons (dv 3) da_nil)))) (de_own B.d_law_one_found G_law_one_found hr (by first | decide | omega) (da_cons (dv 0) (da_cons (dv 2) (da_cons (dv 3) da_nil))))))))))))) (fun ds M k h => ?_)
  obtain ⟨ts, d, c, rfl, c1, hp, hnm, hd, hf, hc, hwd, hts, hk⟩ := h
  (refine ⟨rfl, ?_⟩; rw [show startD N_law_found [.tup (ts.map tabD), d] = [some (.tup (ts.map tabD)), some (d), none, none, none, none, none, none] from rfl])
  refine seq_step ?_
  simp only [wNext, wBreak, wContinue, wExpr, wRet, wRetN, wSet, wAsg, wPar, wPar3, wSub, wTst, wOp, wChain, wNotT, wAndV, wOrV, wNotV, wIf, wNil, wCons, wTup, wLst, wLstM, wCall, wCall0, wVar, wC, wLc, wLcM, wYes, wiL, wiT, wiS, wiR, wiEnT, wiEnL, wiZip, wSl, woNone, woSome, wMt, wJoin, wGet, wUn, wTru, wDNew, fin, List.getElem?_cons_zero, List.getElem?_cons_succ, List.set_cons_zero, List.set_cons_succ, wIfS, wOrT]
  refine isi_tup hd ?_
  have out : (∀ u r, d ≠ .tup (.str u :: r)) → k .non M := fun h => by
    have := hk M (Grow.refl M)
    rw [lF_odd h] at this
    exact this
  cases d with
  | tup ds =>
    have hd0 := hd
    unfold okR at hd
    refine ff ⟨Nat.zero_le _, ne_mtE ?_⟩
    cases ds with
    | nil => exact tt (tT (out (by intro u r e; cases e)))
    | cons x r =>
      refine ff (ix_tup (at0 _ _) (isi_str (okRs_mem hd.2 List.mem_cons_self) ?_))
      cases x with
      | str u =>
        refine ff (seq_step ?_)
        simp only [wNext, wBreak, wContinue, wExpr, wRet, wRetN, wSet, wAsg, wPar, wPar3, wSub, wTst, wOp, wChain, wNotT, wAndV, wOrV, wNotV, wIf, wNil, wCons, wTup, wLst, wLstM, wCall, wCall0, wVar, wC, wLc, wLcM, wYes, wiL, wiT, wiS, wiR, wiEnT, wiEnL, wiZip, wSl, woNone, woSome, wMt, wJoin, wGet, wUn, wTru, wDNew, fin, List.getElem?_cons_zero, List.getElem?_cons_succ, List.set_cons_zero, List.set_cons_succ]
        refine ix_tup (at0 _ _) (r_slT ?_)
        rw [show cutD (D.str u :: r) (some 1) none = r from cut_drop (D.str u :: r) 1]
        refine ⟨(show 2 ≤ sizeLine by decide), ?_⟩
        simp only [gT, gsCons, gN, gsNil, List.set_cons_zero, List.set_cons_succ]
        clear out
        refine seq_step ?_
        simp only [wNext, wBreak, wContinue, wExpr, wRet, wRetN, wSet, wAsg, wPar, wPar3, wSub, wTst, wOp, wChain, wNotT, wAndV, wOrV, wNotV, wIf, wNil, wCons, wTup, wLst, wLstM, wCall, wCall0, wVar, wC, wLc, wLcM, wYes, wiL, wiT, wiS, wiR, wiEnT, wiEnL, wiZip, wSl, woNone, woSome, wMt, wJoin, wGet, wUn, wTru, wDNew, fin, List.getElem?_cons_zero, List.getElem?_cons_succ, List.set_cons_zero, List.set_cons_succ, wDisp]
        rw [show [(Str.ofString "all", (1 : Int)), (Str.ofString "where", 2), (Str.ofString "pick", 2), (Str.ofString "called", 2), (Str.ofString "join", 4), (Str.ofString "sums", 3), (Str.ofString "once", 1), (Str.ofString "lacking", 4), (Str.ofString "first", 3)] = S9 from rfl]
        intro p hp0
        have g1 : Grow M (setM M p (.dct (mergeD [] (S9.map fun p => ((Sum.inr p.1 : Key), D.int p.2))))) := Grow.set hp0
        have p1 : setM M p (.dct (mergeD [] (S9.map fun p => ((Sum.inr p.1 : Key), D.int p.2)))) p = some (.dct (mergeD [] (S9.map fun p => ((Sum.inr p.1 : Key), D.int p.2)))) := setM_same
        have look := S9_look u
        generalize mergeD [] (S9.map fun p => ((Sum.inr p.1 : Key), D.int p.2)) = kv at look g1 p1 ⊢
        generalize setM M p (.dct kv) = M1 at g1 p1 ⊢
        have hk1 := hk M1 g1
        have bad : (∀ i, sz9 u = some i → (r.length : Int) ≠ i) → k .non M1 := fun h => by rw [lF_none h] at hk1; exact hk1
        have lens : r.length ≤ 90 := by rw [wide_tup, List.length_cons] at hwd; omega
        have okr : ∀ x ∈ r, okR M1 x := fun x hx => g1.okR (okRs_mem hd.2 (List.mem_cons_of_mem _ hx))
        have wdr : ∀ x ∈ r, wide x ≤ 90 := fun x hx => by
          rw [wide_tup] at hwd
          exact wides_le.mp (show wides (D.str u :: r) ≤ 90 by omega) x (List.mem_cons_of_mem _ hx)
        have cnr : ∀ x ∈ r, c * cnt x ≤ 2000 := fun x hx => Nat.le_trans (Nat.mul_le_mul_left c (by rw [cnt_tup, cnts_cons]; have := cnt_mem hx; omega)) hc
        obtain ⟨m, rfl⟩ : ∃ m, n = m + 1 := ⟨n - 1, by rw [far_tup] at hf; omega⟩
        have far' : ∀ x ∈ r, far x ≤ m := fun x hx => far_tupL hf x (List.mem_cons_of_mem _ hx)
        refine seq_step ?_
        simp only [wNext, wBreak, wContinue, wExpr, wRet, wRetN, wSet, wAsg, wPar, wPar3, wSub, wTst, wOp, wChain, wNotT, wAndV, wOrV, wNotV, wIf, wNil, wCons, wTup, wLst, wLstM, wCall, wCall0, wVar, wC, wLc, wLcM, wYes, wiL, wiT, wiS, wiR, wiEnT, wiEnL, wiZip, wSl, woNone, woSome, wMt, wJoin, wGet, wUn, wTru, wDNew, fin, List.getElem?_cons_zero, List.getElem?_cons_succ, List.set_cons_zero, List.set_cons_succ, wIfS, wGet2]
        have rd2 : ∀ {k : KD}, k (((sz9 u).map D.int).getD (.int 99)) M1 → rdGet2 (.cel p) (.str u) (.int 99) M1 k := fun h => by
          unfold rdGet2
          simp only [p1, look]
          exact h
        refine r_lenT ⟨⟨_, p1⟩, rd2 ?_⟩
        rcases sz9_cases u with e | ⟨e, hu⟩ | ⟨e, hu⟩ | ⟨e, hu⟩ | ⟨e, hu⟩
        · rw [e]
          exact eq_int (tt' (by rw [decide_eq_false (by omega)]; rfl) (bad fun i z => by rw [e] at z; cases z))
        · rw [e]
          by_cases hl : r.length = 1
          · obtain ⟨t, rfl⟩ := List.length_eq_one_iff.mp hl
            refine eq_int (ff' (show (!decide ((1 : Int) = 1)) = false by decide) (seq_step ?_))
            simp only [wNext, wBreak, wContinue, wExpr, wRet, wRetN, wSet, wAsg, wPar, wPar3, wSub, wTst, wOp, wChain, wNotT, wAndV, wOrV, wNotV, wIf, wNil, wCons, wTup, wLst, wLstM, wCall, wCall0, wVar, wC, wLc, wLcM, wYes, wiL, wiT, wiS, wiR, wiEnT, wiEnL, wiZip, wSl, woNone, woSome, wMt, wJoin, wGet, wUn, wTru, wDNew, fin, List.getElem?_cons_zero, List.getElem?_cons_succ, List.set_cons_zero, List.set_cons_succ, wIfS]
            rcases hu with rfl | rfl
            · refine eq_strA (tt' (by decide) (seq_step ?_))
              have lf : lF ts (m + 1) (.tup [.str wAll, t]) = tableOf ts t := by unfold lF; rw [q_leaf]; rfl
              rw [lf] at hk1
              clear bad look rd2 hd0 hd hf hc hwd far' cnr wdr
              refine lc_filter (tabB t) tabF (G := gAny) (M := M1) trivial _ _ _ (fun d hd => ?_) (by simpa using z1 (by omega)) ?_
              · obtain ⟨tb, htb, rfl⟩ := List.mem_map.mp hd
                refine ⟨_, rfl, fun k' hk' => ?_, fun _ k' hk' => ?_⟩
                · simp only [wNext, wSeq, wBreak, wContinue, wExpr, wRet, wRetN, wIfS, wSet, wAsg, wPar, wPar3, wFor, wSub, wTst, wOp, wChain, wNotT, wAndT, wOrT, wAndV, wOrV, wNotV, wIf, wNil, wCons, wTup, wLst, wLstM, wCall, wCall0, wVar, wC, wLc, wLcM, wYes, wiL, wiT, wiS, wiR, wiEnT, wiEnL, wiZip, wSl, woNone, woSome, wMt, wJoin, wGet, wUn, wTru, wDNew, fin, List.getElem?_cons_zero, List.getElem?_cons_succ, List.set_cons_zero, List.set_cons_succ, wipeD, List.map]
                  refine ix_tup (at0 _ _) (isi_str (okr t (by simp)) ?_)
                  cases t with
                  | str s => exact tt (ix_tup (at0 _ _) (eq_strA hk'))
                  | _ => exact ff hk'
                · simp only [wNext, wSeq, wBreak, wContinue, wExpr, wRet, wRetN, wIfS, wSet, wAsg, wPar, wPar3, wFor, wSub, wTst, wOp, wChain, wNotT, wAndT, wOrT, wAndV, wOrV, wNotV, wIf, wNil, wCons, wTup, wLst, wLstM, wCall, wCall0, wVar, wC, wLc, wLcM, wYes, wiL, wiT, wiS, wiR, wiEnT, wiEnL, wiZip, wSl, woNone, woSome, wMt, wJoin, wGet, wUn, wTru, wDNew, fin, List.getElem?_cons_zero, List.getElem?_cons_succ, List.set_cons_zero, List.set_cons_succ, wipeD, List.map]
                  exact hk'
              rw [List.nil_append]
              obtain ⟨l, el, hl1, hl2, hl3⟩ := tab_hits ts hnm t
              rw [el]
              have ct := cl_tabs (n := fun _ => 2 * c) (l := l) (fun x hx => hp x (hl1 x hx))
              refine ⟨Nat.zero_le _, eq_nil ct.1 ct.2 ?_⟩
              cases l with
              | nil =>
                rw [hl2 rfl] at hk1
                exact ff hk1
              | cons a l =>
                rw [hl3 a l rfl] at hk1
                exact tt (ix_lst (at0 _ _) hk1)
            · refine eq_strA (ff' (by decide) ?_)
              refine r_get p1 (by rw [look, e]; rfl) (eq_int (ff' (by decide) ⟨m, rfl, ts, _, [], t, c, rfl, .inl ⟨rfl, rfl⟩, c1, hp, hnm, (fun x hx => by cases hx), okr t (by simp), far' t (by simp), cnr t (by simp), wdr t (by simp), hts, fun M' g' => ?_⟩))
              have := hk M' (g1.trans g')
              unfold lF at this
              rw [q_step (by decide)] at this
              exact this
          · exact eq_int (tt' (by rw [decide_eq_false (show ¬ ((r.length : Int) = 1) by omega)]; rfl) (bad fun i z => by rw [e] at z; cases z; omega))
        · rw [e]
          have nall : u ≠ wAll := fun z => by subst z; revert hu; decide
          by_cases hl : r.length = 2
          · obtain ⟨x, q, rfl⟩ : ∃ x q, r = [x, q] := by
              match r, hl with
              | [x, q], _ => exact ⟨x, q, rfl⟩
            refine eq_int (ff' (show (!decide ((2 : Int) = 2)) = false by decide) (seq_step ?_))
            simp only [wNext, wBreak, wContinue, wExpr, wRet, wRetN, wSet, wAsg, wPar, wPar3, wSub, wTst, wOp, wChain, wNotT, wAndV, wOrV, wNotV, wIf, wNil, wCons, wTup, wLst, wLstM, wCall, wCall0, wVar, wC, wLc, wLcM, wYes, wiL, wiT, wiS, wiR, wiEnT, wiEnL, wiZip, wSl, woNone, woSome, wMt, wJoin, wGet, wUn, wTru, wDNew, fin, List.getElem?_cons_zero, List.getElem?_cons_succ, List.set_cons_zero, List.set_cons_succ, wIfS]
            refine eq_strA (ff' (decide_eq_false nall) ?_)
            refine r_get p1 (by rw [look, e]; rfl) (eq_int (ff' (by decide) ⟨m, rfl, ts, u, [x], q, c, rfl, .inr (.inl ⟨hu, x, rfl⟩), c1, hp, hnm, fun y hy => ?_, okr q (by simp), far' q (by simp), cnr q (by simp), wdr q (by simp), hts, fun M' g' => ?_⟩))
            · rw [List.mem_singleton.mp hy]; exact ⟨okr x (by simp), far' x (by simp)⟩
            · have := hk M' (g1.trans g')
              unfold lF at this
              rw [q_step nall] at this
              exact this
          · exact eq_int (tt' (by rw [decide_eq_false (show ¬ ((r.length : Int) = 2) by omega)]; rfl) (bad fun i z => by rw [e] at z; cases z; omega))
        · rw [e]
          have nall : u ≠ wAll := fun z => by subst z; revert hu; decide
          by_cases hl : r.length = 3
          · obtain ⟨x, y, q, rfl⟩ : ∃ x y q, r = [x, y, q] := by
              match r, hl with
              | [x, y, q], _ => exact ⟨x, y, q, rfl⟩
            refine eq_int (ff' (show (!decide ((3 : Int) = 3)) = false by decide) (seq_step ?_))
            simp only [wNext, wBreak, wContinue, wExpr, wRet, wRetN, wSet, wAsg, wPar, wPar3, wSub, wTst, wOp, wChain, wNotT, wAndV, wOrV, wNotV, wIf, wNil, wCons, wTup, wLst, wLstM, wCall, wCall0, wVar, wC, wLc, wLcM, wYes, wiL, wiT, wiS, wiR, wiEnT, wiEnL, wiZip, wSl, woNone, woSome, wMt, wJoin, wGet, wUn, wTru, wDNew, fin, List.getElem?_cons_zero, List.getElem?_cons_succ, List.set_cons_zero, List.set_cons_succ, wIfS]
            refine eq_strA (ff' (decide_eq_false nall) ?_)
            refine r_get p1 (by rw [look, e]; rfl) (eq_int (ff' (by decide) ⟨m, rfl, ts, u, [x, y], q, c, rfl, .inr (.inr ⟨hu, x, y, rfl⟩), c1, hp, hnm, fun z hz => ?_, okr q (by simp), far' q (by simp), cnr q (by simp), wdr q (by simp), hts, fun M' g' => ?_⟩))
            · simp only [List.mem_cons, List.not_mem_nil, or_false] at hz
              rcases hz with rfl | rfl <;> exact ⟨okr _ (by simp), far' _ (by simp)⟩
            · have := hk M' (g1.trans g')
              unfold lF at this
              rw [q_step nall] at this
              exact this
          · exact eq_int (tt' (by rw [decide_eq_false (show ¬ ((r.length : Int) = 3) by omega)]; rfl) (bad fun i z => by rw [e] at z; cases z; omega))
        · rw [e]
          have nall : u ≠ wAll := fun z => by subst z; revert hu; decide
          by_cases hl : r.length = 4
          · obtain ⟨x, y, q, q2, rfl⟩ : ∃ x y q q2, r = [x, y, q, q2] := by
              match r, hl with
              | [x, y, q, q2], _ => exact ⟨x, y, q, q2, rfl⟩
            refine eq_int (ff' (show (!decide ((4 : Int) = 4)) = false by decide) (seq_step ?_))
            simp only [wNext, wBreak, wContinue, wExpr, wRet, wRetN, wSet, wAsg, wPar, wPar3, wSub, wTst, wOp, wChain, wNotT, wAndV, wOrV, wNotV, wIf, wNil, wCons, wTup, wLst, wLstM, wCall, wCall0, wVar, wC, wLc, wLcM, wYes, wiL, wiT, wiS, wiR, wiEnT, wiEnL, wiZip, wSl, woNone, woSome, wMt, wJoin, wGet, wUn, wTru, wDNew, fin, List.getElem?_cons_zero, List.getElem?_cons_succ, List.set_cons_zero, List.set_cons_succ, wIfS]
            refine eq_strA (ff' (decide_eq_false nall) ?_)
            refine r_get p1 (by rw [look, e]; rfl) (eq_int (tt' (by decide) ⟨m, rfl, ts, u, x, y, q, q2, c, rfl, hu, c1, hp, hnm, okr x (by simp), okr y (by simp), okr q (by simp), okr q2 (by simp), far' q (by simp), far' q2 (by simp), ?_, wdr q (by simp), wdr q2 (by simp), hts, fun M' g' => ?_⟩))
            · refine Nat.le_trans (Nat.mul_le_mul_left c ?_) hc
              rw [cnt_tup, cnts_cons, cnts_cons, cnts_cons, cnts_cons, cnts_cons, cnts_nil]; omega
            · have := hk M' (g1.trans g')
              unfold lF at this
              rw [q_step nall] at this
              exact this
          · exact eq_int (tt' (by rw [decide_eq_false (show ¬ ((r.length : Int) = 4) by omega)]; rfl) (bad fun i z => by rw [e] at z; cases z; omega))
      | _ => exact tt (out (by intro u r e; cases e))
  | _ => exact tt (tT (out (by intro u r e; cases e)))
theorem ok_lfound (T : Txt K mg) (B : DD K mg) (TW : TxtW K w mg B) : ∀ n, DFn P w K mg base (8 + 2 * n) B.f_law_found B.fd_law_found p_law_found (F_lfound n)
  | 0 => found_ok T B TW (L := 7) (DFn.weak DFn.none fun ds M k ⟨m, e, _⟩ => by cases e) (DFn.weak DFn.none fun ds M k ⟨m, e, _⟩ => by cases e)
  | n + 1 => DFn.mono (j := 9 + 2 * n + 1) (found_ok T B TW (n := n + 1) (L := 9 + 2 * n) (DFn.weak (DFn.mono (j := 8 + 2 * n + 1) (sides_ok T B (n := n) (L := 8 + 2 * n) (by omega) (ok_lfound T B TW n)) (by omega)) fun ds M k ⟨m, e, h⟩ => by cases e; exact h)
      (DFn.weak (DFn.mono (j := 8 + 2 * n + 1) (one_ok T B TW (n := n) (L := 8 + 2 * n) (by omega) (by omega) (ok_lfound T B TW n)) (by omega)) fun ds M k ⟨m, e, h⟩ => by cases e; exact h)) (by omega)
end
end K04

set_option autoImplicit false
set_option maxRecDepth 100000
set_option maxHeartbeats 4000000
namespace K04
open PySem L2 DL
section
variable {P : Program} {w : World} {K : PySem.W.Frag} {mg : Str → Option Value} {base : Heap}
theorem heavies_bound {n : Nat} : ∀ {xs : List D}, (∀ d ∈ xs, heavy d ≤ n) → heavies xs ≤ xs.length * (n + 1)
  | [], _ => by rw [heavies_nil]; exact Nat.zero_le _
  | d :: xs, h => by
    have e : heavies (d :: xs) = heavy d + 1 + heavies xs := by rw [heavies]
    have h1 := h d List.mem_cons_self
    have h2 := heavies_bound fun x hx => h x (List.mem_cons_of_mem _ hx)
    rw [e, List.length_cons, Nat.succ_mul]; omega
theorem good_kd {N : Nat} {M : Mem} {b c : Nat} {s : Str} (h : Kd s) : Good N M 8 b c (.str s) := by
  rcases h with rfl | rfl <;> exact good_str (by decide +kernel) (by decide +kernel)
theorem good_col {N : Nat} {M : Mem} {c : Str × Str} (h1 : isNm c.1 = true) (h2 : Kd c.2) : Good N M 18 1 4 (colD c) := by
  have g1 : Good N M 8 0 4 (.str c.1) := good_nm h1
  have g2 : Good N M 8 0 4 (.str c.2) := good_kd h2
  refine good_tup (fun x hx => ?_) ?_ (by simp)
  · simp only [List.mem_cons, List.not_mem_nil, or_false] at hx
    rcases hx with rfl | rfl
    · exact g1.tri3
    · exact g2.tri3
  · have := heavies_bound (n := 8) (xs := [.str c.1, .str c.2]) fun d hd => by
      simp only [List.mem_cons, List.not_mem_nil, or_false] at hd
      rcases hd with rfl | rfl
      · exact g1.hv
      · exact g2.hv
    simpa using this
theorem good_cols {N : Nat} {M : Mem} {cs : Cols} (h : ColsOk 4 cs) : Good N M 76 2 4 (colsD cs) := by
  have g : ∀ x ∈ cs.map colD, Good N M 18 1 4 x := fun x hx => by
    obtain ⟨c, hc, rfl⟩ := List.mem_map.mp hx
    exact good_col (h.nm c hc) (h.kd c hc)
  refine good_tup (fun x hx => (g x hx).tri3) ?_ (by rw [List.length_map]; exact h.le)
  have := heavies_bound fun d hd => (g d hd).hv
  rw [List.length_map] at this
  have := h.le
  exact Nat.le_trans ‹_› (by omega)
theorem good_plan {N : Nat} {M : Mem} {ts : List (Str × Cols)} (h : PlanOk 4 ts) (hl : ts.length ≤ 3) : Good N M 300 4 4 (.tup (ts.map tabD)) := by
  have g : ∀ x ∈ ts.map tabD, Good N M 90 3 4 x := fun x hx => by
    obtain ⟨t, ht, rfl⟩ := List.mem_map.mp hx
    have g1 : Good N M 8 2 4 (.str t.1) := good_nm (h.nm t ht)
    have g2 : Good N M 76 2 4 (colsD t.2) := good_cols (h.ok t ht)
    refine good_tup (fun x hx => ?_) ?_ (by simp)
    · simp only [List.mem_cons, List.not_mem_nil, or_false] at hx
      rcases hx with rfl | rfl
      · exact g1.tri3
      · exact g2.tri3
    · have e : heavies [.str t.1, colsD t.2] = heavy (.str t.1) + 1 + (heavy (colsD t.2) + 1) := by rw [heavies, heavies_one]
      have := g1.hv
      have := g2.hv
      omega
  refine good_tup (fun x hx => (g x hx).tri3) ?_ (by rw [List.length_map]; omega)
  have := heavies_bound fun d hd => (g d hd).hv
  rw [List.length_map] at this
  exact Nat.le_trans this (by omega)
mutual
theorem toR_grow {M M' : Mem} (g : Grow M M') : ∀ (d : D) (p : PyData), toR M d = some p → toR M' d = some p
  | .non, p, h => by unfold toR at *; exact h
  | .bl _, p, h => by unfold toR at *; exact h
  | .int _, p, h => by unfold toR at *; exact h
  | .str _, p, h => by unfold toR at *; exact h
  | .tup ds, p, h => by
    unfold toR at *
    split at h
    · rename_i ps e
      rw [toRs_grow g ds ps e]; exact h
    · cases h
  | .lst ds, p, h => by
    unfold toR at *
    split at h
    · rename_i ps e
      rw [toRs_grow g ds ps e]; exact h
    · cases h
  | .cel a, p, h => by
    unfold toR at *
    split at h
    · rename_i e
      rw [g a _ e]; exact h
    · cases h
  | .scr _, p, h => by unfold toR at h; cases h
  | .ty _, p, h => by unfold toR at h; cases h
theorem toRs_grow {M M' : Mem} (g : Grow M M') : ∀ (ds : List D) (ps : List PyData), toRs M ds = some ps → toRs M' ds = some ps
  | [], ps, h => by unfold toRs at *; exact h
  | d :: ds, ps, h => by
    unfold toRs at *
    split at h
    · rename_i p qs e1 e2
      rw [toR_grow g d p e1, toRs_grow g ds qs e2]; exact h
    · cases h
end
theorem eq_lat {f : Bool → Bool} {h l : Addr} {M : Mem} {x : D} {cs : Cols} {k : KD} (hx : Lat h l M x (cs.map colD)) (hs : ∀ c ∈ cs, isNm c.1 = true ∧ Kd c.2) (hk : k (.bl (f true)) M) : rdEq f (.lst (cs.map colD)) x M k := by
  have cl : clean (.lst (cs.map colD)) = true ∧ deep (.lst (cs.map colD)) ≤ 64 := by
    constructor
    · unfold clean
      refine cleans_mem fun d hd => ?_
      obtain ⟨c, hc, rfl⟩ := List.mem_map.mp hd
      obtain ⟨a, b⟩ := hs c hc
      show clean (.tup [.str c.1, .str c.2]) = true
      unfold clean cleans cleans cleans clean
      rw [ok_nm a, ok_kd b]; rfl
    · have e : deep (.lst (cs.map colD)) = deeps (cs.map colD) + 1 := by rw [deep]
      have : deeps (cs.map colD) ≤ 1 := deeps_mem fun d hd => by
        obtain ⟨c, hc, rfl⟩ := List.mem_map.mp hd
        show deep (.tup [.str c.1, .str c.2]) ≤ 1
        unfold deep deeps deeps deeps deep
        decide
      omega
  obtain ⟨p, e, sh⟩ := shaped_clean (M := M) cl.1 cl.2
  have ex : toPC M x = some p := by
    rcases hx with z | ⟨a, z, _, _, ea⟩
    · subst z; exact e
    · subst z
      show (match M a with | some (.lst ds) => (match toPs M ds with | some ps => some (PyData.list ps) | none => none) | _ => none) = some p
      rw [ea]
      unfold toP at e
      exact e
  have el : toPC M (.lst (cs.map colD)) = some p := e
  have go : rdEqP f (.lst (cs.map colD)) x M k := by
    unfold rdEqP
    rw [el, ex]
    refine ⟨sh, sh, ?_⟩
    have lay : p.canLay0 = true := by
      unfold SeqAt.shaped at sh
      rw [Bool.and_eq_true] at sh
      exact sh.1
    rw [SeqAt.eqv_refl p lay]
    exact hk
  rcases hx with z | ⟨a, z, _, _, ea⟩ <;> (subst z; exact go)
end
end K04

set_option autoImplicit false
set_option maxRecDepth 100000
set_option maxHeartbeats 4000000
namespace K04
open PySem L2 DL
section
variable {P : Program} {w : World} {K : PySem.W.Frag} {mg : Str → Option Value} {base : Heap}
def F_law : FD := fun ds M k => ∃ ns : List Int, ds = [.scr (ns.map D.int)] ∧ ns.length ≤ 63 ∧ ∀ M', k (.bl true) M'
theorem ok_law (T : Txt K mg) (B : DD K mg) (TW : TxtW K w mg B) : DFn P w K mg base 60 B.f_law B.fd_law p_law F_law := by
  have G_law_hand : DFn P w K mg base 1 B.f_law_hand B.fd_law_hand p_law_hand F_law_hand := ok_law_hand T B.d_law_hand
  have G_law_of : DFn P w K mg base 2 B.f_law_of B.fd_law_of p_law_of F_of := ok_of T B.d_law_pick B.d_law_of
  have G_law_plan : DFn P w K mg base 4 B.f_law_plan B.fd_law_plan p_law_plan F_plan := ok_plan T B.d_law_pick B.d_law_of B.d_law_names B.d_law_plan
  have G_law_question : DFn P w K mg base 17 B.f_law_question B.fd_law_question p_law_question (F_question 6) := ok_question T B 6
  have G_law_found : DFn P w K mg base 38 B.f_law_found B.fd_law_found p_law_found (F_lfound 15) := ok_lfound T B TW 15
  have G_is_question : DFn P w K mg base 24 B.f_is_question B.fd_is_question p_is_question (F_is_question 15) := ok_is_question T B TW 15
  have G_columns_of : DFn P w K mg base 23 B.f_columns_of B.fd_columns_of p_columns_of (F_columns_of 15) := ok_columns_of T B TW 15
  refine Fun.okD (k := 59) B.d_law.F sc_law (fun cdv A outer s H E hr => (dss_cons (ds_set (i := 1) sc_law.nd (de_own B.d_law_hand G_law_hand hr (by first | decide | omega) (da_cons (dv 0) da_nil))) (dss_cons (ds_for rfl (di_range T.b_range (da_cons de_int da_nil)) (dg_name (i := 2) sc_law.nd) (dss_cons (ds_set (i := 3) sc_law.nd (de_own B.d_law_plan G_law_plan hr (by first | decide | omega) (da_cons (dv 1) (da_cons de_int (da_cons de_int da_nil))))) (dss_one (ds_for rfl (di_range T.b_range (da_cons de_int da_nil)) (dg_name (i := 4) sc_law.nd) (dss_cons (ds_asg (dg_tup rfl (dgs_cons (dg_name (i := 5) sc_law.nd) (dgs_cons (dg_name (i := 6) sc_law.nd) dgs_nil)) (gsCons_len (gsCons_len gsNil_len))) (de_own B.d_law_question G_law_question hr (by first | decide | omega) (da_cons (dv 1) (da_cons (dv 3) (da_cons (de_own B.d_law_of G_law_of hr (by first | decide | omega) (da_cons (dv 1) (da_cons (de_lst (da_cons de_int (da_cons de_int (da_cons de_int (da_cons de_int da_nil))))) da_nil))) da_nil))))) (dss_cons (ds_par (i := 7) (j := 8) rfl sc_law.nd (da_cons (de_repr hr T.b_repr (de_tup (da_cons (dv 3) (da_cons (dv 5) da_nil)))) (da_cons (de_tuple T.b_tuple (dv 6)) da_nil)) rfl rfl (by decide) rfl rfl (by rfl)) (dss_cons (ds_if (dw_pt (dw_or (dt_cmpA (c_ne hr) (de_own B.d_law_found G_law_found hr (by first | decide | omega) (da_cons (dv 3) (da_cons (dv 5) da_nil))) (dv 6)) (dw_or1 (dt_cmpA c_isn (de_own B.d_is_question G_is_question hr (by first | decide | omega) (da_cons (dv 3) (da_cons (dv 5) da_nil))) de_bl)))) (dss_one (ds_ret de_bl)) dss_nil) (dss_cons (ds_if (dt_cmpA (c_ne hr) (de_repr hr T.b_repr (de_lst (da_cons (de_own B.d_columns_of G_columns_of hr (by first | decide | omega) (da_cons (dv 3) (da_cons (dv 5) da_nil))) (da_cons (de_own B.d_columns_of G_columns_of hr (by first | decide | omega) (da_cons (dv 3) (da_cons (dv 5) da_nil))) da_nil)))) (de_repr hr T.b_repr (de_lst (da_cons (dv 8) (da_cons (dv 8) da_nil))))) (dss_one (ds_ret de_bl)) dss_nil) (dss_one (ds_if (dt_cmpA (c_ne hr) (de_repr hr T.b_repr (de_tup (da_cons (dv 3) (da_cons (dv 5) da_nil)))) (dv 7)) (dss_one (ds_ret de_bl)) dss_nil)))))))))) (dss_one (ds_ret de_bl))))) (fun ds M k h => ?_)
  obtain ⟨ns, rfl, hn, hk⟩ := h
  (refine ⟨rfl, ?_⟩; rw [show startD N_law [.scr (ns.map D.int)] = [some (.scr (ns.map D.int)), none, none, none, none, none, none, none, none] from rfl])
  refine seq_step ?_
  simp only [wNext, wBreak, wContinue, wExpr, wRet, wRetN, wSet, wAsg, wPar, wPar3, wSub, wTst, wOp, wChain, wNotT, wAndV, wOrV, wNotV, wIf, wNil, wCons, wTup, wLst, wLstM, wCall, wCall0, wVar, wC, wLc, wLcM, wYes, wiL, wiT, wiS, wiR, wiEnT, wiEnL, wiZip, wSl, woNone, woSome, wMt, wJoin, wGet, wUn, wTru, wDNew, fin, List.getElem?_cons_zero, List.getElem?_cons_succ, List.set_cons_zero, List.set_cons_succ]
  refine ⟨ns, rfl, hn, fun h l M1 hh1 e1 => ?_⟩
  refine seq_step ?_
  unfold wFor
  simp only [wNext, wBreak, wContinue, wExpr, wRet, wRetN, wSet, wAsg, wPar, wPar3, wSub, wTst, wOp, wChain, wNotT, wAndV, wOrV, wNotV, wIf, wNil, wCons, wTup, wLst, wLstM, wCall, wCall0, wVar, wC, wLc, wLcM, wYes, wiL, wiT, wiS, wiR, wiEnT, wiEnL, wiZip, wSl, woNone, woSome, wMt, wJoin, wGet, wUn, wTru, wDNew, fin, List.getElem?_cons_zero, List.getElem?_cons_succ, List.set_cons_zero, List.set_cons_succ]
  refine ⟨by decide, ?_⟩
  refine loop_inv (fun _ Γ M' => Hnd M' h l ∧ ∃ x2 x3 x4 x5 x6 x7 x8, Γ = [some (.scr (ns.map D.int)), some (.cel h), x2, x3, x4, x5, x6, x7, x8]) (fun _ _ _ _ => trivial) ?_ ?_ _ _ _ ⟨hh1, _, _, _, _, _, _, _, rfl⟩
  · rintro Γ M3 ⟨_, x2, x3, x4, x5, x6, x7, x8, rfl⟩
    simp only [wNext, wSeq, wBreak, wContinue, wExpr, wRet, wRetN, wIfS, wSet, wAsg, wPar, wPar3, wFor, wSub, wTst, wOp, wChain, wNotT, wAndT, wOrT, wAndV, wOrV, wNotV, wIf, wNil, wCons, wTup, wLst, wLstM, wCall, wCall0, wVar, wC, wLc, wLcM, wYes, wiL, wiT, wiS, wiR, wiEnT, wiEnL, wiZip, wSl, woNone, woSome, wMt, wJoin, wGet, wUn, wTru, wDNew, fin, List.getElem?_cons_zero, List.getElem?_cons_succ, List.set_cons_zero, List.set_cons_succ]
    exact hk _
  rintro d ds Γ M3 ⟨hh3, x2, x3, x4, x5, x6, x7, x8, rfl⟩
  refine ⟨_, rfl, fun k' q1 q2 q3 q4 => seq_step ?_⟩
  simp only [wNext, wBreak, wContinue, wExpr, wRet, wRetN, wSet, wAsg, wPar, wPar3, wSub, wTst, wOp, wChain, wNotT, wAndV, wOrV, wNotV, wIf, wNil, wCons, wTup, wLst, wLstM, wCall, wCall0, wVar, wC, wLc, wLcM, wYes, wiL, wiT, wiS, wiR, wiEnT, wiEnL, wiZip, wSl, woNone, woSome, wMt, wJoin, wGet, wUn, wTru, wDNew, fin, List.getElem?_cons_zero, List.getElem?_cons_succ, List.set_cons_zero, List.set_cons_succ]
  refine ⟨h, l, 3, 4, rfl, hh3, by decide, by decide, by decide, fun ts M4 okp tl hh4 e4 => ?_⟩
  have pl : PlB 2 ts := fun t ht => ⟨(okp.ok t ht).nm, (okp.ok t ht).kd, (okp.ok t ht).le⟩
  refine ⟨by decide, ?_⟩
  refine loop_inv (fun _ Γ M' => Hnd M' h l ∧ ∃ x4 x5 x6 x7 x8, Γ = [some (.scr (ns.map D.int)), some (.cel h), some d, some (.tup (ts.map tabD)), x4, x5, x6, x7, x8]) (fun _ _ _ _ => trivial) ?_ ?_ _ _ _ ⟨hh4, _, _, _, _, _, rfl⟩
  · rintro Γ M5 ⟨hh5, x4, x5, x6, x7, x8, rfl⟩
    exact q3 _ _ ⟨hh5, _, _, _, _, _, _, _, rfl⟩
  rintro d2 ds2 Γ M5 ⟨hh5, x4, x5, x6, x7, x8, rfl⟩
  refine ⟨_, rfl, fun k3 v1 v2 v3 v4 => seq_step ?_⟩
  simp only [wNext, wBreak, wContinue, wExpr, wRet, wRetN, wSet, wAsg, wPar, wPar3, wSub, wTst, wOp, wChain, wNotT, wAndV, wOrV, wNotV, wIf, wNil, wCons, wTup, wLst, wLstM, wCall, wCall0, wVar, wC, wLc, wLcM, wYes, wiL, wiT, wiS, wiR, wiEnT, wiEnL, wiZip, wSl, woNone, woSome, wMt, wJoin, wGet, wUn, wTru, wDNew, fin, List.getElem?_cons_zero, List.getElem?_cons_succ, List.set_cons_zero, List.set_cons_succ]
  refine ⟨(show 4 ≤ sizeLine by decide), h, l, _, rfl, hh5, .inr ⟨_, .inr rfl, by simp, by simp, fun n M6 hn6 hh6 e6 => ?_⟩⟩
  obtain ⟨left, rfl, l1, l6⟩ : ∃ left : Nat, n = .int ((left : Nat) : Int) ∧ 1 ≤ left ∧ left ≤ 6 := by
    simp only [List.mem_cons, List.not_mem_nil, or_false] at hn6
    rcases hn6 with rfl | rfl | rfl | rfl
    · exact ⟨1, rfl, by decide, by decide⟩
    · exact ⟨2, rfl, by decide, by decide⟩
    · exact ⟨4, rfl, by decide, by decide⟩
    · exact ⟨6, rfl, by decide, by decide⟩
  refine ⟨h, l, ts, left, rfl, hh6, okp, l1, l6, l6, fun q x cs M7 dq hx hh7 e7 => ?_⟩
  simp only [gT, gsCons, gN, gsNil, List.set_cons_zero, List.set_cons_succ]
  refine seq_step ?_
  simp only [wNext, wBreak, wContinue, wExpr, wRet, wRetN, wSet, wAsg, wPar, wPar3, wSub, wTst, wOp, wChain, wNotT, wAndV, wOrV, wNotV, wIf, wNil, wCons, wTup, wLst, wLstM, wCall, wCall0, wVar, wC, wLc, wLcM, wYes, wiL, wiT, wiS, wiR, wiEnT, wiEnL, wiZip, wSl, woNone, woSome, wMt, wJoin, wGet, wUn, wTru, wDNew, fin, List.getElem?_cons_zero, List.getElem?_cons_succ, List.set_cons_zero, List.set_cons_succ]
  have gq : ∀ M, Good 2000000000 M 6000 15 30 q := fun M => (dq.good 2000000000 M (by decide)).up (by omega) (by omega) (Nat.le_refl _)
  have gp : ∀ M, Good 2000000000 M 300 4 4 (.tup (ts.map tabD)) := fun M => good_plan okp tl
  have gb : ∀ M, Good 2000000000 M 7000 16 30 (.tup [.tup (ts.map tabD), q]) := fun M =>
    (good2 (b := 15) (c := 30) ((gp M).up (Nat.le_refl _) (by decide) (by decide)) (gq M) (by decide)).up (by decide) (by decide) (by decide)
  have ql : ∀ M, okR M q := fun M => good_okR q (gq M).ok (by have := (gq M).hv; omega) (by have := (gq M).wd; omega)
  have qf : far q ≤ 15 := (gq M7).fr
  have qc : 2 * cnt q ≤ 2000 := by have := dq.cn; omega
  have qs : qCols wAll (leafAll ts) 15 q = some cs := dq.q 15 (by omega)
  have tlen : ts.length ≤ 1000 := by omega
  have okc := dq.ok
  refine ⟨(show 2 ≤ sizeLine by decide), r_repr (by decide) (gb M7).ok (by have := (gb M7).hv; omega) (by have := (gb M7).fr; omega) (fun sp hsp => ?_)⟩
  refine hx.tuple ?_
  refine seq_step ?_
  simp only [wNext, wBreak, wContinue, wExpr, wRet, wRetN, wSet, wAsg, wPar, wPar3, wSub, wTst, wOp, wChain, wNotT, wAndV, wOrV, wNotV, wIf, wNil, wCons, wTup, wLst, wLstM, wCall, wCall0, wVar, wC, wLc, wLcM, wYes, wiL, wiT, wiS, wiR, wiEnT, wiEnL, wiZip, wSl, woNone, woSome, wMt, wJoin, wGet, wUn, wTru, wDNew, fin, List.getElem?_cons_zero, List.getElem?_cons_succ, List.set_cons_zero, List.set_cons_succ, wIfS, wOrT]
  refine ⟨ts, q, 2, rfl, by decide, pl, okp.nm, ql _, qf, qc, by have := (gq M7).wd; omega, tlen, fun M8 g8 => ?_⟩
  rw [show lF ts 15 q = some cs from qs]
  have hx8 : Lat h l M8 x (cs.map colD) := by
    rcases hx with z | ⟨a, z, n1, n2, e⟩
    · exact .inl z
    · exact .inr ⟨a, z, n1, n2, g8 a _ e⟩
  refine eq_lat hx8 (fun c hc => ⟨okc.nm c hc, okc.kd c hc⟩) (ff ?_)
  refine ⟨ts, q, 2, rfl, by decide, pl, ql _, qf, qc, fun M9 g9 => ?_⟩
  rw [qs]
  refine r_isBB (ff ?_)
  refine seq_step ?_
  simp only [wNext, wBreak, wContinue, wExpr, wRet, wRetN, wSet, wAsg, wPar, wPar3, wSub, wTst, wOp, wChain, wNotT, wAndV, wOrV, wNotV, wIf, wNil, wCons, wTup, wLst, wLstM, wCall, wCall0, wVar, wC, wLc, wLcM, wYes, wiL, wiT, wiS, wiR, wiEnT, wiEnL, wiZip, wSl, woNone, woSome, wMt, wJoin, wGet, wUn, wTru, wDNew, fin, List.getElem?_cons_zero, List.getElem?_cons_succ, List.set_cons_zero, List.set_cons_succ, wIfS, wOrT]
  refine ⟨ts, q, 2, rfl, by decide, pl, ql _, qf, qc, fun M10 g10 => ?_⟩
  rw [qs]
  refine ⟨ts, q, 2, rfl, by decide, pl, ql _, qf, qc, fun M11 g11 => ?_⟩
  rw [qs]
  have gc : ∀ M, Good 2000000000 M 1000 3 30 (.lst [colsD cs, colsD cs]) := fun M => by
    have g1 : Good 2000000000 M 456 2 30 (colsD cs) := by
      have g : ∀ x ∈ cs.map colD, Good 2000000000 M 18 1 4 x := fun x hx => by
        obtain ⟨c, hc, rfl⟩ := List.mem_map.mp hx
        exact good_col (okc.nm c hc) (okc.kd c hc)
      refine good_tup (b := 1) (fun x hx => ((g x hx).up (Nat.le_refl _) (Nat.le_refl _) (by decide)).tri3) ?_ (by rw [List.length_map]; have := okc.le; omega)
      have := heavies_bound fun d hd => (g d hd).hv
      rw [List.length_map] at this
      have := okc.le
      exact Nat.le_trans ‹_› (by omega)
    refine good_lst (b := 2) (fun x hx => ?_) ?_
    · simp only [List.mem_cons, List.not_mem_nil, or_false] at hx
      rcases hx with rfl | rfl <;> exact g1.tri3
    · rw [heavies_cons, heavies_one]
      have := g1.hv
      omega
  refine ⟨(show 2 ≤ sizeLine by decide), r_repr (d := .lst [colsD cs, colsD cs]) (by decide) (gc M11).ok (Nat.le_trans (gc M11).hv (by decide)) (Nat.le_trans (gc M11).fr (by decide)) (fun s1 hs1 => ?_)⟩
  refine ⟨(show 2 ≤ sizeLine by decide), r_repr (d := .lst [colsD cs, colsD cs]) (by decide) (gc M11).ok (Nat.le_trans (gc M11).hv (by decide)) (Nat.le_trans (gc M11).fr (by decide)) (fun s2 hs2 => ?_)⟩
  rw [hs1] at hs2
  cases hs2
  refine eq_strA ?_
  rw [decide_eq_true rfl]
  refine ff ?_
  refine ⟨(show 2 ≤ sizeLine by decide), r_repr (by decide) (gb M11).ok (by have := (gb M11).hv; omega) (by have := (gb M11).fr; omega) (fun s3 hs3 => ?_)⟩
  rw [toR_grow (((g8.trans g9).trans g10).trans g11) _ _ hsp] at hs3
  cases hs3
  refine eq_strA ?_
  rw [decide_eq_true rfl]
  refine ff (v3 _ _ ⟨?_, _, _, _, _, _, rfl⟩)
  obtain ⟨xs, s, a, b, r⟩ := hh7
  have g := ((g8.trans g9).trans g10).trans g11
  exact ⟨xs, s, g _ _ a, g _ _ b, r⟩
end
end K04

set_option autoImplicit false
set_option maxRecDepth 100000
set_option maxHeartbeats 4000000
namespace K04
open PySem L2 DL
def spLaw (K : PySem.W.Frag) : Sp := fun vs H Q _ => ∃ (a : Addr) (ns : List Int), vs = [.ref a] ∧ SqL K H a (ns.map V.int) ∧ ns.length ≤ 63 ∧ ∀ H', Q (.bl true) H'
theorem dats_ints {K : PySem.W.Frag} {H : Hp} : ∀ ns : List Int, Dats K H (ns.map V.int) (ns.map D.int)
  | [] => .nil
  | n :: ns => .cons (.int n) (dats_ints ns)
theorem law_sp {P : Program} {w : World} {K : PySem.W.Frag} {mg : Str → Option Value} {base : Heap} {k : Nat} {f : Addr} {fd : FuncData} (G : DFn P w K mg base k f fd ["script"] F_law) : DG.FnG P w K mg base CX0 k f fd ["script"] (spLaw K) :=
  DG.FnG.imp G fun vs H Q E ⟨a, ns, e, hs, hl, hq⟩ => ⟨fun _ => none, H, fun _ => none, [.scr (ns.map D.int)], fun d _ => d = .bl true, ⟨fun _ _ z => z, fun _ _ z => (nomatch z), fun _ _ z => (nomatch z)⟩,
    (by rw [e]; exact .cons (.scr hs (dats_ints ns)) .nil), ⟨ns, rfl, hl, fun _ => rfl⟩, fun v H0' H' d M' _ _ r z => (by subst z; cases r; exact hq H')⟩
theorem all_mk {l : PySem.W.OpenLaw} {w : World} {K : PySem.W.Frag} {h : Heap} {mg : Str → Option Value} {fa f0 f1 f2 f3 f4 f5 f6 f7 f8 f9 f10 f11 f12 f13 f14 f15 f16 f17 f18 f19 f20 f21 f22 f23 f24 f25 f26 f27 f28 f29 f30 f31 f32 f33 f34 f35 f36 f37 f38 f39 f40 f41 f42 f43 f44 f45 f46 f47 f48 f49 f50 f51 f52 f53 f54 f55 f56 f57 f58 f59 : Addr} (X : K.In h) (G : h.Ns mainGlobals mg) (hfa : mg "law" = some (.ref fa))
    {od0 an0 od1 an1 od2 an2 od3 an3 od4 an4 od5 an5 od6 an6 od7 an7 od8 an8 od9 an9 od10 an10 od11 an11 od12 an12 od13 an13 od14 an14 od15 an15 od16 an16 od17 an17 od18 an18 od19 an19 od20 an20 od21 an21 od22 an22 od23 an23 od24 an24 od25 an25 od26 an26 od27 an27 od28 an28 od29 an29 od30 an30 od31 an31 od32 an32 od33 an33 od34 an34 od35 an35 od36 an36 od37 an37 od38 an38 od39 an39 od40 an40 od41 an41 od42 an42 od43 an43 od44 an44 od45 an45 od46 an46 od47 an47 od48 an48 od49 an49 od50 an50 od51 an51 od52 an52 od53 an53 od54 an54 od55 an55 od56 an56 od57 an57 od58 an58 od59 an59 : Option Addr} {sl0 sl1 sl2 sl3 sl4 sl5 sl6 sl7 sl8 sl9 sl10 sl11 sl12 sl13 sl14 sl15 sl16 sl17 sl18 sl19 sl20 sl21 sl22 sl23 sl24 sl25 sl26 sl27 sl28 sl29 sl30 sl31 sl32 sl33 sl34 sl35 sl36 sl37 sl38 sl39 sl40 sl41 sl42 sl43 sl44 sl45 sl46 sl47 sl48 sl49 sl50 sl51 sl52 sl53 sl54 sl55 sl56 sl57 sl58 sl59 : Array (Option Value)} {oc0 kV0 dc0 pm0 cd0 ct0 oc1 kV1 dc1 pm1 cd1 ct1 oc2 kV2 dc2 pm2 cd2 ct2 oc3 kV3 dc3 pm3 cd3 ct3 oc4 kV4 dc4 pm4 cd4 ct4 oc5 kV5 dc5 pm5 cd5 ct5 oc6 kV6 dc6 pm6 cd6 ct6 oc7 kV7 dc7 pm7 cd7 ct7 oc8 kV8 dc8 pm8 cd8 ct8 oc9 kV9 dc9 pm9 cd9 ct9 oc10 kV10 dc10 pm10 cd10 ct10 oc11 kV11 dc11 pm11 cd11 ct11 oc12 kV12 dc12 pm12 cd12 ct12 oc13 kV13 dc13 pm13 cd13 ct13 oc14 kV14 dc14 pm14 cd14 ct14 oc15 kV15 dc15 pm15 cd15 ct15 oc16 kV16 dc16 pm16 cd16 ct16 oc17 kV17 dc17 pm17 cd17 ct17 oc18 kV18 dc18 pm18 cd18 ct18 oc19 kV19 dc19 pm19 cd19 ct19 oc20 kV20 dc20 pm20 cd20 ct20 oc21 kV21 dc21 pm21 cd21 ct21 oc22 kV22 dc22 pm22 cd22 ct22 oc23 kV23 dc23 pm23 cd23 ct23 oc24 kV24 dc24 pm24 cd24 ct24 oc25 kV25 dc25 pm25 cd25 ct25 oc26 kV26 dc26 pm26 cd26 ct26 oc27 kV27 dc27 pm27 cd27 ct27 oc28 kV28 dc28 pm28 cd28 ct28 oc29 kV29 dc29 pm29 cd29 ct29 oc30 kV30 dc30 pm30 cd30 ct30 oc31 kV31 dc31 pm31 cd31 ct31 oc32 kV32 dc32 pm32 cd32 ct32 oc33 kV33 dc33 pm33 cd33 ct33 oc34 kV34 dc34 pm34 cd34 ct34 oc35 kV35 dc35 pm35 cd35 ct35 oc36 kV36 dc36 pm36 cd36 ct36 oc37 kV37 dc37 pm37 cd37 ct37 oc38 kV38 dc38 pm38 cd38 ct38 oc39 kV39 dc39 pm39 cd39 ct39 oc40 kV40 dc40 pm40 cd40 ct40 oc41 kV41 dc41 pm41 cd41 ct41 oc42 kV42 dc42 pm42 cd42 ct42 oc43 kV43 dc43 pm43 cd43 ct43 oc44 kV44 dc44 pm44 cd44 ct44 oc45 kV45 dc45 pm45 cd45 ct45 oc46 kV46 dc46 pm46 cd46 ct46 oc47 kV47 dc47 pm47 cd47 ct47 oc48 kV48 dc48 pm48 cd48 ct48 oc49 kV49 dc49 pm49 cd49 ct49 oc50 kV50 dc50 pm50 cd50 ct50 oc51 kV51 dc51 pm51 cd51 ct51 oc52 kV52 dc52 pm52 cd52 ct52 oc53 kV53 dc53 pm53 cd53 ct53 oc54 kV54 dc54 pm54 cd54 ct54 oc55 kV55 dc55 pm55 cd55 ct55 oc56 kV56 dc56 pm56 cd56 ct56 oc57 kV57 dc57 pm57 cd57 ct57 oc58 kV58 dc58 pm58 cd58 ct58 oc59 kV59 dc59 pm59 cd59 ct59 : Value}
    (a0 : PySem.W.nsIn K mainGlobals "is_whole" = some (some (.ref f0))) (l0 : K.lookup f0 = some ⟨oc0, od0, .func (PySem.W.fnOf "is_whole" "is_whole" (defArgs s_is_whole) (defBody s_is_whole) (defScope s_is_whole) .none kV0 dc0 pm0 an0 cd0 ct0), sl0⟩) (c0 : PySem.W.codeIn K cd0 "is_whole" = true) (k0 : PySem.W.keepIn K (.ref f0) = true)
    (a1 : PySem.W.nsIn K mainGlobals "is_number" = some (some (.ref f1))) (l1 : K.lookup f1 = some ⟨oc1, od1, .func (PySem.W.fnOf "is_number" "is_number" (defArgs s_is_number) (defBody s_is_number) (defScope s_is_number) .none kV1 dc1 pm1 an1 cd1 ct1), sl1⟩) (c1 : PySem.W.codeIn K cd1 "is_number" = true) (k1 : PySem.W.keepIn K (.ref f1) = true)
    (a2 : PySem.W.nsIn K mainGlobals "is_name" = some (some (.ref f2))) (l2 : K.lookup f2 = some ⟨oc2, od2, .func (PySem.W.fnOf "is_name" "is_name" (defArgs s_is_name) (defBody s_is_name) (defScope s_is_name) .none kV2 dc2 pm2 an2 cd2 ct2), sl2⟩) (c2 : PySem.W.codeIn K cd2 "is_name" = true) (k2 : PySem.W.keepIn K (.ref f2) = true)
    (a3 : PySem.W.nsIn K mainGlobals "fits" = some (some (.ref f3))) (l3 : K.lookup f3 = some ⟨oc3, od3, .func (PySem.W.fnOf "fits" "fits" (defArgs s_fits) (defBody s_fits) (defScope s_fits) .none kV3 dc3 pm3 an3 cd3 ct3), sl3⟩) (c3 : PySem.W.codeIn K cd3 "fits" = true) (k3 : PySem.W.keepIn K (.ref f3) = true)
    (a4 : PySem.W.nsIn K mainGlobals "place_of" = some (some (.ref f4))) (l4 : K.lookup f4 = some ⟨oc4, od4, .func (PySem.W.fnOf "place_of" "place_of" (defArgs s_place_of) (defBody s_place_of) (defScope s_place_of) .none kV4 dc4 pm4 an4 cd4 ct4), sl4⟩) (c4 : PySem.W.codeIn K cd4 "place_of" = true) (k4 : PySem.W.keepIn K (.ref f4) = true)
    (a5 : PySem.W.nsIn K mainGlobals "places_of" = some (some (.ref f5))) (l5 : K.lookup f5 = some ⟨oc5, od5, .func (PySem.W.fnOf "places_of" "places_of" (defArgs s_places_of) (defBody s_places_of) (defScope s_places_of) .none kV5 dc5 pm5 an5 cd5 ct5), sl5⟩) (c5 : PySem.W.codeIn K cd5 "places_of" = true) (k5 : PySem.W.keepIn K (.ref f5) = true)
    (a6 : PySem.W.nsIn K mainGlobals "kind_of" = some (some (.ref f6))) (l6 : K.lookup f6 = some ⟨oc6, od6, .func (PySem.W.fnOf "kind_of" "kind_of" (defArgs s_kind_of) (defBody s_kind_of) (defScope s_kind_of) .none kV6 dc6 pm6 an6 cd6 ct6), sl6⟩) (c6 : PySem.W.codeIn K cd6 "kind_of" = true) (k6 : PySem.W.keepIn K (.ref f6) = true)
    (a7 : PySem.W.nsIn K mainGlobals "has_word" = some (some (.ref f7))) (l7 : K.lookup f7 = some ⟨oc7, od7, .func (PySem.W.fnOf "has_word" "has_word" (defArgs s_has_word) (defBody s_has_word) (defScope s_has_word) .none kV7 dc7 pm7 an7 cd7 ct7), sl7⟩) (c7 : PySem.W.codeIn K cd7 "has_word" = true) (k7 : PySem.W.keepIn K (.ref f7) = true)
    (a8 : PySem.W.nsIn K mainGlobals "has_form" = some (some (.ref f8))) (l8 : K.lookup f8 = some ⟨oc8, od8, .func (PySem.W.fnOf "has_form" "has_form" (defArgs s_has_form) (defBody s_has_form) (defScope s_has_form) .none kV8 dc8 pm8 an8 cd8 ct8), sl8⟩) (c8 : PySem.W.codeIn K cd8 "has_form" = true) (k8 : PySem.W.keepIn K (.ref f8) = true)
    (a9 : PySem.W.nsIn K mainGlobals "is_check" = some (some (.ref f9))) (l9 : K.lookup f9 = some ⟨oc9, od9, .func (PySem.W.fnOf "is_check" "is_check" (defArgs s_is_check) (defBody s_is_check) (defScope s_is_check) .none kV9 dc9 pm9 an9 cd9 ct9), sl9⟩) (c9 : PySem.W.codeIn K cd9 "is_check" = true) (k9 : PySem.W.keepIn K (.ref f9) = true)
    (a10 : PySem.W.nsIn K mainGlobals "is_right" = some (some (.ref f10))) (l10 : K.lookup f10 = some ⟨oc10, od10, .func (PySem.W.fnOf "is_right" "is_right" (defArgs s_is_right) (defBody s_is_right) (defScope s_is_right) .none kV10 dc10 pm10 an10 cd10 ct10), sl10⟩) (c10 : PySem.W.codeIn K cd10 "is_right" = true) (k10 : PySem.W.keepIn K (.ref f10) = true)
    (a11 : PySem.W.nsIn K mainGlobals "just_within" = some (some (.ref f11))) (l11 : K.lookup f11 = some ⟨oc11, od11, .func (PySem.W.fnOf "just_within" "just_within" (defArgs s_just_within) (defBody s_just_within) (defScope s_just_within) .none kV11 dc11 pm11 an11 cd11 ct11), sl11⟩) (c11 : PySem.W.codeIn K cd11 "just_within" = true) (k11 : PySem.W.keepIn K (.ref f11) = true)
    (a12 : PySem.W.nsIn K mainGlobals "with_unlike_names" = some (some (.ref f12))) (l12 : K.lookup f12 = some ⟨oc12, od12, .func (PySem.W.fnOf "with_unlike_names" "with_unlike_names" (defArgs s_with_unlike_names) (defBody s_with_unlike_names) (defScope s_with_unlike_names) .none kV12 dc12 pm12 an12 cd12 ct12), sl12⟩) (c12 : PySem.W.codeIn K cd12 "with_unlike_names" = true) (k12 : PySem.W.keepIn K (.ref f12) = true)
    (a13 : PySem.W.nsIn K mainGlobals "named_columns" = some (some (.ref f13))) (l13 : K.lookup f13 = some ⟨oc13, od13, .func (PySem.W.fnOf "named_columns" "named_columns" (defArgs s_named_columns) (defBody s_named_columns) (defScope s_named_columns) .none kV13 dc13 pm13 an13 cd13 ct13), sl13⟩) (c13 : PySem.W.codeIn K cd13 "named_columns" = true) (k13 : PySem.W.keepIn K (.ref f13) = true)
    (a14 : PySem.W.nsIn K mainGlobals "where_columns" = some (some (.ref f14))) (l14 : K.lookup f14 = some ⟨oc14, od14, .func (PySem.W.fnOf "where_columns" "where_columns" (defArgs s_where_columns) (defBody s_where_columns) (defScope s_where_columns) .none kV14 dc14 pm14 an14 cd14 ct14), sl14⟩) (c14 : PySem.W.codeIn K cd14 "where_columns" = true) (k14 : PySem.W.keepIn K (.ref f14) = true)
    (a15 : PySem.W.nsIn K mainGlobals "pick_columns" = some (some (.ref f15))) (l15 : K.lookup f15 = some ⟨oc15, od15, .func (PySem.W.fnOf "pick_columns" "pick_columns" (defArgs s_pick_columns) (defBody s_pick_columns) (defScope s_pick_columns) .none kV15 dc15 pm15 an15 cd15 ct15), sl15⟩) (c15 : PySem.W.codeIn K cd15 "pick_columns" = true) (k15 : PySem.W.keepIn K (.ref f15) = true)
    (a16 : PySem.W.nsIn K mainGlobals "called_columns" = some (some (.ref f16))) (l16 : K.lookup f16 = some ⟨oc16, od16, .func (PySem.W.fnOf "called_columns" "called_columns" (defArgs s_called_columns) (defBody s_called_columns) (defScope s_called_columns) .none kV16 dc16 pm16 an16 cd16 ct16), sl16⟩) (c16 : PySem.W.codeIn K cd16 "called_columns" = true) (k16 : PySem.W.keepIn K (.ref f16) = true)
    (a17 : PySem.W.nsIn K mainGlobals "are_paired" = some (some (.ref f17))) (l17 : K.lookup f17 = some ⟨oc17, od17, .func (PySem.W.fnOf "are_paired" "are_paired" (defArgs s_are_paired) (defBody s_are_paired) (defScope s_are_paired) .none kV17 dc17 pm17 an17 cd17 ct17), sl17⟩) (c17 : PySem.W.codeIn K cd17 "are_paired" = true) (k17 : PySem.W.keepIn K (.ref f17) = true)
    (a18 : PySem.W.nsIn K mainGlobals "join_columns" = some (some (.ref f18))) (l18 : K.lookup f18 = some ⟨oc18, od18, .func (PySem.W.fnOf "join_columns" "join_columns" (defArgs s_join_columns) (defBody s_join_columns) (defScope s_join_columns) .none kV18 dc18 pm18 an18 cd18 ct18), sl18⟩) (c18 : PySem.W.codeIn K cd18 "join_columns" = true) (k18 : PySem.W.keepIn K (.ref f18) = true)
    (a19 : PySem.W.nsIn K mainGlobals "lacking_columns" = some (some (.ref f19))) (l19 : K.lookup f19 = some ⟨oc19, od19, .func (PySem.W.fnOf "lacking_columns" "lacking_columns" (defArgs s_lacking_columns) (defBody s_lacking_columns) (defScope s_lacking_columns) .none kV19 dc19 pm19 an19 cd19 ct19), sl19⟩) (c19 : PySem.W.codeIn K cd19 "lacking_columns" = true) (k19 : PySem.W.keepIn K (.ref f19) = true)
    (a20 : PySem.W.nsIn K mainGlobals "sum_kind" = some (some (.ref f20))) (l20 : K.lookup f20 = some ⟨oc20, od20, .func (PySem.W.fnOf "sum_kind" "sum_kind" (defArgs s_sum_kind) (defBody s_sum_kind) (defScope s_sum_kind) .none kV20 dc20 pm20 an20 cd20 ct20), sl20⟩) (c20 : PySem.W.codeIn K cd20 "sum_kind" = true) (k20 : PySem.W.keepIn K (.ref f20) = true)
    (a21 : PySem.W.nsIn K mainGlobals "sum_column" = some (some (.ref f21))) (l21 : K.lookup f21 = some ⟨oc21, od21, .func (PySem.W.fnOf "sum_column" "sum_column" (defArgs s_sum_column) (defBody s_sum_column) (defScope s_sum_column) .none kV21 dc21 pm21 an21 cd21 ct21), sl21⟩) (c21 : PySem.W.codeIn K cd21 "sum_column" = true) (k21 : PySem.W.keepIn K (.ref f21) = true)
    (a22 : PySem.W.nsIn K mainGlobals "sums_columns" = some (some (.ref f22))) (l22 : K.lookup f22 = some ⟨oc22, od22, .func (PySem.W.fnOf "sums_columns" "sums_columns" (defArgs s_sums_columns) (defBody s_sums_columns) (defScope s_sums_columns) .none kV22 dc22 pm22 an22 cd22 ct22), sl22⟩) (c22 : PySem.W.codeIn K cd22 "sums_columns" = true) (k22 : PySem.W.keepIn K (.ref f22) = true)
    (a23 : PySem.W.nsIn K mainGlobals "once_columns" = some (some (.ref f23))) (l23 : K.lookup f23 = some ⟨oc23, od23, .func (PySem.W.fnOf "once_columns" "once_columns" (defArgs s_once_columns) (defBody s_once_columns) (defScope s_once_columns) .none kV23 dc23 pm23 an23 cd23 ct23), sl23⟩) (c23 : PySem.W.codeIn K cd23 "once_columns" = true) (k23 : PySem.W.keepIn K (.ref f23) = true)
    (a24 : PySem.W.nsIn K mainGlobals "is_step" = some (some (.ref f24))) (l24 : K.lookup f24 = some ⟨oc24, od24, .func (PySem.W.fnOf "is_step" "is_step" (defArgs s_is_step) (defBody s_is_step) (defScope s_is_step) .none kV24 dc24 pm24 an24 cd24 ct24), sl24⟩) (c24 : PySem.W.codeIn K cd24 "is_step" = true) (k24 : PySem.W.keepIn K (.ref f24) = true)
    (a25 : PySem.W.nsIn K mainGlobals "is_order" = some (some (.ref f25))) (l25 : K.lookup f25 = some ⟨oc25, od25, .func (PySem.W.fnOf "is_order" "is_order" (defArgs s_is_order) (defBody s_is_order) (defScope s_is_order) .none kV25 dc25 pm25 an25 cd25 ct25), sl25⟩) (c25 : PySem.W.codeIn K cd25 "is_order" = true) (k25 : PySem.W.keepIn K (.ref f25) = true)
    (a26 : PySem.W.nsIn K mainGlobals "first_columns" = some (some (.ref f26))) (l26 : K.lookup f26 = some ⟨oc26, od26, .func (PySem.W.fnOf "first_columns" "first_columns" (defArgs s_first_columns) (defBody s_first_columns) (defScope s_first_columns) .none kV26 dc26 pm26 an26 cd26 ct26), sl26⟩) (c26 : PySem.W.codeIn K cd26 "first_columns" = true) (k26 : PySem.W.keepIn K (.ref f26) = true)
    (a27 : PySem.W.nsIn K mainGlobals "leaf_columns" = some (some (.ref f27))) (l27 : K.lookup f27 = some ⟨oc27, od27, .func (PySem.W.fnOf "leaf_columns" "leaf_columns" (defArgs s_leaf_columns) (defBody s_leaf_columns) (defScope s_leaf_columns) .none kV27 dc27 pm27 an27 cd27 ct27), sl27⟩) (c27 : PySem.W.codeIn K cd27 "leaf_columns" = true) (k27 : PySem.W.keepIn K (.ref f27) = true)
    (a28 : PySem.W.nsIn K mainGlobals "columns_in" = some (some (.ref f28))) (l28 : K.lookup f28 = some ⟨oc28, od28, .func (PySem.W.fnOf "columns_in" "columns_in" (defArgs s_columns_in) (defBody s_columns_in) (defScope s_columns_in) .none kV28 dc28 pm28 an28 cd28 ct28), sl28⟩) (c28 : PySem.W.codeIn K cd28 "columns_in" = true) (k28 : PySem.W.keepIn K (.ref f28) = true)
    (a29 : PySem.W.nsIn K mainGlobals "columns_of" = some (some (.ref f29))) (l29 : K.lookup f29 = some ⟨oc29, od29, .func (PySem.W.fnOf "columns_of" "columns_of" (defArgs s_columns_of) (defBody s_columns_of) (defScope s_columns_of) .none kV29 dc29 pm29 an29 cd29 ct29), sl29⟩) (c29 : PySem.W.codeIn K cd29 "columns_of" = true) (k29 : PySem.W.keepIn K (.ref f29) = true)
    (a30 : PySem.W.nsIn K mainGlobals "is_question" = some (some (.ref f30))) (l30 : K.lookup f30 = some ⟨oc30, od30, .func (PySem.W.fnOf "is_question" "is_question" (defArgs s_is_question) (defBody s_is_question) (defScope s_is_question) .none kV30 dc30 pm30 an30 cd30 ct30), sl30⟩) (c30 : PySem.W.codeIn K cd30 "is_question" = true) (k30 : PySem.W.keepIn K (.ref f30) = true)
    (a31 : PySem.W.nsIn K mainGlobals "_law_hand" = some (some (.ref f31))) (l31 : K.lookup f31 = some ⟨oc31, od31, .func (PySem.W.fnOf "_law_hand" "_law_hand" (defArgs s_law_hand) (defBody s_law_hand) (defScope s_law_hand) .none kV31 dc31 pm31 an31 cd31 ct31), sl31⟩) (c31 : PySem.W.codeIn K cd31 "_law_hand" = true) (k31 : PySem.W.keepIn K (.ref f31) = true)
    (a32 : PySem.W.nsIn K mainGlobals "_law_pick" = some (some (.ref f32))) (l32 : K.lookup f32 = some ⟨oc32, od32, .func (PySem.W.fnOf "_law_pick" "_law_pick" (defArgs s_law_pick) (defBody s_law_pick) (defScope s_law_pick) .none kV32 dc32 pm32 an32 cd32 ct32), sl32⟩) (c32 : PySem.W.codeIn K cd32 "_law_pick" = true) (k32 : PySem.W.keepIn K (.ref f32) = true)
    (a33 : PySem.W.nsIn K mainGlobals "_law_of" = some (some (.ref f33))) (l33 : K.lookup f33 = some ⟨oc33, od33, .func (PySem.W.fnOf "_law_of" "_law_of" (defArgs s_law_of) (defBody s_law_of) (defScope s_law_of) .none kV33 dc33 pm33 an33 cd33 ct33), sl33⟩) (c33 : PySem.W.codeIn K cd33 "_law_of" = true) (k33 : PySem.W.keepIn K (.ref f33) = true)
    (a34 : PySem.W.nsIn K mainGlobals "_law_names" = some (some (.ref f34))) (l34 : K.lookup f34 = some ⟨oc34, od34, .func (PySem.W.fnOf "_law_names" "_law_names" (defArgs s_law_names) (defBody s_law_names) (defScope s_law_names) .none kV34 dc34 pm34 an34 cd34 ct34), sl34⟩) (c34 : PySem.W.codeIn K cd34 "_law_names" = true) (k34 : PySem.W.keepIn K (.ref f34) = true)
    (a35 : PySem.W.nsIn K mainGlobals "_law_plan" = some (some (.ref f35))) (l35 : K.lookup f35 = some ⟨oc35, od35, .func (PySem.W.fnOf "_law_plan" "_law_plan" (defArgs s_law_plan) (defBody s_law_plan) (defScope s_law_plan) .none kV35 dc35 pm35 an35 cd35 ct35), sl35⟩) (c35 : PySem.W.codeIn K cd35 "_law_plan" = true) (k35 : PySem.W.keepIn K (.ref f35) = true)
    (a36 : PySem.W.nsIn K mainGlobals "_law_worth" = some (some (.ref f36))) (l36 : K.lookup f36 = some ⟨oc36, od36, .func (PySem.W.fnOf "_law_worth" "_law_worth" (defArgs s_law_worth) (defBody s_law_worth) (defScope s_law_worth) .none kV36 dc36 pm36 an36 cd36 ct36), sl36⟩) (c36 : PySem.W.codeIn K cd36 "_law_worth" = true) (k36 : PySem.W.keepIn K (.ref f36) = true)
    (a37 : PySem.W.nsIn K mainGlobals "_law_named" = some (some (.ref f37))) (l37 : K.lookup f37 = some ⟨oc37, od37, .func (PySem.W.fnOf "_law_named" "_law_named" (defArgs s_law_named) (defBody s_law_named) (defScope s_law_named) .none kV37 dc37 pm37 an37 cd37 ct37), sl37⟩) (c37 : PySem.W.codeIn K cd37 "_law_named" = true) (k37 : PySem.W.keepIn K (.ref f37) = true)
    (a38 : PySem.W.nsIn K mainGlobals "_law_check" = some (some (.ref f38))) (l38 : K.lookup f38 = some ⟨oc38, od38, .func (PySem.W.fnOf "_law_check" "_law_check" (defArgs s_law_check) (defBody s_law_check) (defScope s_law_check) .none kV38 dc38 pm38 an38 cd38 ct38), sl38⟩) (c38 : PySem.W.codeIn K cd38 "_law_check" = true) (k38 : PySem.W.keepIn K (.ref f38) = true)
    (a39 : PySem.W.nsIn K mainGlobals "_law_fresh" = some (some (.ref f39))) (l39 : K.lookup f39 = some ⟨oc39, od39, .func (PySem.W.fnOf "_law_fresh" "_law_fresh" (defArgs s_law_fresh) (defBody s_law_fresh) (defScope s_law_fresh) .none kV39 dc39 pm39 an39 cd39 ct39), sl39⟩) (c39 : PySem.W.codeIn K cd39 "_law_fresh" = true) (k39 : PySem.W.keepIn K (.ref f39) = true)
    (a40 : PySem.W.nsIn K mainGlobals "_law_some" = some (some (.ref f40))) (l40 : K.lookup f40 = some ⟨oc40, od40, .func (PySem.W.fnOf "_law_some" "_law_some" (defArgs s_law_some) (defBody s_law_some) (defScope s_law_some) .none kV40 dc40 pm40 an40 cd40 ct40), sl40⟩) (c40 : PySem.W.codeIn K cd40 "_law_some" = true) (k40 : PySem.W.keepIn K (.ref f40) = true)
    (a41 : PySem.W.nsIn K mainGlobals "_law_called" = some (some (.ref f41))) (l41 : K.lookup f41 = some ⟨oc41, od41, .func (PySem.W.fnOf "_law_called" "_law_called" (defArgs s_law_called) (defBody s_law_called) (defScope s_law_called) .none kV41 dc41 pm41 an41 cd41 ct41), sl41⟩) (c41 : PySem.W.codeIn K cd41 "_law_called" = true) (k41 : PySem.W.keepIn K (.ref f41) = true)
    (a42 : PySem.W.nsIn K mainGlobals "_law_sums" = some (some (.ref f42))) (l42 : K.lookup f42 = some ⟨oc42, od42, .func (PySem.W.fnOf "_law_sums" "_law_sums" (defArgs s_law_sums) (defBody s_law_sums) (defScope s_law_sums) .none kV42 dc42 pm42 an42 cd42 ct42), sl42⟩) (c42 : PySem.W.codeIn K cd42 "_law_sums" = true) (k42 : PySem.W.keepIn K (.ref f42) = true)
    (a43 : PySem.W.nsIn K mainGlobals "_law_two" = some (some (.ref f43))) (l43 : K.lookup f43 = some ⟨oc43, od43, .func (PySem.W.fnOf "_law_two" "_law_two" (defArgs s_law_two) (defBody s_law_two) (defScope s_law_two) .none kV43 dc43 pm43 an43 cd43 ct43), sl43⟩) (c43 : PySem.W.codeIn K cd43 "_law_two" = true) (k43 : PySem.W.keepIn K (.ref f43) = true)
    (a44 : PySem.W.nsIn K mainGlobals "_law_first" = some (some (.ref f44))) (l44 : K.lookup f44 = some ⟨oc44, od44, .func (PySem.W.fnOf "_law_first" "_law_first" (defArgs s_law_first) (defBody s_law_first) (defScope s_law_first) .none kV44 dc44 pm44 an44 cd44 ct44), sl44⟩) (c44 : PySem.W.codeIn K cd44 "_law_first" = true) (k44 : PySem.W.keepIn K (.ref f44) = true)
    (a45 : PySem.W.nsIn K mainGlobals "_law_question" = some (some (.ref f45))) (l45 : K.lookup f45 = some ⟨oc45, od45, .func (PySem.W.fnOf "_law_question" "_law_question" (defArgs s_law_question) (defBody s_law_question) (defScope s_law_question) .none kV45 dc45 pm45 an45 cd45 ct45), sl45⟩) (c45 : PySem.W.codeIn K cd45 "_law_question" = true) (k45 : PySem.W.keepIn K (.ref f45) = true)
    (a46 : PySem.W.nsIn K mainGlobals "_law_is_name" = some (some (.ref f46))) (l46 : K.lookup f46 = some ⟨oc46, od46, .func (PySem.W.fnOf "_law_is_name" "_law_is_name" (defArgs s_law_is_name) (defBody s_law_is_name) (defScope s_law_is_name) .none kV46 dc46 pm46 an46 cd46 ct46), sl46⟩) (c46 : PySem.W.codeIn K cd46 "_law_is_name" = true) (k46 : PySem.W.keepIn K (.ref f46) = true)
    (a47 : PySem.W.nsIn K mainGlobals "_law_is_number" = some (some (.ref f47))) (l47 : K.lookup f47 = some ⟨oc47, od47, .func (PySem.W.fnOf "_law_is_number" "_law_is_number" (defArgs s_law_is_number) (defBody s_law_is_number) (defScope s_law_is_number) .none kV47 dc47 pm47 an47 cd47 ct47), sl47⟩) (c47 : PySem.W.codeIn K cd47 "_law_is_number" = true) (k47 : PySem.W.keepIn K (.ref f47) = true)
    (a48 : PySem.W.nsIn K mainGlobals "_law_fits" = some (some (.ref f48))) (l48 : K.lookup f48 = some ⟨oc48, od48, .func (PySem.W.fnOf "_law_fits" "_law_fits" (defArgs s_law_fits) (defBody s_law_fits) (defScope s_law_fits) .none kV48 dc48 pm48 an48 cd48 ct48), sl48⟩) (c48 : PySem.W.codeIn K cd48 "_law_fits" = true) (k48 : PySem.W.keepIn K (.ref f48) = true)
    (a49 : PySem.W.nsIn K mainGlobals "_law_kind" = some (some (.ref f49))) (l49 : K.lookup f49 = some ⟨oc49, od49, .func (PySem.W.fnOf "_law_kind" "_law_kind" (defArgs s_law_kind) (defBody s_law_kind) (defScope s_law_kind) .none kV49 dc49 pm49 an49 cd49 ct49), sl49⟩) (c49 : PySem.W.codeIn K cd49 "_law_kind" = true) (k49 : PySem.W.keepIn K (.ref f49) = true)
    (a50 : PySem.W.nsIn K mainGlobals "_law_is_check" = some (some (.ref f50))) (l50 : K.lookup f50 = some ⟨oc50, od50, .func (PySem.W.fnOf "_law_is_check" "_law_is_check" (defArgs s_law_is_check) (defBody s_law_is_check) (defScope s_law_is_check) .none kV50 dc50 pm50 an50 cd50 ct50), sl50⟩) (c50 : PySem.W.codeIn K cd50 "_law_is_check" = true) (k50 : PySem.W.keepIn K (.ref f50) = true)
    (a51 : PySem.W.nsIn K mainGlobals "_law_are_unlike" = some (some (.ref f51))) (l51 : K.lookup f51 = some ⟨oc51, od51, .func (PySem.W.fnOf "_law_are_unlike" "_law_are_unlike" (defArgs s_law_are_unlike) (defBody s_law_are_unlike) (defScope s_law_are_unlike) .none kV51 dc51 pm51 an51 cd51 ct51), sl51⟩) (c51 : PySem.W.codeIn K cd51 "_law_are_unlike" = true) (k51 : PySem.W.keepIn K (.ref f51) = true)
    (a52 : PySem.W.nsIn K mainGlobals "_law_taken" = some (some (.ref f52))) (l52 : K.lookup f52 = some ⟨oc52, od52, .func (PySem.W.fnOf "_law_taken" "_law_taken" (defArgs s_law_taken) (defBody s_law_taken) (defScope s_law_taken) .none kV52 dc52 pm52 an52 cd52 ct52), sl52⟩) (c52 : PySem.W.codeIn K cd52 "_law_taken" = true) (k52 : PySem.W.keepIn K (.ref f52) = true)
    (a53 : PySem.W.nsIn K mainGlobals "_law_sum" = some (some (.ref f53))) (l53 : K.lookup f53 = some ⟨oc53, od53, .func (PySem.W.fnOf "_law_sum" "_law_sum" (defArgs s_law_sum) (defBody s_law_sum) (defScope s_law_sum) .none kV53 dc53 pm53 an53 cd53 ct53), sl53⟩) (c53 : PySem.W.codeIn K cd53 "_law_sum" = true) (k53 : PySem.W.keepIn K (.ref f53) = true)
    (a54 : PySem.W.nsIn K mainGlobals "_law_sums_found" = some (some (.ref f54))) (l54 : K.lookup f54 = some ⟨oc54, od54, .func (PySem.W.fnOf "_law_sums_found" "_law_sums_found" (defArgs s_law_sums_found) (defBody s_law_sums_found) (defScope s_law_sums_found) .none kV54 dc54 pm54 an54 cd54 ct54), sl54⟩) (c54 : PySem.W.codeIn K cd54 "_law_sums_found" = true) (k54 : PySem.W.keepIn K (.ref f54) = true)
    (a55 : PySem.W.nsIn K mainGlobals "_law_is_order" = some (some (.ref f55))) (l55 : K.lookup f55 = some ⟨oc55, od55, .func (PySem.W.fnOf "_law_is_order" "_law_is_order" (defArgs s_law_is_order) (defBody s_law_is_order) (defScope s_law_is_order) .none kV55 dc55 pm55 an55 cd55 ct55), sl55⟩) (c55 : PySem.W.codeIn K cd55 "_law_is_order" = true) (k55 : PySem.W.keepIn K (.ref f55) = true)
    (a56 : PySem.W.nsIn K mainGlobals "_law_sides_found" = some (some (.ref f56))) (l56 : K.lookup f56 = some ⟨oc56, od56, .func (PySem.W.fnOf "_law_sides_found" "_law_sides_found" (defArgs s_law_sides_found) (defBody s_law_sides_found) (defScope s_law_sides_found) .none kV56 dc56 pm56 an56 cd56 ct56), sl56⟩) (c56 : PySem.W.codeIn K cd56 "_law_sides_found" = true) (k56 : PySem.W.keepIn K (.ref f56) = true)
    (a57 : PySem.W.nsIn K mainGlobals "_law_one_found" = some (some (.ref f57))) (l57 : K.lookup f57 = some ⟨oc57, od57, .func (PySem.W.fnOf "_law_one_found" "_law_one_found" (defArgs s_law_one_found) (defBody s_law_one_found) (defScope s_law_one_found) .none kV57 dc57 pm57 an57 cd57 ct57), sl57⟩) (c57 : PySem.W.codeIn K cd57 "_law_one_found" = true) (k57 : PySem.W.keepIn K (.ref f57) = true)
    (a58 : PySem.W.nsIn K mainGlobals "_law_found" = some (some (.ref f58))) (l58 : K.lookup f58 = some ⟨oc58, od58, .func (PySem.W.fnOf "_law_found" "_law_found" (defArgs s_law_found) (defBody s_law_found) (defScope s_law_found) .none kV58 dc58 pm58 an58 cd58 ct58), sl58⟩) (c58 : PySem.W.codeIn K cd58 "_law_found" = true) (k58 : PySem.W.keepIn K (.ref f58) = true)
    (a59 : PySem.W.nsIn K mainGlobals "law" = some (some (.ref f59))) (l59 : K.lookup f59 = some ⟨oc59, od59, .func (PySem.W.fnOf "law" "law" (defArgs s_law) (defBody s_law) (defScope s_law) .none kV59 dc59 pm59 an59 cd59 ct59), sl59⟩) (c59 : PySem.W.codeIn K cd59 "law" = true) (k59 : PySem.W.keepIn K (.ref f59) = true)
    (z_all : PySem.W.nsIn K mainGlobals "all" = some none)
    (z_bool : PySem.W.nsIn K mainGlobals "bool" = some none)
    (z_dict : PySem.W.nsIn K mainGlobals "dict" = some none)
    (z_enumerate : PySem.W.nsIn K mainGlobals "enumerate" = some none)
    (z_int : PySem.W.nsIn K mainGlobals "int" = some none)
    (z_isinstance : PySem.W.nsIn K mainGlobals "isinstance" = some none)
    (z_len : PySem.W.nsIn K mainGlobals "len" = some none)
    (z_list : PySem.W.nsIn K mainGlobals "list" = some none)
    (z_range : PySem.W.nsIn K mainGlobals "range" = some none)
    (z_repr : PySem.W.nsIn K mainGlobals "repr" = some none)
    (z_set : PySem.W.nsIn K mainGlobals "set" = some none)
    (z_sorted : PySem.W.nsIn K mainGlobals "sorted" = some none)
    (z_str : PySem.W.nsIn K mainGlobals "str" = some none)
    (z_tuple : PySem.W.nsIn K mainGlobals "tuple" = some none)
    (z_type : PySem.W.nsIn K mainGlobals "type" = some none)
    (z_zip : PySem.W.nsIn K mainGlobals "zip" = some none)
    {t_GREATEST : Tok} (y_GREATEST : PySem.W.nsIn K mainGlobals "GREATEST" = some (some (.int 1000000000 t_GREATEST)))
    {t_LONGEST : Tok} (y_LONGEST : PySem.W.nsIn K mainGlobals "LONGEST" = some (some (.int 8 t_LONGEST)))
    {A_WAYS : Addr} {t0_WAYS t1_WAYS : Tok} {od_WAYS : Option Addr} {n_WAYS : Nat} {sl_WAYS : Array (Option Value)} (y_WAYS : PySem.W.nsIn K mainGlobals "WAYS" = some (some (.ref A_WAYS))) (w_WAYS : K.lookup A_WAYS = some ⟨.type "tuple", od_WAYS, .seq #[.str (Str.ofString "up") t0_WAYS, .str (Str.ofString "down") t1_WAYS] n_WAYS, sl_WAYS⟩)
    {A_COLUMNS : Addr} {h0_COLUMNS h1_COLUMNS h2_COLUMNS h3_COLUMNS h4_COLUMNS h5_COLUMNS h6_COLUMNS h7_COLUMNS : Int} {k0_COLUMNS k1_COLUMNS k2_COLUMNS k3_COLUMNS k4_COLUMNS k5_COLUMNS k6_COLUMNS k7_COLUMNS : Tok}  {n_COLUMNS : Nat} (y_COLUMNS : PySem.W.nsIn K mainGlobals "COLUMNS" = some (some (.ref A_COLUMNS))) (w_COLUMNS : K.lookup A_COLUMNS = some ⟨.type "dict", none, .dict #[⟨h0_COLUMNS, .str (Str.ofString "where") k0_COLUMNS, .ref f14⟩, ⟨h1_COLUMNS, .str (Str.ofString "pick") k1_COLUMNS, .ref f15⟩, ⟨h2_COLUMNS, .str (Str.ofString "called") k2_COLUMNS, .ref f16⟩, ⟨h3_COLUMNS, .str (Str.ofString "join") k3_COLUMNS, .ref f18⟩, ⟨h4_COLUMNS, .str (Str.ofString "sums") k4_COLUMNS, .ref f22⟩, ⟨h5_COLUMNS, .str (Str.ofString "once") k5_COLUMNS, .ref f23⟩, ⟨h6_COLUMNS, .str (Str.ofString "lacking") k6_COLUMNS, .ref f19⟩, ⟨h7_COLUMNS, .str (Str.ofString "first") k7_COLUMNS, .ref f26⟩] n_COLUMNS, #[]⟩) (l_COLUMNS : PySem.W.KeysLit w.params (#[⟨h0_COLUMNS, .str (Str.ofString "where") k0_COLUMNS, .ref f14⟩, ⟨h1_COLUMNS, .str (Str.ofString "pick") k1_COLUMNS, .ref f15⟩, ⟨h2_COLUMNS, .str (Str.ofString "called") k2_COLUMNS, .ref f16⟩, ⟨h3_COLUMNS, .str (Str.ofString "join") k3_COLUMNS, .ref f18⟩, ⟨h4_COLUMNS, .str (Str.ofString "sums") k4_COLUMNS, .ref f22⟩, ⟨h5_COLUMNS, .str (Str.ofString "once") k5_COLUMNS, .ref f23⟩, ⟨h6_COLUMNS, .str (Str.ofString "lacking") k6_COLUMNS, .ref f19⟩, ⟨h7_COLUMNS, .str (Str.ofString "first") k7_COLUMNS, .ref f26⟩] : Array DictEntry).toList) (m_COLUMNS : (A_COLUMNS == sysModules) = false)
    {A_LENGTHS_checks : Addr} {h0_LENGTHS_checks h1_LENGTHS_checks h2_LENGTHS_checks h3_LENGTHS_checks h4_LENGTHS_checks h5_LENGTHS_checks : Int} {k0_LENGTHS_checks k1_LENGTHS_checks k2_LENGTHS_checks k3_LENGTHS_checks k4_LENGTHS_checks k5_LENGTHS_checks : Tok} {u0_LENGTHS_checks u1_LENGTHS_checks u2_LENGTHS_checks u3_LENGTHS_checks u4_LENGTHS_checks u5_LENGTHS_checks : Tok} {n_LENGTHS_checks : Nat} (y_LENGTHS_checks : PySem.W.nsIn K mainGlobals "LENGTHS_checks" = some (some (.ref A_LENGTHS_checks))) (w_LENGTHS_checks : K.lookup A_LENGTHS_checks = some ⟨.type "dict", none, .dict #[⟨h0_LENGTHS_checks, .str (Str.ofString "is") k0_LENGTHS_checks, .int (3) u0_LENGTHS_checks⟩, ⟨h1_LENGTHS_checks, .str (Str.ofString "below") k1_LENGTHS_checks, .int (3) u1_LENGTHS_checks⟩, ⟨h2_LENGTHS_checks, .str (Str.ofString "like") k2_LENGTHS_checks, .int (3) u2_LENGTHS_checks⟩, ⟨h3_LENGTHS_checks, .str (Str.ofString "not") k3_LENGTHS_checks, .int (2) u3_LENGTHS_checks⟩, ⟨h4_LENGTHS_checks, .str (Str.ofString "and") k4_LENGTHS_checks, .int (3) u4_LENGTHS_checks⟩, ⟨h5_LENGTHS_checks, .str (Str.ofString "or") k5_LENGTHS_checks, .int (3) u5_LENGTHS_checks⟩] n_LENGTHS_checks, #[]⟩) (l_LENGTHS_checks : PySem.W.KeysLit w.params (#[⟨h0_LENGTHS_checks, .str (Str.ofString "is") k0_LENGTHS_checks, .int (3) u0_LENGTHS_checks⟩, ⟨h1_LENGTHS_checks, .str (Str.ofString "below") k1_LENGTHS_checks, .int (3) u1_LENGTHS_checks⟩, ⟨h2_LENGTHS_checks, .str (Str.ofString "like") k2_LENGTHS_checks, .int (3) u2_LENGTHS_checks⟩, ⟨h3_LENGTHS_checks, .str (Str.ofString "not") k3_LENGTHS_checks, .int (2) u3_LENGTHS_checks⟩, ⟨h4_LENGTHS_checks, .str (Str.ofString "and") k4_LENGTHS_checks, .int (3) u4_LENGTHS_checks⟩, ⟨h5_LENGTHS_checks, .str (Str.ofString "or") k5_LENGTHS_checks, .int (3) u5_LENGTHS_checks⟩] : Array DictEntry).toList) (m_LENGTHS_checks : (A_LENGTHS_checks == sysModules) = false)
    {A_LENGTHS_forms : Addr} {h0_LENGTHS_forms h1_LENGTHS_forms h2_LENGTHS_forms h3_LENGTHS_forms h4_LENGTHS_forms h5_LENGTHS_forms h6_LENGTHS_forms h7_LENGTHS_forms h8_LENGTHS_forms h9_LENGTHS_forms : Int} {k0_LENGTHS_forms k1_LENGTHS_forms k2_LENGTHS_forms k3_LENGTHS_forms k4_LENGTHS_forms k5_LENGTHS_forms k6_LENGTHS_forms k7_LENGTHS_forms k8_LENGTHS_forms k9_LENGTHS_forms : Tok} {u0_LENGTHS_forms u1_LENGTHS_forms u2_LENGTHS_forms u3_LENGTHS_forms u4_LENGTHS_forms u5_LENGTHS_forms u6_LENGTHS_forms u7_LENGTHS_forms u8_LENGTHS_forms u9_LENGTHS_forms : Tok} {n_LENGTHS_forms : Nat} (y_LENGTHS_forms : PySem.W.nsIn K mainGlobals "LENGTHS_forms" = some (some (.ref A_LENGTHS_forms))) (w_LENGTHS_forms : K.lookup A_LENGTHS_forms = some ⟨.type "dict", none, .dict #[⟨h0_LENGTHS_forms, .str (Str.ofString "all") k0_LENGTHS_forms, .int (2) u0_LENGTHS_forms⟩, ⟨h1_LENGTHS_forms, .str (Str.ofString "see") k1_LENGTHS_forms, .int (3) u1_LENGTHS_forms⟩, ⟨h2_LENGTHS_forms, .str (Str.ofString "where") k2_LENGTHS_forms, .int (3) u2_LENGTHS_forms⟩, ⟨h3_LENGTHS_forms, .str (Str.ofString "pick") k3_LENGTHS_forms, .int (3) u3_LENGTHS_forms⟩, ⟨h4_LENGTHS_forms, .str (Str.ofString "called") k4_LENGTHS_forms, .int (3) u4_LENGTHS_forms⟩, ⟨h5_LENGTHS_forms, .str (Str.ofString "join") k5_LENGTHS_forms, .int (5) u5_LENGTHS_forms⟩, ⟨h6_LENGTHS_forms, .str (Str.ofString "sums") k6_LENGTHS_forms, .int (4) u6_LENGTHS_forms⟩, ⟨h7_LENGTHS_forms, .str (Str.ofString "once") k7_LENGTHS_forms, .int (2) u7_LENGTHS_forms⟩, ⟨h8_LENGTHS_forms, .str (Str.ofString "lacking") k8_LENGTHS_forms, .int (5) u8_LENGTHS_forms⟩, ⟨h9_LENGTHS_forms, .str (Str.ofString "first") k9_LENGTHS_forms, .int (4) u9_LENGTHS_forms⟩] n_LENGTHS_forms, #[]⟩) (l_LENGTHS_forms : PySem.W.KeysLit w.params (#[⟨h0_LENGTHS_forms, .str (Str.ofString "all") k0_LENGTHS_forms, .int (2) u0_LENGTHS_forms⟩, ⟨h1_LENGTHS_forms, .str (Str.ofString "see") k1_LENGTHS_forms, .int (3) u1_LENGTHS_forms⟩, ⟨h2_LENGTHS_forms, .str (Str.ofString "where") k2_LENGTHS_forms, .int (3) u2_LENGTHS_forms⟩, ⟨h3_LENGTHS_forms, .str (Str.ofString "pick") k3_LENGTHS_forms, .int (3) u3_LENGTHS_forms⟩, ⟨h4_LENGTHS_forms, .str (Str.ofString "called") k4_LENGTHS_forms, .int (3) u4_LENGTHS_forms⟩, ⟨h5_LENGTHS_forms, .str (Str.ofString "join") k5_LENGTHS_forms, .int (5) u5_LENGTHS_forms⟩, ⟨h6_LENGTHS_forms, .str (Str.ofString "sums") k6_LENGTHS_forms, .int (4) u6_LENGTHS_forms⟩, ⟨h7_LENGTHS_forms, .str (Str.ofString "once") k7_LENGTHS_forms, .int (2) u7_LENGTHS_forms⟩, ⟨h8_LENGTHS_forms, .str (Str.ofString "lacking") k8_LENGTHS_forms, .int (5) u8_LENGTHS_forms⟩, ⟨h9_LENGTHS_forms, .str (Str.ofString "first") k9_LENGTHS_forms, .int (4) u9_LENGTHS_forms⟩] : Array DictEntry).toList) (m_LENGTHS_forms : (A_LENGTHS_forms == sysModules) = false)
    {A_WITHIN : Addr} {h0_WITHIN h1_WITHIN h2_WITHIN h3_WITHIN h4_WITHIN h5_WITHIN h6_WITHIN h7_WITHIN h8_WITHIN h9_WITHIN : Int} {k0_WITHIN k1_WITHIN k2_WITHIN k3_WITHIN k4_WITHIN k5_WITHIN k6_WITHIN k7_WITHIN k8_WITHIN k9_WITHIN : Tok} {u0_WITHIN u1_WITHIN u2_WITHIN u3_WITHIN u4_WITHIN u5_WITHIN u6_WITHIN u7_WITHIN u8_WITHIN u9_WITHIN : Tok} {n_WITHIN : Nat} (y_WITHIN : PySem.W.nsIn K mainGlobals "WITHIN" = some (some (.ref A_WITHIN))) (w_WITHIN : K.lookup A_WITHIN = some ⟨.type "dict", none, .dict #[⟨h0_WITHIN, .str (Str.ofString "all") k0_WITHIN, .int (0) u0_WITHIN⟩, ⟨h1_WITHIN, .str (Str.ofString "see") k1_WITHIN, .int (0) u1_WITHIN⟩, ⟨h2_WITHIN, .str (Str.ofString "where") k2_WITHIN, .int (1) u2_WITHIN⟩, ⟨h3_WITHIN, .str (Str.ofString "pick") k3_WITHIN, .int (1) u3_WITHIN⟩, ⟨h4_WITHIN, .str (Str.ofString "called") k4_WITHIN, .int (1) u4_WITHIN⟩, ⟨h5_WITHIN, .str (Str.ofString "join") k5_WITHIN, .int (2) u5_WITHIN⟩, ⟨h6_WITHIN, .str (Str.ofString "sums") k6_WITHIN, .int (1) u6_WITHIN⟩, ⟨h7_WITHIN, .str (Str.ofString "once") k7_WITHIN, .int (1) u7_WITHIN⟩, ⟨h8_WITHIN, .str (Str.ofString "lacking") k8_WITHIN, .int (2) u8_WITHIN⟩, ⟨h9_WITHIN, .str (Str.ofString "first") k9_WITHIN, .int (1) u9_WITHIN⟩] n_WITHIN, #[]⟩) (l_WITHIN : PySem.W.KeysLit w.params (#[⟨h0_WITHIN, .str (Str.ofString "all") k0_WITHIN, .int (0) u0_WITHIN⟩, ⟨h1_WITHIN, .str (Str.ofString "see") k1_WITHIN, .int (0) u1_WITHIN⟩, ⟨h2_WITHIN, .str (Str.ofString "where") k2_WITHIN, .int (1) u2_WITHIN⟩, ⟨h3_WITHIN, .str (Str.ofString "pick") k3_WITHIN, .int (1) u3_WITHIN⟩, ⟨h4_WITHIN, .str (Str.ofString "called") k4_WITHIN, .int (1) u4_WITHIN⟩, ⟨h5_WITHIN, .str (Str.ofString "join") k5_WITHIN, .int (2) u5_WITHIN⟩, ⟨h6_WITHIN, .str (Str.ofString "sums") k6_WITHIN, .int (1) u6_WITHIN⟩, ⟨h7_WITHIN, .str (Str.ofString "once") k7_WITHIN, .int (1) u7_WITHIN⟩, ⟨h8_WITHIN, .str (Str.ofString "lacking") k8_WITHIN, .int (2) u8_WITHIN⟩, ⟨h9_WITHIN, .str (Str.ofString "first") k9_WITHIN, .int (1) u9_WITHIN⟩] : Array DictEntry).toList) (m_WITHIN : (A_WITHIN == sysModules) = false)
    : ∃ fd : FuncData, (∀ (s : Shared) (v : Value), BindsTo s fd ⟨[v], []⟩ [("script", v)]) ∧ ∀ base : Heap, K.In base → base.Ns mainGlobals mg → DG.FnG l.prog w K mg base CX0 60 fa fd ["script"] (spLaw K) := by
  have e := hfa.symm.trans (PySem.W.mg_of X G a59)
  cases e
  have T : Txt K mg := { b_all := PySem.W.mg_none_of X G z_all, b_bool := PySem.W.mg_none_of X G z_bool, b_dict := PySem.W.mg_none_of X G z_dict, b_enumerate := PySem.W.mg_none_of X G z_enumerate, b_int := PySem.W.mg_none_of X G z_int, b_isinstance := PySem.W.mg_none_of X G z_isinstance, b_len := PySem.W.mg_none_of X G z_len, b_list := PySem.W.mg_none_of X G z_list, b_range := PySem.W.mg_none_of X G z_range, b_repr := PySem.W.mg_none_of X G z_repr, b_set := PySem.W.mg_none_of X G z_set, b_sorted := PySem.W.mg_none_of X G z_sorted, b_str := PySem.W.mg_none_of X G z_str, b_tuple := PySem.W.mg_none_of X G z_tuple, b_type := PySem.W.mg_none_of X G z_type, b_zip := PySem.W.mg_none_of X G z_zip, c_GREATEST := ⟨_, PySem.W.mg_of X G y_GREATEST⟩, c_LONGEST := ⟨_, PySem.W.mg_of X G y_LONGEST⟩, c_WAYS := ⟨_, PySem.W.mg_of X G y_WAYS, fun _ => .inr ⟨_, _, _, w_WAYS, rfl, rfl, (show 2 ≤ sizeLine by decide), (.cons ⟨_, rfl⟩ (.cons ⟨_, rfl⟩ .nil))⟩⟩ }
  have F0 := fun_mk (st := s_is_whole) l0 c0 k0
  have D0 : Def K mg "is_whole" s_is_whole p_is_whole f0 _ := ⟨F0, PySem.W.mg_of X G a0, F0.binds (ps := p_is_whole) fun _ _ _ _ _ _ us hl => match us, hl with | [_], _ => rfl⟩
  have F1 := fun_mk (st := s_is_number) l1 c1 k1
  have D1 : Def K mg "is_number" s_is_number p_is_number f1 _ := ⟨F1, PySem.W.mg_of X G a1, F1.binds (ps := p_is_number) fun _ _ _ _ _ _ us hl => match us, hl with | [_], _ => rfl⟩
  have F2 := fun_mk (st := s_is_name) l2 c2 k2
  have D2 : Def K mg "is_name" s_is_name p_is_name f2 _ := ⟨F2, PySem.W.mg_of X G a2, F2.binds (ps := p_is_name) fun _ _ _ _ _ _ us hl => match us, hl with | [_], _ => rfl⟩
  have F3 := fun_mk (st := s_fits) l3 c3 k3
  have D3 : Def K mg "fits" s_fits p_fits f3 _ := ⟨F3, PySem.W.mg_of X G a3, F3.binds (ps := p_fits) fun _ _ _ _ _ _ us hl => match us, hl with | [_, _], _ => rfl⟩
  have F4 := fun_mk (st := s_place_of) l4 c4 k4
  have D4 : Def K mg "place_of" s_place_of p_place_of f4 _ := ⟨F4, PySem.W.mg_of X G a4, F4.binds (ps := p_place_of) fun _ _ _ _ _ _ us hl => match us, hl with | [_, _], _ => rfl⟩
  have F5 := fun_mk (st := s_places_of) l5 c5 k5
  have D5 : Def K mg "places_of" s_places_of p_places_of f5 _ := ⟨F5, PySem.W.mg_of X G a5, F5.binds (ps := p_places_of) fun _ _ _ _ _ _ us hl => match us, hl with | [_, _], _ => rfl⟩
  have F6 := fun_mk (st := s_kind_of) l6 c6 k6
  have D6 : Def K mg "kind_of" s_kind_of p_kind_of f6 _ := ⟨F6, PySem.W.mg_of X G a6, F6.binds (ps := p_kind_of) fun _ _ _ _ _ _ us hl => match us, hl with | [_, _], _ => rfl⟩
  have F7 := fun_mk (st := s_has_word) l7 c7 k7
  have D7 : Def K mg "has_word" s_has_word p_has_word f7 _ := ⟨F7, PySem.W.mg_of X G a7, F7.binds (ps := p_has_word) fun _ _ _ _ _ _ us hl => match us, hl with | [_], _ => rfl⟩
  have F8 := fun_mk (st := s_has_form) l8 c8 k8
  have D8 : Def K mg "has_form" s_has_form p_has_form f8 _ := ⟨F8, PySem.W.mg_of X G a8, F8.binds (ps := p_has_form) fun _ _ _ _ _ _ us hl => match us, hl with | [_], _ => rfl⟩
  have F9 := fun_mk (st := s_is_check) l9 c9 k9
  have D9 : Def K mg "is_check" s_is_check p_is_check f9 _ := ⟨F9, PySem.W.mg_of X G a9, F9.binds (ps := p_is_check) fun _ _ _ _ _ _ us hl => match us, hl with | [_, _], _ => rfl⟩
  have F10 := fun_mk (st := s_is_right) l10 c10 k10
  have D10 : Def K mg "is_right" s_is_right p_is_right f10 _ := ⟨F10, PySem.W.mg_of X G a10, F10.binds (ps := p_is_right) fun _ _ _ _ _ _ us hl => match us, hl with | [_, _, _], _ => rfl⟩
  have F11 := fun_mk (st := s_just_within) l11 c11 k11
  have D11 : Def K mg "just_within" s_just_within p_just_within f11 _ := ⟨F11, PySem.W.mg_of X G a11, F11.binds (ps := p_just_within) fun _ _ _ _ _ _ us hl => match us, hl with | [_], _ => rfl⟩
  have F12 := fun_mk (st := s_with_unlike_names) l12 c12 k12
  have D12 : Def K mg "with_unlike_names" s_with_unlike_names p_with_unlike_names f12 _ := ⟨F12, PySem.W.mg_of X G a12, F12.binds (ps := p_with_unlike_names) fun _ _ _ _ _ _ us hl => match us, hl with | [_], _ => rfl⟩
  have F13 := fun_mk (st := s_named_columns) l13 c13 k13
  have D13 : Def K mg "named_columns" s_named_columns p_named_columns f13 _ := ⟨F13, PySem.W.mg_of X G a13, F13.binds (ps := p_named_columns) fun _ _ _ _ _ _ us hl => match us, hl with | [_, _], _ => rfl⟩
  have F14 := fun_mk (st := s_where_columns) l14 c14 k14
  have D14 : Def K mg "where_columns" s_where_columns p_where_columns f14 _ := ⟨F14, PySem.W.mg_of X G a14, F14.binds (ps := p_where_columns) fun _ _ _ _ _ _ us hl => match us, hl with | [_, _], _ => rfl⟩
  have F15 := fun_mk (st := s_pick_columns) l15 c15 k15
  have D15 : Def K mg "pick_columns" s_pick_columns p_pick_columns f15 _ := ⟨F15, PySem.W.mg_of X G a15, F15.binds (ps := p_pick_columns) fun _ _ _ _ _ _ us hl => match us, hl with | [_, _], _ => rfl⟩
  have F16 := fun_mk (st := s_called_columns) l16 c16 k16
  have D16 : Def K mg "called_columns" s_called_columns p_called_columns f16 _ := ⟨F16, PySem.W.mg_of X G a16, F16.binds (ps := p_called_columns) fun _ _ _ _ _ _ us hl => match us, hl with | [_, _], _ => rfl⟩
  have F17 := fun_mk (st := s_are_paired) l17 c17 k17
  have D17 : Def K mg "are_paired" s_are_paired p_are_paired f17 _ := ⟨F17, PySem.W.mg_of X G a17, F17.binds (ps := p_are_paired) fun _ _ _ _ _ _ us hl => match us, hl with | [_, _], _ => rfl⟩
  have F18 := fun_mk (st := s_join_columns) l18 c18 k18
  have D18 : Def K mg "join_columns" s_join_columns p_join_columns f18 _ := ⟨F18, PySem.W.mg_of X G a18, F18.binds (ps := p_join_columns) fun _ _ _ _ _ _ us hl => match us, hl with | [_, _], _ => rfl⟩
  have F19 := fun_mk (st := s_lacking_columns) l19 c19 k19
  have D19 : Def K mg "lacking_columns" s_lacking_columns p_lacking_columns f19 _ := ⟨F19, PySem.W.mg_of X G a19, F19.binds (ps := p_lacking_columns) fun _ _ _ _ _ _ us hl => match us, hl with | [_, _], _ => rfl⟩
  have F20 := fun_mk (st := s_sum_kind) l20 c20 k20
  have D20 : Def K mg "sum_kind" s_sum_kind p_sum_kind f20 _ := ⟨F20, PySem.W.mg_of X G a20, F20.binds (ps := p_sum_kind) fun _ _ _ _ _ _ us hl => match us, hl with | [_, _, _], _ => rfl⟩
  have F21 := fun_mk (st := s_sum_column) l21 c21 k21
  have D21 : Def K mg "sum_column" s_sum_column p_sum_column f21 _ := ⟨F21, PySem.W.mg_of X G a21, F21.binds (ps := p_sum_column) fun _ _ _ _ _ _ us hl => match us, hl with | [_, _], _ => rfl⟩
  have F22 := fun_mk (st := s_sums_columns) l22 c22 k22
  have D22 : Def K mg "sums_columns" s_sums_columns p_sums_columns f22 _ := ⟨F22, PySem.W.mg_of X G a22, F22.binds (ps := p_sums_columns) fun _ _ _ _ _ _ us hl => match us, hl with | [_, _], _ => rfl⟩
  have F23 := fun_mk (st := s_once_columns) l23 c23 k23
  have D23 : Def K mg "once_columns" s_once_columns p_once_columns f23 _ := ⟨F23, PySem.W.mg_of X G a23, F23.binds (ps := p_once_columns) fun _ _ _ _ _ _ us hl => match us, hl with | [_, _], _ => rfl⟩
  have F24 := fun_mk (st := s_is_step) l24 c24 k24
  have D24 : Def K mg "is_step" s_is_step p_is_step f24 _ := ⟨F24, PySem.W.mg_of X G a24, F24.binds (ps := p_is_step) fun _ _ _ _ _ _ us hl => match us, hl with | [_], _ => rfl⟩
  have F25 := fun_mk (st := s_is_order) l25 c25 k25
  have D25 : Def K mg "is_order" s_is_order p_is_order f25 _ := ⟨F25, PySem.W.mg_of X G a25, F25.binds (ps := p_is_order) fun _ _ _ _ _ _ us hl => match us, hl with | [_, _], _ => rfl⟩
  have F26 := fun_mk (st := s_first_columns) l26 c26 k26
  have D26 : Def K mg "first_columns" s_first_columns p_first_columns f26 _ := ⟨F26, PySem.W.mg_of X G a26, F26.binds (ps := p_first_columns) fun _ _ _ _ _ _ us hl => match us, hl with | [_, _], _ => rfl⟩
  have F27 := fun_mk (st := s_leaf_columns) l27 c27 k27
  have D27 : Def K mg "leaf_columns" s_leaf_columns p_leaf_columns f27 _ := ⟨F27, PySem.W.mg_of X G a27, F27.binds (ps := p_leaf_columns) fun _ _ _ _ _ _ us hl => match us, hl with | [_, _], _ => rfl⟩
  have F28 := fun_mk (st := s_columns_in) l28 c28 k28
  have D28 : Def K mg "columns_in" s_columns_in p_columns_in f28 _ := ⟨F28, PySem.W.mg_of X G a28, F28.binds (ps := p_columns_in) fun _ _ _ _ _ _ us hl => match us, hl with | [_, _, _], _ => rfl⟩
  have F29 := fun_mk (st := s_columns_of) l29 c29 k29
  have D29 : Def K mg "columns_of" s_columns_of p_columns_of f29 _ := ⟨F29, PySem.W.mg_of X G a29, F29.binds (ps := p_columns_of) fun _ _ _ _ _ _ us hl => match us, hl with | [_, _], _ => rfl⟩
  have F30 := fun_mk (st := s_is_question) l30 c30 k30
  have D30 : Def K mg "is_question" s_is_question p_is_question f30 _ := ⟨F30, PySem.W.mg_of X G a30, F30.binds (ps := p_is_question) fun _ _ _ _ _ _ us hl => match us, hl with | [_, _], _ => rfl⟩
  have F31 := fun_mk (st := s_law_hand) l31 c31 k31
  have D31 : Def K mg "_law_hand" s_law_hand p_law_hand f31 _ := ⟨F31, PySem.W.mg_of X G a31, F31.binds (ps := p_law_hand) fun _ _ _ _ _ _ us hl => match us, hl with | [_], _ => rfl⟩
  have F32 := fun_mk (st := s_law_pick) l32 c32 k32
  have D32 : Def K mg "_law_pick" s_law_pick p_law_pick f32 _ := ⟨F32, PySem.W.mg_of X G a32, F32.binds (ps := p_law_pick) fun _ _ _ _ _ _ us hl => match us, hl with | [_, _], _ => rfl⟩
  have F33 := fun_mk (st := s_law_of) l33 c33 k33
  have D33 : Def K mg "_law_of" s_law_of p_law_of f33 _ := ⟨F33, PySem.W.mg_of X G a33, F33.binds (ps := p_law_of) fun _ _ _ _ _ _ us hl => match us, hl with | [_, _], _ => rfl⟩
  have F34 := fun_mk (st := s_law_names) l34 c34 k34
  have D34 : Def K mg "_law_names" s_law_names p_law_names f34 _ := ⟨F34, PySem.W.mg_of X G a34, F34.binds (ps := p_law_names) fun _ _ _ _ _ _ us hl => match us, hl with | [_], _ => rfl⟩
  have F35 := fun_mk (st := s_law_plan) l35 c35 k35
  have D35 : Def K mg "_law_plan" s_law_plan p_law_plan f35 _ := ⟨F35, PySem.W.mg_of X G a35, F35.binds (ps := p_law_plan) fun _ _ _ _ _ _ us hl => match us, hl with | [_, _, _], _ => rfl⟩
  have F36 := fun_mk (st := s_law_worth) l36 c36 k36
  have D36 : Def K mg "_law_worth" s_law_worth p_law_worth f36 _ := ⟨F36, PySem.W.mg_of X G a36, F36.binds (ps := p_law_worth) fun _ _ _ _ _ _ us hl => match us, hl with | [_, _], _ => rfl⟩
  have F37 := fun_mk (st := s_law_named) l37 c37 k37
  have D37 : Def K mg "_law_named" s_law_named p_law_named f37 _ := ⟨F37, PySem.W.mg_of X G a37, F37.binds (ps := p_law_named) fun _ _ _ _ _ _ us hl => match us, hl with | [_, _], _ => rfl⟩
  have F38 := fun_mk (st := s_law_check) l38 c38 k38
  have D38 : Def K mg "_law_check" s_law_check p_law_check f38 _ := ⟨F38, PySem.W.mg_of X G a38, F38.binds (ps := p_law_check) fun _ _ _ _ _ _ us hl => match us, hl with | [_, _, _], _ => rfl⟩
  have F39 := fun_mk (st := s_law_fresh) l39 c39 k39
  have D39 : Def K mg "_law_fresh" s_law_fresh p_law_fresh f39 _ := ⟨F39, PySem.W.mg_of X G a39, F39.binds (ps := p_law_fresh) fun _ _ _ _ _ _ us hl => match us, hl with | [_, _], _ => rfl⟩
  have F40 := fun_mk (st := s_law_some) l40 c40 k40
  have D40 : Def K mg "_law_some" s_law_some p_law_some f40 _ := ⟨F40, PySem.W.mg_of X G a40, F40.binds (ps := p_law_some) fun _ _ _ _ _ _ us hl => match us, hl with | [_, _], _ => rfl⟩
  have F41 := fun_mk (st := s_law_called) l41 c41 k41
  have D41 : Def K mg "_law_called" s_law_called p_law_called f41 _ := ⟨F41, PySem.W.mg_of X G a41, F41.binds (ps := p_law_called) fun _ _ _ _ _ _ us hl => match us, hl with | [_, _, _], _ => rfl⟩
  have F42 := fun_mk (st := s_law_sums) l42 c42 k42
  have D42 : Def K mg "_law_sums" s_law_sums p_law_sums f42 _ := ⟨F42, PySem.W.mg_of X G a42, F42.binds (ps := p_law_sums) fun _ _ _ _ _ _ us hl => match us, hl with | [_, _], _ => rfl⟩
  have F43 := fun_mk (st := s_law_two) l43 c43 k43
  have D43 : Def K mg "_law_two" s_law_two p_law_two f43 _ := ⟨F43, PySem.W.mg_of X G a43, F43.binds (ps := p_law_two) fun _ _ _ _ _ _ us hl => match us, hl with | [_, _, _, _], _ => rfl⟩
  have F44 := fun_mk (st := s_law_first) l44 c44 k44
  have D44 : Def K mg "_law_first" s_law_first p_law_first f44 _ := ⟨F44, PySem.W.mg_of X G a44, F44.binds (ps := p_law_first) fun _ _ _ _ _ _ us hl => match us, hl with | [_, _], _ => rfl⟩
  have F45 := fun_mk (st := s_law_question) l45 c45 k45
  have D45 : Def K mg "_law_question" s_law_question p_law_question f45 _ := ⟨F45, PySem.W.mg_of X G a45, F45.binds (ps := p_law_question) fun _ _ _ _ _ _ us hl => match us, hl with | [_, _, _], _ => rfl⟩
  have F46 := fun_mk (st := s_law_is_name) l46 c46 k46
  have D46 : Def K mg "_law_is_name" s_law_is_name p_law_is_name f46 _ := ⟨F46, PySem.W.mg_of X G a46, F46.binds (ps := p_law_is_name) fun _ _ _ _ _ _ us hl => match us, hl with | [_], _ => rfl⟩
  have F47 := fun_mk (st := s_law_is_number) l47 c47 k47
  have D47 : Def K mg "_law_is_number" s_law_is_number p_law_is_number f47 _ := ⟨F47, PySem.W.mg_of X G a47, F47.binds (ps := p_law_is_number) fun _ _ _ _ _ _ us hl => match us, hl with | [_], _ => rfl⟩
  have F48 := fun_mk (st := s_law_fits) l48 c48 k48
  have D48 : Def K mg "_law_fits" s_law_fits p_law_fits f48 _ := ⟨F48, PySem.W.mg_of X G a48, F48.binds (ps := p_law_fits) fun _ _ _ _ _ _ us hl => match us, hl with | [_, _], _ => rfl⟩
  have F49 := fun_mk (st := s_law_kind) l49 c49 k49
  have D49 : Def K mg "_law_kind" s_law_kind p_law_kind f49 _ := ⟨F49, PySem.W.mg_of X G a49, F49.binds (ps := p_law_kind) fun _ _ _ _ _ _ us hl => match us, hl with | [_, _], _ => rfl⟩
  have F50 := fun_mk (st := s_law_is_check) l50 c50 k50
  have D50 : Def K mg "_law_is_check" s_law_is_check p_law_is_check f50 _ := ⟨F50, PySem.W.mg_of X G a50, F50.binds (ps := p_law_is_check) fun _ _ _ _ _ _ us hl => match us, hl with | [_, _], _ => rfl⟩
  have F51 := fun_mk (st := s_law_are_unlike) l51 c51 k51
  have D51 : Def K mg "_law_are_unlike" s_law_are_unlike p_law_are_unlike f51 _ := ⟨F51, PySem.W.mg_of X G a51, F51.binds (ps := p_law_are_unlike) fun _ _ _ _ _ _ us hl => match us, hl with | [_], _ => rfl⟩
  have F52 := fun_mk (st := s_law_taken) l52 c52 k52
  have D52 : Def K mg "_law_taken" s_law_taken p_law_taken f52 _ := ⟨F52, PySem.W.mg_of X G a52, F52.binds (ps := p_law_taken) fun _ _ _ _ _ _ us hl => match us, hl with | [_, _], _ => rfl⟩
  have F53 := fun_mk (st := s_law_sum) l53 c53 k53
  have D53 : Def K mg "_law_sum" s_law_sum p_law_sum f53 _ := ⟨F53, PySem.W.mg_of X G a53, F53.binds (ps := p_law_sum) fun _ _ _ _ _ _ us hl => match us, hl with | [_, _], _ => rfl⟩
  have F54 := fun_mk (st := s_law_sums_found) l54 c54 k54
  have D54 : Def K mg "_law_sums_found" s_law_sums_found p_law_sums_found f54 _ := ⟨F54, PySem.W.mg_of X G a54, F54.binds (ps := p_law_sums_found) fun _ _ _ _ _ _ us hl => match us, hl with | [_, _], _ => rfl⟩
  have F55 := fun_mk (st := s_law_is_order) l55 c55 k55
  have D55 : Def K mg "_law_is_order" s_law_is_order p_law_is_order f55 _ := ⟨F55, PySem.W.mg_of X G a55, F55.binds (ps := p_law_is_order) fun _ _ _ _ _ _ us hl => match us, hl with | [_, _], _ => rfl⟩
  have F56 := fun_mk (st := s_law_sides_found) l56 c56 k56
  have D56 : Def K mg "_law_sides_found" s_law_sides_found p_law_sides_found f56 _ := ⟨F56, PySem.W.mg_of X G a56, F56.binds (ps := p_law_sides_found) fun _ _ _ _ _ _ us hl => match us, hl with | [_, _, _], _ => rfl⟩
  have F57 := fun_mk (st := s_law_one_found) l57 c57 k57
  have D57 : Def K mg "_law_one_found" s_law_one_found p_law_one_found f57 _ := ⟨F57, PySem.W.mg_of X G a57, F57.binds (ps := p_law_one_found) fun _ _ _ _ _ _ us hl => match us, hl with | [_, _, _], _ => rfl⟩
  have F58 := fun_mk (st := s_law_found) l58 c58 k58
  have D58 : Def K mg "_law_found" s_law_found p_law_found f58 _ := ⟨F58, PySem.W.mg_of X G a58, F58.binds (ps := p_law_found) fun _ _ _ _ _ _ us hl => match us, hl with | [_, _], _ => rfl⟩
  have F59 := fun_mk (st := s_law) l59 c59 k59
  have D59 : Def K mg "law" s_law p_law fa _ := ⟨F59, PySem.W.mg_of X G a59, F59.binds (ps := p_law) fun _ _ _ _ _ _ us hl => match us, hl with | [_], _ => rfl⟩
  let B : DD K mg := { f_is_whole := f0, fd_is_whole := _, d_is_whole := D0, f_is_number := f1, fd_is_number := _, d_is_number := D1, f_is_name := f2, fd_is_name := _, d_is_name := D2, f_fits := f3, fd_fits := _, d_fits := D3, f_place_of := f4, fd_place_of := _, d_place_of := D4, f_places_of := f5, fd_places_of := _, d_places_of := D5, f_kind_of := f6, fd_kind_of := _, d_kind_of := D6, f_has_word := f7, fd_has_word := _, d_has_word := D7, f_has_form := f8, fd_has_form := _, d_has_form := D8, f_is_check := f9, fd_is_check := _, d_is_check := D9, f_is_right := f10, fd_is_right := _, d_is_right := D10, f_just_within := f11, fd_just_within := _, d_just_within := D11, f_with_unlike_names := f12, fd_with_unlike_names := _, d_with_unlike_names := D12, f_named_columns := f13, fd_named_columns := _, d_named_columns := D13, f_where_columns := f14, fd_where_columns := _, d_where_columns := D14, f_pick_columns := f15, fd_pick_columns := _, d_pick_columns := D15, f_called_columns := f16, fd_called_columns := _, d_called_columns := D16, f_are_paired := f17, fd_are_paired := _, d_are_paired := D17, f_join_columns := f18, fd_join_columns := _, d_join_columns := D18, f_lacking_columns := f19, fd_lacking_columns := _, d_lacking_columns := D19, f_sum_kind := f20, fd_sum_kind := _, d_sum_kind := D20, f_sum_column := f21, fd_sum_column := _, d_sum_column := D21, f_sums_columns := f22, fd_sums_columns := _, d_sums_columns := D22, f_once_columns := f23, fd_once_columns := _, d_once_columns := D23, f_is_step := f24, fd_is_step := _, d_is_step := D24, f_is_order := f25, fd_is_order := _, d_is_order := D25, f_first_columns := f26, fd_first_columns := _, d_first_columns := D26, f_leaf_columns := f27, fd_leaf_columns := _, d_leaf_columns := D27, f_columns_in := f28, fd_columns_in := _, d_columns_in := D28, f_columns_of := f29, fd_columns_of := _, d_columns_of := D29, f_is_question := f30, fd_is_question := _, d_is_question := D30, f_law_hand := f31, fd_law_hand := _, d_law_hand := D31, f_law_pick := f32, fd_law_pick := _, d_law_pick := D32, f_law_of := f33, fd_law_of := _, d_law_of := D33, f_law_names := f34, fd_law_names := _, d_law_names := D34, f_law_plan := f35, fd_law_plan := _, d_law_plan := D35, f_law_worth := f36, fd_law_worth := _, d_law_worth := D36, f_law_named := f37, fd_law_named := _, d_law_named := D37, f_law_check := f38, fd_law_check := _, d_law_check := D38, f_law_fresh := f39, fd_law_fresh := _, d_law_fresh := D39, f_law_some := f40, fd_law_some := _, d_law_some := D40, f_law_called := f41, fd_law_called := _, d_law_called := D41, f_law_sums := f42, fd_law_sums := _, d_law_sums := D42, f_law_two := f43, fd_law_two := _, d_law_two := D43, f_law_first := f44, fd_law_first := _, d_law_first := D44, f_law_question := f45, fd_law_question := _, d_law_question := D45, f_law_is_name := f46, fd_law_is_name := _, d_law_is_name := D46, f_law_is_number := f47, fd_law_is_number := _, d_law_is_number := D47, f_law_fits := f48, fd_law_fits := _, d_law_fits := D48, f_law_kind := f49, fd_law_kind := _, d_law_kind := D49, f_law_is_check := f50, fd_law_is_check := _, d_law_is_check := D50, f_law_are_unlike := f51, fd_law_are_unlike := _, d_law_are_unlike := D51, f_law_taken := f52, fd_law_taken := _, d_law_taken := D52, f_law_sum := f53, fd_law_sum := _, d_law_sum := D53, f_law_sums_found := f54, fd_law_sums_found := _, d_law_sums_found := D54, f_law_is_order := f55, fd_law_is_order := _, d_law_is_order := D55, f_law_sides_found := f56, fd_law_sides_found := _, d_law_sides_found := D56, f_law_one_found := f57, fd_law_one_found := _, d_law_one_found := D57, f_law_found := f58, fd_law_found := _, d_law_found := D58, f_law := fa, fd_law := _, d_law := D59 }
  have TW : TxtW K w mg B := { c_COLUMNS := ⟨(by unfold kvs_COLUMNS; first | decide | (repeat (first | exact List.forall_mem_nil _ | refine List.forall_mem_cons.mpr ⟨rfl, ?_⟩))), ⟨_, _, _, PySem.W.mg_of X G y_COLUMNS, ⟨w_COLUMNS, l_COLUMNS, m_COLUMNS⟩, (.cons _ rfl rfl (.cons _ rfl rfl (.cons _ rfl rfl (.cons _ rfl rfl (.cons _ rfl rfl (.cons _ rfl rfl (.cons _ rfl rfl (.cons _ rfl rfl .nil))))))))⟩⟩, c_LENGTHS_checks := ⟨(by unfold kvs_LENGTHS_checks; first | decide | (repeat (first | exact List.forall_mem_nil _ | refine List.forall_mem_cons.mpr ⟨rfl, ?_⟩))), ⟨_, _, _, PySem.W.mg_of X G y_LENGTHS_checks, ⟨w_LENGTHS_checks, l_LENGTHS_checks, m_LENGTHS_checks⟩, (.cons _ rfl ⟨_, rfl⟩ (.cons _ rfl ⟨_, rfl⟩ (.cons _ rfl ⟨_, rfl⟩ (.cons _ rfl ⟨_, rfl⟩ (.cons _ rfl ⟨_, rfl⟩ (.cons _ rfl ⟨_, rfl⟩ .nil))))))⟩⟩, c_LENGTHS_forms := ⟨(by unfold kvs_LENGTHS_forms; first | decide | (repeat (first | exact List.forall_mem_nil _ | refine List.forall_mem_cons.mpr ⟨rfl, ?_⟩))), ⟨_, _, _, PySem.W.mg_of X G y_LENGTHS_forms, ⟨w_LENGTHS_forms, l_LENGTHS_forms, m_LENGTHS_forms⟩, (.cons _ rfl ⟨_, rfl⟩ (.cons _ rfl ⟨_, rfl⟩ (.cons _ rfl ⟨_, rfl⟩ (.cons _ rfl ⟨_, rfl⟩ (.cons _ rfl ⟨_, rfl⟩ (.cons _ rfl ⟨_, rfl⟩ (.cons _ rfl ⟨_, rfl⟩ (.cons _ rfl ⟨_, rfl⟩ (.cons _ rfl ⟨_, rfl⟩ (.cons _ rfl ⟨_, rfl⟩ .nil))))))))))⟩⟩, c_WITHIN := ⟨(by unfold kvs_WITHIN; first | decide | (repeat (first | exact List.forall_mem_nil _ | refine List.forall_mem_cons.mpr ⟨rfl, ?_⟩))), ⟨_, _, _, PySem.W.mg_of X G y_WITHIN, ⟨w_WITHIN, l_WITHIN, m_WITHIN⟩, (.cons _ rfl ⟨_, rfl⟩ (.cons _ rfl ⟨_, rfl⟩ (.cons _ rfl ⟨_, rfl⟩ (.cons _ rfl ⟨_, rfl⟩ (.cons _ rfl ⟨_, rfl⟩ (.cons _ rfl ⟨_, rfl⟩ (.cons _ rfl ⟨_, rfl⟩ (.cons _ rfl ⟨_, rfl⟩ (.cons _ rfl ⟨_, rfl⟩ (.cons _ rfl ⟨_, rfl⟩ .nil))))))))))⟩⟩ }
  exact ⟨PySem.W.fnOf "law" "law" (defArgs s_law) (defBody s_law) (defScope s_law) .none kV59 dc59 pm59 an59 cd59 ct59, fun s v => .of_eq rfl, fun base _ _ => law_sp (ok_law T B TW)⟩
theorem walk {l : PySem.W.OpenLaw} {q : Program} {loose : List Str} {XP : (Str → Option Value) → Heap → Prop} {YP : World → Heap → Prop} {d : DefRec} {K : Params → PySem.W.Frag} (hn : l.most = some 63) (hdf : d.params.defaults = [])
    (hY : ∀ (w : World) (h : Heap), YP w h → (K w.params).In h)
    (F : ∀ (w : World) (mg : Str → Option Value) (fa : Addr) (h : Heap), (K w.params).In h → h.Ns mainGlobals mg → mg d.name = some (.ref fa) →
      ∃ fd : FuncData, (∀ (s : Shared) (u : Value), BindsTo s fd ⟨[u], []⟩ [("script", u)]) ∧ ∀ base : Heap, (K w.params).In base → base.Ns mainGlobals mg → DG.FnG l.prog w (K w.params) mg base CX0 60 fa fd ["script"] (spLaw (K w.params))) :
    PySem.W.WalkO q loose XP YP l.row.toRowW d [] (fun f vs => PySem.call f vs) :=
  DG.walkG (n := 63) (k := 60) (x := "script") (CX := fun _ => CX0) (sp := fun w => spLaw (K w.params)) hn (by decide) hdf ⟨rfl, by decide, by decide⟩ hY F (fun _ _ a ns hl _ hS => ⟨a, ns, rfl, hS, hl, fun _ => rfl⟩) fun _ _ _ _ _ z => z
end K04

open PySem PySem.W PyProof.Rows in
set_option maxRecDepth 100000 in
set_option maxHeartbeats 0 in
theorem PySem.Challenge.cw_standviews_k05_questions_and_their_colum_holds : PySem.Challenge.rw_standviews_k05_questions_and_their_colum.Holds := by
  w_on; o_law; k_head; (case hw => w_witness2)
  k_fill
  refine K04.walk (l := PySem.Challenge.rw_standviews_k05_questions_and_their_colum) rfl rfl (fun w h Y => PySem.W.kIn_of Y) ?F
  case F =>
    intro w mg fa h KX G hmg
    refine' K04.all_mk KX G hmg ?a0 ?l0 ?c0 ?k0 ?a1 ?l1 ?c1 ?k1 ?a2 ?l2 ?c2 ?k2 ?a3 ?l3 ?c3 ?k3 ?a4 ?l4 ?c4 ?k4 ?a5 ?l5 ?c5 ?k5 ?a6 ?l6 ?c6 ?k6 ?a7 ?l7 ?c7 ?k7 ?a8 ?l8 ?c8 ?k8 ?a9 ?l9 ?c9 ?k9 ?a10 ?l10 ?c10 ?k10 ?a11 ?l11 ?c11 ?k11 ?a12 ?l12 ?c12 ?k12 ?a13 ?l13 ?c13 ?k13 ?a14 ?l14 ?c14 ?k14 ?a15 ?l15 ?c15 ?k15 ?a16 ?l16 ?c16 ?k16 ?a17 ?l17 ?c17 ?k17 ?a18 ?l18 ?c18 ?k18 ?a19 ?l19 ?c19 ?k19 ?a20 ?l20 ?c20 ?k20 ?a21 ?l21 ?c21 ?k21 ?a22 ?l22 ?c22 ?k22 ?a23 ?l23 ?c23 ?k23 ?a24 ?l24 ?c24 ?k24 ?a25 ?l25 ?c25 ?k25 ?a26 ?l26 ?c26 ?k26 ?a27 ?l27 ?c27 ?k27 ?a28 ?l28 ?c28 ?k28 ?a29 ?l29 ?c29 ?k29 ?a30 ?l30 ?c30 ?k30 ?a31 ?l31 ?c31 ?k31 ?a32 ?l32 ?c32 ?k32 ?a33 ?l33 ?c33 ?k33 ?a34 ?l34 ?c34 ?k34 ?a35 ?l35 ?c35 ?k35 ?a36 ?l36 ?c36 ?k36 ?a37 ?l37 ?c37 ?k37 ?a38 ?l38 ?c38 ?k38 ?a39 ?l39 ?c39 ?k39 ?a40 ?l40 ?c40 ?k40 ?a41 ?l41 ?c41 ?k41 ?a42 ?l42 ?c42 ?k42 ?a43 ?l43 ?c43 ?k43 ?a44 ?l44 ?c44 ?k44 ?a45 ?l45 ?c45 ?k45 ?a46 ?l46 ?c46 ?k46 ?a47 ?l47 ?c47 ?k47 ?a48 ?l48 ?c48 ?k48 ?a49 ?l49 ?c49 ?k49 ?a50 ?l50 ?c50 ?k50 ?a51 ?l51 ?c51 ?k51 ?a52 ?l52 ?c52 ?k52 ?a53 ?l53 ?c53 ?k53 ?a54 ?l54 ?c54 ?k54 ?a55 ?l55 ?c55 ?k55 ?a56 ?l56 ?c56 ?k56 ?a57 ?l57 ?c57 ?k57 ?a58 ?l58 ?c58 ?k58 ?a59 ?l59 ?c59 ?k59 ?z_all ?z_bool ?z_dict ?z_enumerate ?z_int ?z_isinstance ?z_len ?z_list ?z_range ?z_repr ?z_set ?z_sorted ?z_str ?z_tuple ?z_type ?z_zip ?y_GREATEST ?y_LONGEST ?y_WAYS ?w_WAYS ?y_COLUMNS ?w_COLUMNS ?l_COLUMNS ?m_COLUMNS ?y_LENGTHS_checks ?w_LENGTHS_checks ?l_LENGTHS_checks ?m_LENGTHS_checks ?y_LENGTHS_forms ?w_LENGTHS_forms ?l_LENGTHS_forms ?m_LENGTHS_forms ?y_WITHIN ?w_WITHIN ?l_WITHIN ?m_WITHIN
    (case a0 => k_is)
    (case l0 => k_is)
    (case c0 => k_is)
    (case k0 => k_is)
    (case a1 => k_is)
    (case l1 => k_is)
    (case c1 => k_is)
    (case k1 => k_is)
    (case a2 => k_is)
    (case l2 => k_is)
    (case c2 => k_is)
    (case k2 => k_is)
    (case a3 => k_is)
    (case l3 => k_is)
    (case c3 => k_is)
    (case k3 => k_is)
    (case a4 => k_is)
    (case l4 => k_is)
    (case c4 => k_is)
    (case k4 => k_is)
    (case a5 => k_is)
    (case l5 => k_is)
    (case c5 => k_is)
    (case k5 => k_is)
    (case a6 => k_is)
    (case l6 => k_is)
    (case c6 => k_is)
    (case k6 => k_is)
    (case a7 => k_is)
    (case l7 => k_is)
    (case c7 => k_is)
    (case k7 => k_is)
    (case a8 => k_is)
    (case l8 => k_is)
    (case c8 => k_is)
    (case k8 => k_is)
    (case a9 => k_is)
    (case l9 => k_is)
    (case c9 => k_is)
    (case k9 => k_is)
    (case a10 => k_is)
    (case l10 => k_is)
    (case c10 => k_is)
    (case k10 => k_is)
    (case a11 => k_is)
    (case l11 => k_is)
    (case c11 => k_is)
    (case k11 => k_is)
    (case a12 => k_is)
    (case l12 => k_is)
    (case c12 => k_is)
    (case k12 => k_is)
    (case a13 => k_is)
    (case l13 => k_is)
    (case c13 => k_is)
    (case k13 => k_is)
    (case a14 => k_is)
    (case l14 => k_is)
    (case c14 => k_is)
    (case k14 => k_is)
    (case a15 => k_is)
    (case l15 => k_is)
    (case c15 => k_is)
    (case k15 => k_is)
    (case a16 => k_is)
    (case l16 => k_is)
    (case c16 => k_is)
    (case k16 => k_is)
    (case a17 => k_is)
    (case l17 => k_is)
    (case c17 => k_is)
    (case k17 => k_is)
    (case a18 => k_is)
    (case l18 => k_is)
    (case c18 => k_is)
    (case k18 => k_is)
    (case a19 => k_is)
    (case l19 => k_is)
    (case c19 => k_is)
    (case k19 => k_is)
    (case a20 => k_is)
    (case l20 => k_is)
    (case c20 => k_is)
    (case k20 => k_is)
    (case a21 => k_is)
    (case l21 => k_is)
    (case c21 => k_is)
    (case k21 => k_is)
    (case a22 => k_is)
    (case l22 => k_is)
    (case c22 => k_is)
    (case k22 => k_is)
    (case a23 => k_is)
    (case l23 => k_is)
    (case c23 => k_is)
    (case k23 => k_is)
    (case a24 => k_is)
    (case l24 => k_is)
    (case c24 => k_is)
    (case k24 => k_is)
    (case a25 => k_is)
    (case l25 => k_is)
    (case c25 => k_is)
    (case k25 => k_is)
    (case a26 => k_is)
    (case l26 => k_is)
    (case c26 => k_is)
    (case k26 => k_is)
    (case a27 => k_is)
    (case l27 => k_is)
    (case c27 => k_is)
    (case k27 => k_is)
    (case a28 => k_is)
    (case l28 => k_is)
    (case c28 => k_is)
    (case k28 => k_is)
    (case a29 => k_is)
    (case l29 => k_is)
    (case c29 => k_is)
    (case k29 => k_is)
    (case a30 => k_is)
    (case l30 => k_is)
    (case c30 => k_is)
    (case k30 => k_is)
    (case a31 => k_is)
    (case l31 => k_is)
    (case c31 => k_is)
    (case k31 => k_is)
    (case a32 => k_is)
    (case l32 => k_is)
    (case c32 => k_is)
    (case k32 => k_is)
    (case a33 => k_is)
    (case l33 => k_is)
    (case c33 => k_is)
    (case k33 => k_is)
    (case a34 => k_is)
    (case l34 => k_is)
    (case c34 => k_is)
    (case k34 => k_is)
    (case a35 => k_is)
    (case l35 => k_is)
    (case c35 => k_is)
    (case k35 => k_is)
    (case a36 => k_is)
    (case l36 => k_is)
    (case c36 => k_is)
    (case k36 => k_is)
    (case a37 => k_is)
    (case l37 => k_is)
    (case c37 => k_is)
    (case k37 => k_is)
    (case a38 => k_is)
    (case l38 => k_is)
    (case c38 => k_is)
    (case k38 => k_is)
    (case a39 => k_is)
    (case l39 => k_is)
    (case c39 => k_is)
    (case k39 => k_is)
    (case a40 => k_is)
    (case l40 => k_is)
    (case c40 => k_is)
    (case k40 => k_is)
    (case a41 => k_is)
    (case l41 => k_is)
    (case c41 => k_is)
    (case k41 => k_is)
    (case a42 => k_is)
    (case l42 => k_is)
    (case c42 => k_is)
    (case k42 => k_is)
    (case a43 => k_is)
    (case l43 => k_is)
    (case c43 => k_is)
    (case k43 => k_is)
    (case a44 => k_is)
    (case l44 => k_is)
    (case c44 => k_is)
    (case k44 => k_is)
    (case a45 => k_is)
    (case l45 => k_is)
    (case c45 => k_is)
    (case k45 => k_is)
    (case a46 => k_is)
    (case l46 => k_is)
    (case c46 => k_is)
    (case k46 => k_is)
    (case a47 => k_is)
    (case l47 => k_is)
    (case c47 => k_is)
    (case k47 => k_is)
    (case a48 => k_is)
    (case l48 => k_is)
    (case c48 => k_is)
    (case k48 => k_is)
    (case a49 => k_is)
    (case l49 => k_is)
    (case c49 => k_is)
    (case k49 => k_is)
    (case a50 => k_is)
    (case l50 => k_is)
    (case c50 => k_is)
    (case k50 => k_is)
    (case a51 => k_is)
    (case l51 => k_is)
    (case c51 => k_is)
    (case k51 => k_is)
    (case a52 => k_is)
    (case l52 => k_is)
    (case c52 => k_is)
    (case k52 => k_is)
    (case a53 => k_is)
    (case l53 => k_is)
    (case c53 => k_is)
    (case k53 => k_is)
    (case a54 => k_is)
    (case l54 => k_is)
    (case c54 => k_is)
    (case k54 => k_is)
    (case a55 => k_is)
    (case l55 => k_is)
    (case c55 => k_is)
    (case k55 => k_is)
    (case a56 => k_is)
    (case l56 => k_is)
    (case c56 => k_is)
    (case k56 => k_is)
    (case a57 => k_is)
    (case l57 => k_is)
    (case c57 => k_is)
    (case k57 => k_is)
    (case a58 => k_is)
    (case l58 => k_is)
    (case c58 => k_is)
    (case k58 => k_is)
    (case a59 => k_is)
    (case l59 => k_is)
    (case c59 => k_is)
    (case k59 => k_is)
    (case z_all => k_is)
    (case z_bool => k_is)
    (case z_dict => k_is)
    (case z_enumerate => k_is)
    (case z_int => k_is)
    (case z_isinstance => k_is)
    (case z_len => k_is)
    (case z_list => k_is)
    (case z_range => k_is)
    (case z_repr => k_is)
    (case z_set => k_is)
    (case z_sorted => k_is)
    (case z_str => k_is)
    (case z_tuple => k_is)
    (case z_type => k_is)
    (case z_zip => k_is)
    (case y_GREATEST => k_is)
    (case y_LONGEST => k_is)
    (case y_WAYS => k_is)
    (case w_WAYS => k_is)
    (case y_COLUMNS => k_is)
    (case w_COLUMNS => k_is)
    (case l_COLUMNS => k_keys)
    (case m_COLUMNS => rfl)
    (case y_LENGTHS_checks => k_is)
    (case w_LENGTHS_checks => k_is)
    (case l_LENGTHS_checks => k_keys)
    (case m_LENGTHS_checks => rfl)
    (case y_LENGTHS_forms => k_is)
    (case w_LENGTHS_forms => k_is)
    (case l_LENGTHS_forms => k_keys)
    (case m_LENGTHS_forms => rfl)
    (case y_WITHIN => k_is)
    (case w_WITHIN => k_is)
    (case l_WITHIN => k_keys)
    (case m_WITHIN => rfl)
